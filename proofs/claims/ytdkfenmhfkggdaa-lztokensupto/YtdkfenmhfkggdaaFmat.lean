/- The first token, if it is a match. -/
import Derived.Test.YtdkfenmhfkggdaaTok
import Derived.Deep.DeepCutAuto
namespace Go.Proofs.Ytdkfenmhfkggdaa
open Go.RowKit
set_option maxHeartbeats 1000000 in
set_option maxRecDepth 20000 in
theorem fmat_any (p : ByteArray) (d : Nat) (w : World) (h3 : 3 ≤ p.size) (hc : 128 ≤ p[0].toNat) (hd : p[1].toNat * 256 + p[2].toNat = d) :
    Calls Try.prog 40 #[.string p] w fun e w' => e = .returned (if d = 0 ∨ 8192 < d then .tuple #[noTok, .int .i64 0, .int .i64 25] else .tuple #[tokV (.mat (p[0].toNat - 124) d), .int .i64 3, .int .i64 0]) ∧ Below w.heap.size w w' := by
  have l0 := p[0].toNat_lt
  have l1 := p[1].toNat_lt
  have l2 := p[2].toNat_lt
  have ho := or_dist p[1].toNat p[2].toNat l2 l1
  rw [hd] at ho
  generalize hb0 : p[0].toNat = c at *
  generalize hb1 : p[1].toNat = a at *
  generalize hb2 : p[2].toNat = b at *
  obtain ⟨c1, hc1⟩ : ∃ x, x = c - 128 := ⟨_, rfl⟩
  obtain ⟨c2, hc2⟩ : ∃ x, x = c - 124 := ⟨_, rfl⟩
  have e1 : IntKind.i64.wrap ((c : Int) - 128) = (c1 : Int) := by rw [wrap_in (by omega) (by omega)]; omega
  have e2 : IntKind.i64.wrap ((c1 : Int) + 4) = (c2 : Int) := by rw [wrap_in (by omega) (by omega)]; omega
  have e3 : IntKind.i64.wrap ((a : Int) * 256) = (a : Int) * 256 := wrap_in (by omega) (by omega)
  have e4 : IntKind.i64.wrap (a : Int) = (a : Int) := wrap_in (by omega) (by omega)
  have e5 : IntKind.i64.wrap (b : Int) = (b : Int) := wrap_in (by omega) (by omega)
  have e6 : IntKind.i64.wrap (c : Int) = (c : Int) := wrap_in (by omega) (by omega)
  have i1 : (1 : Int) < (p.size : Int) := by omega
  have i2 : (2 : Int) < (p.size : Int) := by omega
  have i0 : (0 : Int) < (p.size : Int) := by omega
  have hc2' : c - 124 = c2 := hc2.symm
  rw [hc2']
  have him := fun w => ismat_any ⟨#[]⟩ c2 d w
  have HD := hid hd
  have H2 := hid hc2'
  clear hc1 hc2 hc2' hd
  have HI := hid him
  clear him
  have h3' : ¬ (p.size : Int) < 3 := by omega
  go_enter Try.func40, Try.ntmps40
  go_wp2_with fail
  go_cut [5] (fun v wc => v = .pointer (some ⟨w.heap.size + 1, 0, none⟩) ∧ wc = ((w.alloc (.cells #[.string ⟨#[]⟩, .int .i64 0, .int .i64 0] 47)).alloc (.cells #[.string ⟨#[]⟩, .int .i64 c2, .int .i64 d] 47)).drew)
  case first =>
    go_region_held3 (fun _ => True) (trivial) (fail)
    all_goals
      go_wp2
      go_meet
      case rel => exact ⟨rfl, rfl⟩
  case rest =>
    obtain ⟨rfl, rfl⟩ := hcut
    clear e1 e2 e3 e4 e5 e6 ho
    have HW := hid ((((Below.refl _ w).alloc (Nat.le_refl _) (.cells #[.string ⟨#[]⟩, .int .i64 0, .int .i64 0] 47)).alloc (by simp) (.cells #[.string ⟨#[]⟩, .int .i64 c2, .int .i64 d] 47)).drew)
    by_cases hbad : d = 0 ∨ 8192 < d
    · have em : mB ⟨#[]⟩ (c2 : Int) (d : Int) = false := by unfold mB; rw [decide_eq_false_iff_not]; omega
      have hi := HI.out
      rw [em] at hi
      have HI2 := hid hi
      have HBD := hid hbad
      clear hi em
      go_wp2_with fail
      refine (HI2.out _).mono ?_
      rintro e w1 ⟨rfl, hb1⟩
      have gH : w1.heap[w.heap.size]? = some (.cells #[.string ⟨#[]⟩, .int .i64 0, .int .i64 0] 47 (0, 0)) := (hb1.block _ (by simp; omega)).trans (heap_alloc_at (heap_new w _))
      have gH1 : w1.heap[w.heap.size + 1]? = some (.cells #[.string ⟨#[]⟩, .int .i64 c2, .int .i64 d] 47 (0, 0)) := (hb1.block _ (by simp)).trans (heap_new' _ _ _ (by simp))
      have HB1 := hid (HW.out.trans (hb1.mono (by simp; omega)))
      have k0 : w1.cell? ⟨w.heap.size, 0, none⟩ = some (.string ⟨#[]⟩) := (cell_of gH).trans rfl
      have k1 : w1.cell? ⟨w.heap.size, 1, none⟩ = some (.int .i64 0) := (cell_of gH).trans rfl
      have k2 : w1.cell? ⟨w.heap.size, 2, none⟩ = some (.int .i64 0) := (cell_of gH).trans rfl
      have f0 := froz_of (i := 0) gH
      have f1 := froz_of (i := 1) gH
      have f2 := froz_of (i := 2) gH
      have m0 : w1.cell? ⟨w.heap.size + 1, 0, none⟩ = some (.string ⟨#[]⟩) := (cell_of gH1).trans rfl
      have m1 : w1.cell? ⟨w.heap.size + 1, 1, none⟩ = some (.int .i64 c2) := (cell_of gH1).trans rfl
      have m2 : w1.cell? ⟨w.heap.size + 1, 2, none⟩ = some (.int .i64 d) := (cell_of gH1).trans rfl
      clear hb1 gH gH1
      go_wp2_with fail
      refine bodyPost_ret (v := .tuple #[.agg #[.string ⟨#[]⟩, .int .i64 0, .int .i64 0], .int .i64 0, .int .i64 25]) (by simp [results, Try.results40, go_sem, k0, k1, k2]) rfl ⟨rfl, ?_⟩
      exact ((HB1.out.setCell (Nat.le_refl _) _).setCell (Nat.le_refl _) _).setCell (Nat.le_refl _) _
    · have em : mB ⟨#[]⟩ (c2 : Int) (d : Int) = true := by unfold mB; rw [decide_eq_true_iff]; have := H2.out; exact ⟨rfl, by omega, by omega, by omega⟩
      have hi := HI.out
      rw [em] at hi
      have HI2 := hid hi
      have HBD := hid hbad
      clear hi em
      go_wp2_with fail
      refine (HI2.out _).mono ?_
      rintro e w1 ⟨rfl, hb1⟩
      have gH : w1.heap[w.heap.size]? = some (.cells #[.string ⟨#[]⟩, .int .i64 0, .int .i64 0] 47 (0, 0)) := (hb1.block _ (by simp; omega)).trans (heap_alloc_at (heap_new w _))
      have gH1 : w1.heap[w.heap.size + 1]? = some (.cells #[.string ⟨#[]⟩, .int .i64 c2, .int .i64 d] 47 (0, 0)) := (hb1.block _ (by simp)).trans (heap_new' _ _ _ (by simp))
      have HB1 := hid (HW.out.trans (hb1.mono (by simp; omega)))
      have k0 : w1.cell? ⟨w.heap.size, 0, none⟩ = some (.string ⟨#[]⟩) := (cell_of gH).trans rfl
      have k1 : w1.cell? ⟨w.heap.size, 1, none⟩ = some (.int .i64 0) := (cell_of gH).trans rfl
      have k2 : w1.cell? ⟨w.heap.size, 2, none⟩ = some (.int .i64 0) := (cell_of gH).trans rfl
      have f0 := froz_of (i := 0) gH
      have f1 := froz_of (i := 1) gH
      have f2 := froz_of (i := 2) gH
      have m0 : w1.cell? ⟨w.heap.size + 1, 0, none⟩ = some (.string ⟨#[]⟩) := (cell_of gH1).trans rfl
      have m1 : w1.cell? ⟨w.heap.size + 1, 1, none⟩ = some (.int .i64 c2) := (cell_of gH1).trans rfl
      have m2 : w1.cell? ⟨w.heap.size + 1, 2, none⟩ = some (.int .i64 d) := (cell_of gH1).trans rfl
      clear hb1 gH gH1
      go_wp2_with fail
      refine bodyPost_ret (v := .tuple #[.agg #[.string ⟨#[]⟩, .int .i64 c2, .int .i64 d], .int .i64 3, .int .i64 0]) (by simp [results, Try.results40, go_sem, k0, k1, k2]) rfl ⟨rfl, ?_⟩
      exact ((HB1.out.setCell (Nat.le_refl _) _).setCell (Nat.le_refl _) _).setCell (Nat.le_refl _) _
end Go.Proofs.Ytdkfenmhfkggdaa
