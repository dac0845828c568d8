/- Texts of the proof, put together: LFmat, LFst, LRFst, LChk, LBeh, LUnp, LRUnp. -/
import Derived.Test.YtihokphamgkkcaaGreatML1
import Derived.Deep.DeepCutAuto
import Derived.Laws.MakeOwn
namespace Go.Proofs.YtihokphamgkkcaaGreat.Lz
open Go.RowKit
set_option maxHeartbeats 1000000 in
set_option maxRecDepth 20000 in
theorem fmat_any (p : ByteArray) (d : Nat) (w : World) (h3 : 3 ≤ p.size) (hc : 128 ≤ p[0].toNat) (hd : p[1].toNat * 256 + p[2].toNat = d) :
    Calls Tryz.prog 214 #[.string p] w fun e w' => e = .returned (if d = 0 ∨ 8192 < d then .tuple #[noTok, .int .i64 0, .int .i64 25] else .tuple #[tokV (.mat (p[0].toNat - 124) d), .int .i64 3, .int .i64 0]) ∧ Below w.heap.size w w' := by
  have l0 := p[0].toNat_lt
  have l1 := p[1].toNat_lt
  have l2 := p[2].toNat_lt
  have ho := or_dist p[1].toNat p[2].toNat l2 l1
  rw [hd] at ho
  generalize hb0 : p[0].toNat = c at *
  generalize hb1 : p[1].toNat = a at *
  generalize hb2 : p[2].toNat = b at *
  obtain ⟨c1, hc1⟩ : ∃ x, x = c - 128 := ⟨_, rfl⟩
  obtain ⟨c2, hc2⟩ : ∃ x, x = c - 124 := ⟨_, rfl⟩
  have e1 : IntKind.i64.wrap ((c : Int) - 128) = (c1 : Int) := by rw [wrap_in (by omega) (by omega)]; omega
  have e2 : IntKind.i64.wrap ((c1 : Int) + 4) = (c2 : Int) := by rw [wrap_in (by omega) (by omega)]; omega
  have e3 : IntKind.i64.wrap ((a : Int) * 256) = (a : Int) * 256 := wrap_in (by omega) (by omega)
  have e4 : IntKind.i64.wrap (a : Int) = (a : Int) := wrap_in (by omega) (by omega)
  have e5 : IntKind.i64.wrap (b : Int) = (b : Int) := wrap_in (by omega) (by omega)
  have e6 : IntKind.i64.wrap (c : Int) = (c : Int) := wrap_in (by omega) (by omega)
  have i1 : (1 : Int) < (p.size : Int) := by omega
  have i2 : (2 : Int) < (p.size : Int) := by omega
  have i0 : (0 : Int) < (p.size : Int) := by omega
  have hc2' : c - 124 = c2 := hc2.symm
  rw [hc2']
  have him := fun w => ismat_any ⟨#[]⟩ c2 d w
  have HD := hid hd
  have H2 := hid hc2'
  clear hc1 hc2 hc2' hd
  have HI := hid him
  clear him
  have h3' : ¬ (p.size : Int) < 3 := by omega
  go_enter Tryz.func214, Tryz.ntmps214
  go_wp2_with fail
  go_cut [5] (fun v wc => v = .pointer (some ⟨w.heap.size + 1, 0, none⟩) ∧ wc = ((w.alloc (.cells #[.string ⟨#[]⟩, .int .i64 0, .int .i64 0] 231)).alloc (.cells #[.string ⟨#[]⟩, .int .i64 c2, .int .i64 d] 231)).drew)
  case first =>
    go_region_held3 (fun _ => True) (trivial) (fail)
    all_goals
      go_wp2
      go_meet
      case rel => exact ⟨rfl, rfl⟩
  case rest =>
    obtain ⟨rfl, rfl⟩ := hcut
    clear e1 e2 e3 e4 e5 e6 ho
    have HW := hid ((((Below.refl _ w).alloc (Nat.le_refl _) (.cells #[.string ⟨#[]⟩, .int .i64 0, .int .i64 0] 231)).alloc (by simp) (.cells #[.string ⟨#[]⟩, .int .i64 c2, .int .i64 d] 231)).drew)
    by_cases hbad : d = 0 ∨ 8192 < d
    · have em : mB ⟨#[]⟩ (c2 : Int) (d : Int) = false := by unfold mB; rw [decide_eq_false_iff_not]; omega
      have hi := HI.out
      rw [em] at hi
      have HI2 := hid hi
      have HBD := hid hbad
      clear hi em
      go_wp2_with fail
      refine (HI2.out _).mono ?_
      rintro e w1 ⟨rfl, hb1⟩
      have gH : w1.heap[w.heap.size]? = some (.cells #[.string ⟨#[]⟩, .int .i64 0, .int .i64 0] 231 (0, 0)) := (hb1.block _ (by simp; omega)).trans (heap_alloc_at (heap_new w _))
      have gH1 : w1.heap[w.heap.size + 1]? = some (.cells #[.string ⟨#[]⟩, .int .i64 c2, .int .i64 d] 231 (0, 0)) := (hb1.block _ (by simp)).trans (heap_new' _ _ _ (by simp))
      have HB1 := hid (HW.out.trans (hb1.mono (by simp; omega)))
      have k0 : w1.cell? ⟨w.heap.size, 0, none⟩ = some (.string ⟨#[]⟩) := (cell_of gH).trans rfl
      have k1 : w1.cell? ⟨w.heap.size, 1, none⟩ = some (.int .i64 0) := (cell_of gH).trans rfl
      have k2 : w1.cell? ⟨w.heap.size, 2, none⟩ = some (.int .i64 0) := (cell_of gH).trans rfl
      have f0 := froz_of (i := 0) gH
      have f1 := froz_of (i := 1) gH
      have f2 := froz_of (i := 2) gH
      have m0 : w1.cell? ⟨w.heap.size + 1, 0, none⟩ = some (.string ⟨#[]⟩) := (cell_of gH1).trans rfl
      have m1 : w1.cell? ⟨w.heap.size + 1, 1, none⟩ = some (.int .i64 c2) := (cell_of gH1).trans rfl
      have m2 : w1.cell? ⟨w.heap.size + 1, 2, none⟩ = some (.int .i64 d) := (cell_of gH1).trans rfl
      clear hb1 gH gH1
      go_wp2_with fail
      refine bodyPost_ret (v := .tuple #[.agg #[.string ⟨#[]⟩, .int .i64 0, .int .i64 0], .int .i64 0, .int .i64 25]) (by simp [results, Tryz.results214, go_sem, k0, k1, k2]) rfl ⟨rfl, ?_⟩
      exact ((HB1.out.setCell (Nat.le_refl _) _).setCell (Nat.le_refl _) _).setCell (Nat.le_refl _) _
    · have em : mB ⟨#[]⟩ (c2 : Int) (d : Int) = true := by unfold mB; rw [decide_eq_true_iff]; have := H2.out; exact ⟨rfl, by omega, by omega, by omega⟩
      have hi := HI.out
      rw [em] at hi
      have HI2 := hid hi
      have HBD := hid hbad
      clear hi em
      go_wp2_with fail
      refine (HI2.out _).mono ?_
      rintro e w1 ⟨rfl, hb1⟩
      have gH : w1.heap[w.heap.size]? = some (.cells #[.string ⟨#[]⟩, .int .i64 0, .int .i64 0] 231 (0, 0)) := (hb1.block _ (by simp; omega)).trans (heap_alloc_at (heap_new w _))
      have gH1 : w1.heap[w.heap.size + 1]? = some (.cells #[.string ⟨#[]⟩, .int .i64 c2, .int .i64 d] 231 (0, 0)) := (hb1.block _ (by simp)).trans (heap_new' _ _ _ (by simp))
      have HB1 := hid (HW.out.trans (hb1.mono (by simp; omega)))
      have k0 : w1.cell? ⟨w.heap.size, 0, none⟩ = some (.string ⟨#[]⟩) := (cell_of gH).trans rfl
      have k1 : w1.cell? ⟨w.heap.size, 1, none⟩ = some (.int .i64 0) := (cell_of gH).trans rfl
      have k2 : w1.cell? ⟨w.heap.size, 2, none⟩ = some (.int .i64 0) := (cell_of gH).trans rfl
      have f0 := froz_of (i := 0) gH
      have f1 := froz_of (i := 1) gH
      have f2 := froz_of (i := 2) gH
      have m0 : w1.cell? ⟨w.heap.size + 1, 0, none⟩ = some (.string ⟨#[]⟩) := (cell_of gH1).trans rfl
      have m1 : w1.cell? ⟨w.heap.size + 1, 1, none⟩ = some (.int .i64 c2) := (cell_of gH1).trans rfl
      have m2 : w1.cell? ⟨w.heap.size + 1, 2, none⟩ = some (.int .i64 d) := (cell_of gH1).trans rfl
      clear hb1 gH gH1
      go_wp2_with fail
      refine bodyPost_ret (v := .tuple #[.agg #[.string ⟨#[]⟩, .int .i64 c2, .int .i64 d], .int .i64 3, .int .i64 0]) (by simp [results, Tryz.results214, go_sem, k0, k1, k2]) rfl ⟨rfl, ?_⟩
      exact ((HB1.out.setCell (Nat.le_refl _) _).setCell (Nat.le_refl _) _).setCell (Nat.le_refl _) _
end Go.Proofs.YtihokphamgkkcaaGreat.Lz
namespace Go.Proofs.YtihokphamgkkcaaGreat.Lz
open Go.RowKit
set_option maxHeartbeats 1000000 in
theorem fmat_short (p : ByteArray) (w : World) (h3 : p.size < 3) :
    Calls Tryz.prog 214 #[.string p] w fun e w' => e = .returned (.tuple #[noTok, .int .i64 0, .int .i64 20]) ∧ Below w.heap.size w w' := by
  go_enter Tryz.func214, Tryz.ntmps214
  go_wp2_with fail
  exact bodyPost_ret (v := .tuple #[.agg #[.string ⟨#[]⟩, .int .i64 0, .int .i64 0], .int .i64 0, .int .i64 20]) (by simp [results, Tryz.results214, go_sem]) rfl ⟨rfl, (Below.refl _ w).alloc (Nat.le_refl _) _⟩
set_option maxHeartbeats 1000000 in
set_option maxRecDepth 20000 in
/-- The call through to the one or the other. -/
theorem first_via (p S : ByteArray) (N D n k : Nat) (w : World) (hp : 0 < p.size)
    (h : ∀ w : World, Calls Tryz.prog (if p[0].toNat < 128 then 213 else 214) #[.string p] w fun e w' => e = .returned (.tuple #[.agg #[.string S, .int .i64 N, .int .i64 D], .int .i64 n, .int .i64 k]) ∧ Below w.heap.size w w') :
    Calls Tryz.prog 186 #[.string p] w fun e w' => e = .returned (.tuple #[.agg #[.string S, .int .i64 N, .int .i64 D], .int .i64 n, .int .i64 k]) ∧ Below w.heap.size w w' := by
  generalize hb : p[0].toNat = c at *
  by_cases hc : c < 128
  · rw [if_pos hc] at h
    have HF := hid h
    clear h
    go_enter Tryz.func186, Tryz.ntmps186
    go_wp2_with fail
    refine (HF.out _).mono ?_
    rintro e w1 ⟨rfl, hb1⟩
    have gH : w1.heap[w.heap.size]? = some (.cells #[.string ⟨#[]⟩, .int .i64 0, .int .i64 0] 231 (0, 0)) := (hb1.block _ (by simp)).trans (heap_new w _)
    have HB1 := hid (((Below.refl _ w).alloc (Nat.le_refl _) (.cells #[.string ⟨#[]⟩, .int .i64 0, .int .i64 0] 231)).trans (hb1.mono (by simp)))
    have k0 : w1.cell? ⟨w.heap.size, 0, none⟩ = some (.string ⟨#[]⟩) := (cell_of gH).trans rfl
    have k1 : w1.cell? ⟨w.heap.size, 1, none⟩ = some (.int .i64 0) := (cell_of gH).trans rfl
    have k2 : w1.cell? ⟨w.heap.size, 2, none⟩ = some (.int .i64 0) := (cell_of gH).trans rfl
    have f0 := froz_of (i := 0) gH
    have f1 := froz_of (i := 1) gH
    have f2 := froz_of (i := 2) gH
    clear hb1 gH
    go_wp2_with fail
    refine bodyPost_ret (v := .tuple #[.agg #[.string S, .int .i64 N, .int .i64 D], .int .i64 n, .int .i64 k]) (by simp [results, Tryz.results186, go_sem, k0, k1, k2]) rfl ⟨rfl, ?_⟩
    exact ((HB1.out.setCell (Nat.le_refl _) _).setCell (Nat.le_refl _) _).setCell (Nat.le_refl _) _
  · rw [if_neg hc] at h
    have HF := hid h
    clear h
    go_enter Tryz.func186, Tryz.ntmps186
    go_wp2_with fail
    refine (HF.out _).mono ?_
    rintro e w1 ⟨rfl, hb1⟩
    have gH : w1.heap[w.heap.size]? = some (.cells #[.string ⟨#[]⟩, .int .i64 0, .int .i64 0] 231 (0, 0)) := (hb1.block _ (by simp)).trans (heap_new w _)
    have HB1 := hid (((Below.refl _ w).alloc (Nat.le_refl _) (.cells #[.string ⟨#[]⟩, .int .i64 0, .int .i64 0] 231)).trans (hb1.mono (by simp)))
    have k0 : w1.cell? ⟨w.heap.size, 0, none⟩ = some (.string ⟨#[]⟩) := (cell_of gH).trans rfl
    have k1 : w1.cell? ⟨w.heap.size, 1, none⟩ = some (.int .i64 0) := (cell_of gH).trans rfl
    have k2 : w1.cell? ⟨w.heap.size, 2, none⟩ = some (.int .i64 0) := (cell_of gH).trans rfl
    have f0 := froz_of (i := 0) gH
    have f1 := froz_of (i := 1) gH
    have f2 := froz_of (i := 2) gH
    clear hb1 gH
    go_wp2_with fail
    refine bodyPost_ret (v := .tuple #[.agg #[.string S, .int .i64 N, .int .i64 D], .int .i64 n, .int .i64 k]) (by simp [results, Tryz.results186, go_sem, k0, k1, k2]) rfl ⟨rfl, ?_⟩
    exact ((HB1.out.setCell (Nat.le_refl _) _).setCell (Nat.le_refl _) _).setCell (Nat.le_refl _) _
theorem fst_at (p : ByteArray) (hp : 0 < p.size) (hc : ¬ p[0].toNat < 128) : M.fst' p.data.toList = if h : p.size < 3 then .error 20 else if p[1].toNat * 256 + p[2].toNat = 0 ∨ 8192 < p[1].toNat * 256 + p[2].toNat then .error 25 else .ok (.mat (p[0].toNat - 124) (p[1].toNat * 256 + p[2].toNat), 3) := by
  unfold M.fst'
  rw [← at_ p 0 hp]
  simp only [hc, if_false, len_]
  by_cases h3 : p.size < 3
  · rw [dif_pos h3, if_pos h3]
  · rw [dif_neg h3, if_neg h3, ← at_ p 1 (by omega), ← at_ p 2 (by omega)]
theorem first_ok (p : ByteArray) (t : M.Tok) (n : Nat) (w : World) (hp : 0 < p.size) (h : M.fst' p.data.toList = .ok (t, n)) :
    Calls Tryz.prog 186 #[.string p] w fun e w' => e = .returned (.tuple #[.agg #[.string (ba t.lits), .int .i64 (t.len : Nat), .int .i64 (t.dist : Nat)], .int .i64 n, .int .i64 (0 : Nat)]) ∧ Below w.heap.size w w' := by
  refine first_via p _ _ _ _ _ w hp (fun w => ?_)
  by_cases hc : p[0].toNat < 128
  · rw [if_pos hc]
    exact flit_ok p t n w hp hc h
  · rw [if_neg hc]
    rw [fst_at p hp hc] at h
    by_cases h3 : p.size < 3
    · rw [dif_pos h3] at h; cases h
    · rw [dif_neg h3] at h
      have hf := fmat_any p _ w (by omega) (by omega) rfl
      split at h
      · cases h
      · rename_i hd
        injection h with h
        injection h with h1 h2
        subst h1 h2
        rw [if_neg hd] at hf
        exact hf
theorem first_err (p : ByteArray) (k : Nat) (w : World) (hp : 0 < p.size) (h : M.fst' p.data.toList = .error k) :
    Calls Tryz.prog 186 #[.string p] w fun e w' => e = .returned (.tuple #[.agg #[.string ⟨#[]⟩, .int .i64 (0 : Nat), .int .i64 (0 : Nat)], .int .i64 (0 : Nat), .int .i64 k]) ∧ Below w.heap.size w w' := by
  refine first_via p _ _ _ _ _ w hp (fun w => ?_)
  by_cases hc : p[0].toNat < 128
  · rw [if_pos hc]
    exact flit_err p k w hp hc h
  · rw [if_neg hc]
    rw [fst_at p hp hc] at h
    by_cases h3 : p.size < 3
    · rw [dif_pos h3] at h
      injection h with h
      subst h
      exact fmat_short p w h3
    · rw [dif_neg h3] at h
      have hf := fmat_any p _ w (by omega) (by omega) rfl
      split at h
      · rename_i hd
        injection h with h
        subst h
        rw [if_pos hd] at hf
        exact hf
      · cases h
end Go.Proofs.YtihokphamgkkcaaGreat.Lz
namespace Go.Proofs.YtihokphamgkkcaaGreat.Lz
open Go.RowKit
set_option maxHeartbeats 1000000 in
set_option maxRecDepth 20000 in
theorem rfl_any (p : ByteArray) (w : World) (hp : 0 < p.size) (hc : p[0].toNat < 128) :
    Calls Tryz.prog 188 #[.string p] w fun e w' => e = .returned (if p.size < p[0].toNat + 2 then .tuple #[noTok, .int .i64 0, .int .i64 20] else .tuple #[.agg #[.string (ba ((p.data.toList.drop 1).take (p[0].toNat + 1))), .int .i64 0, .int .i64 0], .int .i64 (p[0].toNat + 2 : Nat), .int .i64 0]) ∧ Below w.heap.size w w' := by
  generalize hb : p[0].toNat = c at *
  by_cases hl : p.size < c + 2
  · rw [if_pos hl]
    have hx : (p.size : Int) < (c : Int) + 2 := by omega
    go_enter Tryz.func188, Tryz.ntmps188
    go_wp2_with fail
    exact bodyPost_ret (v := .tuple #[.agg #[.string ⟨#[]⟩, .int .i64 0, .int .i64 0], .int .i64 0, .int .i64 20]) (by simp [results, Tryz.results188, go_sem]) rfl ⟨rfl, (Below.refl _ w).alloc (Nat.le_refl _) _⟩
  · rw [if_neg hl]
    have hx : ¬ (p.size : Int) < (c : Int) + 2 := by omega
    have HE : Hid (p.extract 1 (c + 2) = ba ((p.data.toList.drop 1).take (c + 1))) := by show p.extract 1 (c + 2) = _; rw [ext_ba]; rfl
    generalize ba ((p.data.toList.drop 1).take (c + 1)) = X at *
    go_enter Tryz.func188, Tryz.ntmps188
    go_wp2_with fail
    refine bodyPost_ret (v := .tuple #[.agg #[.string (p.extract 1 (c + 2)), .int .i64 0, .int .i64 0], .int .i64 (c + 2), .int .i64 0]) (by simp [results, Tryz.results188, go_sem]) rfl ⟨ret3 ?_ (by omega) rfl, (Below.refl _ w).alloc (Nat.le_refl _) _⟩
    rw [HE.out]
set_option maxHeartbeats 1000000 in
set_option maxRecDepth 20000 in
theorem rfm_any (p : ByteArray) (d : Nat) (w : World) (h3 : 3 ≤ p.size) (hc : ¬ p[0].toNat < 128) (hd : p[1].toNat * 256 + p[2].toNat = d) :
    Calls Tryz.prog 188 #[.string p] w fun e w' => e = .returned (if d = 0 ∨ 8192 < d then .tuple #[noTok, .int .i64 0, .int .i64 25] else .tuple #[.agg #[.string ⟨#[]⟩, .int .i64 (p[0].toNat - 124 : Nat), .int .i64 d], .int .i64 3, .int .i64 0]) ∧ Below w.heap.size w w' := by
  have l0 := p[0].toNat_lt
  have l1 := p[1].toNat_lt
  have l2 := p[2].toNat_lt
  generalize hb0 : p[0].toNat = c at *
  generalize hb1 : p[1].toNat = a at *
  generalize hb2 : p[2].toNat = b at *
  obtain ⟨x, hx⟩ : ∃ x, x = a * 256 := ⟨_, rfl⟩
  have e3 : IntKind.i64.wrap ((a : Int) * 256) = (x : Int) := by rw [wrap_in (by omega) (by omega)]; omega
  have e7 : IntKind.i64.wrap ((x : Int) + b) = (d : Int) := by rw [wrap_in (by omega) (by omega)]; omega
  have e4 : IntKind.i64.wrap (a : Int) = (a : Int) := wrap_in (by omega) (by omega)
  have e5 : IntKind.i64.wrap (b : Int) = (b : Int) := wrap_in (by omega) (by omega)
  have i1 : 1 < p.size := by omega
  have i2 : 2 < p.size := by omega
  have hdb : d < 65536 := by omega
  have HC : Hid (((c - 124 : Nat) : Int) = (c : Int) - 124) := by show ((c - 124 : Nat) : Int) = _; omega
  generalize c - 124 = c2 at *
  clear hx hd
  by_cases hbad : d = 0 ∨ 8192 < d
  · rw [if_pos hbad]
    by_cases hz : d = 0
    · have hz1 : ((d : Int) == 0) = true := by rw [beq_iff_eq]; omega
      clear hz hbad
      go_enter Tryz.func188, Tryz.ntmps188
      go_wp2_with fail
      go_quiet (fail)
      go_wp2_with fail
      exact bodyPost_ret (v := .tuple #[.agg #[.string ⟨#[]⟩, .int .i64 0, .int .i64 0], .int .i64 0, .int .i64 25]) (by simp [results, Tryz.results188, go_sem]) rfl ⟨rfl, (((below_drewN ((Below.refl _ w).alloc (Nat.le_refl _) _) _).setCell (Nat.le_refl _) _).setCell (Nat.le_refl _) _).setCell (Nat.le_refl _) _⟩
    · have hz1 : ((d : Int) == 0) = false := by rw [beq_eq_false_iff_ne]; omega
      have hz2 : (8192 : Int) < d := by omega
      clear hz hbad
      go_enter Tryz.func188, Tryz.ntmps188
      go_wp2_with fail
      go_quiet (fail)
      go_wp2_with fail
      exact bodyPost_ret (v := .tuple #[.agg #[.string ⟨#[]⟩, .int .i64 0, .int .i64 0], .int .i64 0, .int .i64 25]) (by simp [results, Tryz.results188, go_sem]) rfl ⟨rfl, (((below_drewN ((Below.refl _ w).alloc (Nat.le_refl _) _) _).setCell (Nat.le_refl _) _).setCell (Nat.le_refl _) _).setCell (Nat.le_refl _) _⟩
  · rw [if_neg hbad]
    have hz1 : ((d : Int) == 0) = false := by rw [beq_eq_false_iff_ne]; omega
    have hz2 : ¬ (8192 : Int) < d := by omega
    clear hbad
    go_enter Tryz.func188, Tryz.ntmps188
    go_wp2_with fail
    go_quiet (fail)
    go_wp2_with fail
    refine bodyPost_ret (v := .tuple #[.agg #[.string ⟨#[]⟩, .int .i64 ((c : Int) - 124), .int .i64 d], .int .i64 3, .int .i64 0]) (by simp [results, Tryz.results188, go_sem]) rfl ⟨ret3 ?_ rfl rfl, (((below_drewN ((Below.refl _ w).alloc (Nat.le_refl _) _) _).setCell (Nat.le_refl _) _).setCell (Nat.le_refl _) _).setCell (Nat.le_refl _) _⟩
    rw [HC.out]
set_option maxHeartbeats 1000000 in
set_option maxRecDepth 20000 in
theorem rfs_any (p : ByteArray) (w : World) (hp : 0 < p.size) (h3 : p.size < 3) (hc : ¬ p[0].toNat < 128) :
    Calls Tryz.prog 188 #[.string p] w fun e w' => e = .returned (.tuple #[noTok, .int .i64 0, .int .i64 20]) ∧ Below w.heap.size w w' := by
  have l0 := p[0].toNat_lt
  generalize hb : p[0].toNat = c at *
  go_enter Tryz.func188, Tryz.ntmps188
  go_wp2_with fail
  exact bodyPost_ret (v := .tuple #[.agg #[.string ⟨#[]⟩, .int .i64 0, .int .i64 0], .int .i64 0, .int .i64 20]) (by simp [results, Tryz.results188, go_sem]) rfl ⟨rfl, (Below.refl _ w).alloc (Nat.le_refl _) _⟩
theorem fst_lit (p : ByteArray) (hp : 0 < p.size) (hc : p[0].toNat < 128) : M.fst' p.data.toList = if p.size < p[0].toNat + 2 then .error 20 else .ok (.lit ((p.data.toList.drop 1).take (p[0].toNat + 1)), p[0].toNat + 2) := by
  unfold M.fst'
  rw [← at_ p 0 hp]
  simp only [hc, if_true, len_]
theorem rfirst_ok (p : ByteArray) (t : M.Tok) (n : Nat) (w : World) (hp : 0 < p.size) (h : M.fst' p.data.toList = .ok (t, n)) :
    Calls Tryz.prog 188 #[.string p] w fun e w' => e = .returned (.tuple #[.agg #[.string (ba t.lits), .int .i64 (t.len : Nat), .int .i64 (t.dist : Nat)], .int .i64 n, .int .i64 (0 : Nat)]) ∧ Below w.heap.size w w' := by
  by_cases hc : p[0].toNat < 128
  · have hf := rfl_any p w hp hc
    rw [fst_lit p hp hc] at h
    split at h
    · cases h
    · rename_i hd
      injection h with h
      injection h with h1 h2
      subst h1 h2
      rw [if_neg hd] at hf
      exact hf
  · rw [fst_at p hp hc] at h
    by_cases h3 : p.size < 3
    · rw [dif_pos h3] at h; cases h
    · rw [dif_neg h3] at h
      have hf := rfm_any p _ w (by omega) hc rfl
      split at h
      · cases h
      · rename_i hd
        injection h with h
        injection h with h1 h2
        subst h1 h2
        rw [if_neg hd] at hf
        exact hf
theorem rfirst_err (p : ByteArray) (k : Nat) (w : World) (hp : 0 < p.size) (h : M.fst' p.data.toList = .error k) :
    Calls Tryz.prog 188 #[.string p] w fun e w' => e = .returned (.tuple #[.agg #[.string ⟨#[]⟩, .int .i64 (0 : Nat), .int .i64 (0 : Nat)], .int .i64 (0 : Nat), .int .i64 k]) ∧ Below w.heap.size w w' := by
  by_cases hc : p[0].toNat < 128
  · have hf := rfl_any p w hp hc
    rw [fst_lit p hp hc] at h
    split at h
    · rename_i hd
      injection h with h
      subst h
      rw [if_pos hd] at hf
      exact hf
    · cases h
  · rw [fst_at p hp hc] at h
    by_cases h3 : p.size < 3
    · rw [dif_pos h3] at h
      injection h with h
      subst h
      exact rfs_any p w hp h3 hc
    · rw [dif_neg h3] at h
      have hf := rfm_any p _ w (by omega) hc rfl
      split at h
      · rename_i hd
        injection h with h
        subst h
        rw [if_pos hd] at hf
        exact hf
      · cases h
end Go.Proofs.YtihokphamgkkcaaGreat.Lz
namespace Go.Proofs.YtihokphamgkkcaaGreat.Lz
open Go.RowKit
/-- The number of the fault; 0, if there is none. -/
def code : Except Nat (List UInt8) → Nat
  | .error k => k
  | .ok _ => 0
theorem tok_small {t : M.Tok} (h : t.ok) : t.lits.length ≤ 128 ∧ t.len ≤ 131 ∧ t.dist ≤ 8192 ∧ t.count = t.lits.length + t.len := by
  cases t with
  | lit s => exact ⟨h.2, by simp [M.Tok.len], by simp [M.Tok.dist], rfl⟩
  | mat n d => exact ⟨by simp [M.Tok.lits], h.2.1, h.2.2.2, rfl⟩
theorem fst_code {p : List UInt8} {k : Nat} (h : M.fst' p = .error k) : k = 20 ∨ k = 25 := by
  unfold M.fst' at h
  simp only at h
  split at h
  · split at h
    · injection h with h; omega
    · cases h
  · split at h
    · injection h with h; omega
    · split at h
      · injection h with h; omega
      · cases h
/-- Three cells of a block. -/
theorem cells3 {w : World} {b : Nat} {x y z : Value} {T : TypeId} (h : w.heap[b]? = some (.cells #[x, y, z] T (0, 0))) : w.cell? ⟨b, 0, none⟩ = some x ∧ w.cell? ⟨b, 1, none⟩ = some y ∧ w.cell? ⟨b, 2, none⟩ = some z := ⟨(cell_of h).trans rfl, (cell_of h).trans rfl, (cell_of h).trans rfl⟩
theorem ext_drop (S : ByteArray) (n : Nat) : (S.extract n S.size).data.toList = S.data.toList.drop n := by
  rw [len_ext, List.take_of_length_le (by rw [List.length_drop, len_]; omega)]
set_option maxHeartbeats 4000000 in
set_option maxRecDepth 20000 in
theorem check_any (p : ByteArray) (len : Nat) (w : World) (hl : len ≤ 9223372036854775807) :
    Calls Tryz.prog 185 #[.string p, .int .i64 len] w fun e w' => e = .returned (.int .i64 (code (M.un len p.data.toList []) : Nat)) ∧ Below w.heap.size w w' := by
  obtain ⟨R, hR⟩ : ∃ R, R = M.un len p.data.toList [] := ⟨_, rfl⟩
  rw [← hR]
  have HR := hid hR.symm
  clear hR
  go_enter Tryz.func185, Tryz.ntmps185
  go_wp2_with fail
  go_loopg [0, 5, 6, 7, 8] p.size (fun k s u a b c wr => ∃ (S : ByteArray) (out : List UInt8) (U : Nat), S.size = k ∧ s = .string S ∧ u = .int .i64 U ∧ U ≤ len ∧ Hid (out.length = U) ∧ Hid (M.un len S.data.toList out = R) ∧ Hid (Below w.heap.size w wr))
  case atStart => exact ⟨p, [], 0, rfl, rfl, rfl, by omega, rfl, HR, Below.refl _ _⟩
  case round =>
    clear HR
    obtain ⟨S, out, U, rfl, rfl, rfl, hU, HU, HP, HW⟩ := hrel
    by_cases h0 : S.size = 0
    · have e1 := (empty_iff S).1 h0
      subst e1
      have hp := HP.out
      have e2 : M.un len (⟨#[]⟩ : ByteArray).data.toList out = if out.length < len then .error 20 else .ok out := M.un_nil len out
      rw [e2, HU.out] at hp
      by_cases hlt : U < len
      · rw [if_pos hlt] at hp
        have HC : Hid (20 = code R) := by rw [← hp]; rfl
        clear hp e2
        go_wp2_with fail
        go_ret
        exact ⟨ret_int (by rw [← HC.out]; rfl), HW.out⟩
      · rw [if_neg hlt] at hp
        have HC : Hid (0 = code R) := by rw [← hp]; rfl
        clear hp e2
        go_wp2_with fail
        go_ret
        exact ⟨ret_int (by rw [← HC.out]; rfl), HW.out⟩
    · have e1 := ne_emp h0
      have hp := HP.out
      rw [M.un_step (by rw [len_]; exact h0)] at hp
      cases hf : M.fst' S.data.toList with
      | error k =>
        rw [hf] at hp
        simp only at hp
        have HC : Hid (k = code R) := by rw [← hp]; rfl
        have cf := fun w => first_err S k w (by omega) hf
        have hk : ((k : Int) != 0) = true := by rw [bne_iff_ne]; have := fst_code hf; omega
        have CF := hid cf
        clear hp cf hf HP
        go_wp2_with fail
        refine (CF.out _).mono ?_
        rintro e w1 ⟨rfl, hb1⟩
        have HB1 := hid (HW.out.trans (hb1.mono HW.out.size))
        have HS1 := hid (HB1.out.size)
        clear hb1
        go_wp2_with fail
        go_ret
        exact ⟨ret_int (by rw [HC.out]), HB1.out.alloc HS1.out _⟩
      | ok tn =>
        obtain ⟨t, n⟩ := tn
        rw [hf] at hp
        simp only at hp
        have hok := M.fst_ok (by rw [len_]; exact h0) hf
        have hsm := tok_small hok.1
        have hn := hok.2.2.1
        have hn2 := hok.2.1
        rw [len_] at hn
        have cf := fun w => first_ok S t n w (by omega) hf
        rw [HU.out] at hp
        have hba := ba_size t.lits
        have hal := M.app_len out t
        rw [HU.out] at hal
        rw [hsm.2.2.2] at hp hal
        generalize M.app out t = out2 at *
        have cc := fun w => count_any (ba t.lits) t.len t.dist w (by omega)
        rw [hba] at cc
        have h128 := hsm.1
        have h131 := hsm.2.1
        generalize ba t.lits = TS at *
        generalize t.lits.length = TL at *
        generalize t.len = TN at *
        generalize t.dist = TD at *
        have CF := hid cf
        have CC := hid cc
        clear hok hsm hf cf cc HP hba
        by_cases hd : U < TD
        · rw [if_pos hd] at hp
          have HC : Hid (25 = code R) := by rw [← hp]; rfl
          clear hp hal
          go_wp2_with fail
          refine (CF.out _).mono ?_
          rintro e w1 ⟨rfl, hb1⟩
          have HB1 := hid (HW.out.trans (hb1.mono HW.out.size))
          have HS1 := hid (HB1.out.size)
          clear hb1
          go_wp2_with fail
          go_ret
          exact ⟨ret_int (by rw [← HC.out]; rfl), HB1.out.alloc HS1.out _⟩
        · rw [if_neg hd] at hp
          by_cases hc : len - U < TL + TN
          · rw [if_pos hc] at hp
            have HC : Hid (22 = code R) := by rw [← hp]; rfl
            clear hp hal
            go_wp2_with fail
            refine (CF.out _).mono ?_
            rintro e w1 ⟨rfl, hb1⟩
            have HB1 := hid (HW.out.trans (hb1.mono HW.out.size))
            have HS1 := hid (HB1.out.size)
            clear hb1
            go_wp2_with fail
            refine (CC.out _).mono ?_
            rintro e w2 ⟨rfl, hb2⟩
            have HB2 := hid ((HB1.out.alloc HS1.out (.cells #[.string TS, .int .i64 TN, .int .i64 TD] 231)).trans (hb2.mono (by have := HS1.out; simp; omega)))
            clear hb2
            go_wp2_with fail
            go_ret
            exact ⟨ret_int (by rw [← HC.out]; rfl), HB2.out⟩
          · rw [if_neg hc] at hp
            have HP2 := hid hp
            have HAL := hid hal
            clear hp hal
            go_wp2_with fail
            refine (CF.out _).mono ?_
            rintro e w1 ⟨rfl, hb1⟩
            have HB1 := hid (HW.out.trans (hb1.mono HW.out.size))
            have HS1 := hid (HB1.out.size)
            clear hb1
            go_wp2_with fail
            refine (CC.out _).mono ?_
            rintro e w2 ⟨rfl, hb2⟩
            have HB2 := hid ((HB1.out.alloc HS1.out (.cells #[.string TS, .int .i64 TN, .int .i64 TD] 231)).trans (hb2.mono (by have := HS1.out; simp; omega)))
            have gT : w2.heap[w1.heap.size]? = some (.cells #[.string TS, .int .i64 TN, .int .i64 TD] 231 (0, 0)) := (hb2.block _ (by simp)).trans (heap_new w1 _)
            obtain ⟨k0, k1, k2⟩ := cells3 gT
            clear hb2 gT
            go_wp2_with fail
            refine (CC.out _).mono ?_
            rintro e w3 ⟨rfl, hb3⟩
            have HB3 := hid (HB2.out.trans (hb3.mono HB2.out.size))
            clear hb3
            go_wp2_with fail
            have hex := ext_drop S n
            go_roundg (S.size - n)
            case measure => omega
            case rel => exact ⟨_, out2, U + (TL + TN), by rw [← len_, hex, List.length_drop, len_], rfl, by go_num, by omega, HAL, by rw [hex]; exact HP2, HB3⟩
end Go.Proofs.YtihokphamgkkcaaGreat.Lz
namespace Go.Proofs.YtihokphamgkkcaaGreat.Lz
open Go.RowKit
theorem Own.form {w : World} {B : Nat} {v : Value} {l : List UInt8} (h : Own w B v l) (h0 : l.length ≠ 0) : ∃ g cap, v = .slice (some ⟨g, 0, none⟩) l.length cap ∧ ∀ j, j < l.length → w.cell? ⟨g, j, none⟩ = some (.int .u8 ((M.by_ l j).toNat : Int)) := by
  have hcell := fun (g : Nat) (hg : v.ownBlock = some g) => World.ownsRow.cells h hg
  obtain ⟨hl, h⟩ := h
  rcases h with ⟨rfl, h1⟩ | ⟨g, cap, cur, rfl, hg, hh, h1, h2, h3, h4⟩
  · exact absurd h1 h0
  · refine ⟨g, cap, rfl, fun j hj => ?_⟩
    have := hcell g rfl j (.int .u8 ((M.by_ l j).toNat : Int)) (by
      simp only [bc, List.getElem?_map, List.getElem?_eq_getElem hj]
      unfold M.by_
      rw [List.getD_eq_getElem?_getD, List.getElem?_eq_getElem hj]
      rfl)
    have e : (⟨g, 0, none⟩ : Addr).add j = ⟨g, j, none⟩ := by
      by_cases h0 : j = 0
      · subst h0; simp [Addr.add]
      · simp [Addr.add, h0]
    rw [e] at this
    exact this
set_option maxHeartbeats 4000000 in
set_option maxRecDepth 20000 in
theorem behind_any (B : Nat) (l : List UInt8) (v : Value) (TS : ByteArray) (N D : Nat) (w : World) (hown : Own w B v l) (hB : B ≤ w.heap.size) (hD : 1 ≤ N → 1 ≤ D ∧ D ≤ l.length) (hl : l.length + TS.size + N ≤ 140737488350000) :
    Calls Tryz.prog 187 #[.agg #[.string TS, .int .i64 N, .int .i64 D], v] w fun e w' => ∃ v', e = .returned v' ∧ Own w' B v' (M.cpy D N (l ++ TS.data.toList)) ∧ Below B w w' := by
  obtain ⟨i0, hi, hz0, hz1, hz2⟩ := info_parts Tryz.info5
  obtain ⟨F, hF⟩ : ∃ F, F = M.cpy D N (l ++ TS.data.toList) := ⟨_, rfl⟩
  rw [← hF]
  have HF := hid hF.symm
  have HOW := hid hown
  have ho := hown
  unfold Own at ho
  generalize hX : l.length = X at *
  have HX := hid hX
  clear hF hown hX
  go_enter Tryz.func187, Tryz.ntmps187
  go_wp2_with (at_builtin; refine Lib.wpList_append_own_string _ rfl _ _ 63 9 rfl B 5 i0 Tryz.underBytes Tryz.under9 hi hz0 hz1 hz2 _ _ _ rfl (ho.alloc _) TS rfl ?d1 ?d2 ?d3 ?_)
  case d1 => unfold maxLen; omega
  case d2 => omega
  case d3 => simp; omega
  intro v1 w1 hown1 hgrow1 _
  have HB1 := hid (bel_step (Below.refl B w) ho hB hgrow1)
  have HO1 : Hid (Own w1 B v1 (l ++ TS.data.toList)) := own_mk hown1 HX.out (len_ TS) (bc_str TS)
  have gT : w1.heap[w.heap.size]? = some (.cells #[.string TS, .int .i64 N, .int .i64 D] 231 (0, 0)) := (hgrow1.block _ (by simp) (fun e => own_ne (ho.alloc (.cells #[.string TS, .int .i64 N, .int .i64 D] 231)) (heap_new w _) (by decide) e.symm)).trans (heap_new w _)
  have k1 : w1.cell? ⟨w.heap.size, 1, none⟩ = some (.int .i64 N) := (cell_of gT).trans rfl
  have HT1 := hid gT
  have HS1 : Hid (B ≤ w1.heap.size) := by have := HB1.out.size; show B ≤ _; omega
  clear hown1 hgrow1 ho gT HOW
  go_wp2_with fail
  clear k1
  go_loopg [1, 11] N (fun k o i wr => ∃ (j : Nat) (cur : List UInt8), j + k = N ∧ i = .int .i64 j ∧ Hid (cur.length = X + TS.size + j) ∧ Hid (Own wr B o cur) ∧ Hid (M.cpy D k cur = F) ∧ Hid (Below B w wr) ∧ Hid (B ≤ wr.heap.size) ∧ Hid (wr.heap[w.heap.size]? = some (.cells #[.string TS, .int .i64 N, .int .i64 D] 231 (0, 0))))
  case atStart => exact ⟨0, _, by omega, rfl, by rw [List.length_append, HX.out, len_]; rfl, HO1, HF, HB1, HS1, HT1⟩
  case round =>
    clear HO1 HF HB1 HS1 HT1
    obtain ⟨j, cur, hj, rfl, HC, HO, HF, HB, HS, HT⟩ := hrel
    by_cases hlt : j < N
    · obtain ⟨k, rfl⟩ : ∃ k, gk = k + 1 := ⟨gk - 1, by omega⟩
      have hD' := hD (by omega)
      have hcl := HC.out
      obtain ⟨g, cap, rfl, hcell⟩ := Own.form HO.out (by omega)
      obtain ⟨i, hi2⟩ : ∃ i, i = cur.length - D := ⟨_, rfl⟩
      have kc := hcell i (by omega)
      have HF2 := HF.out
      unfold M.cpy at HF2
      rw [← hi2] at HF2
      have ho := HO.out
      unfold Own at ho
      generalize M.by_ cur i = b at *
      have e0 : ((cur.length : Nat) : Int) - (D : Int) = (i : Int) := by omega
      have hi3 : i < cur.length := by omega
      generalize hY : cur.length = Y at *
      have k2 : wr.cell? ⟨w.heap.size, 2, none⟩ = some (.int .i64 D) := (cell_of HT.out).trans rfl
      have HF3 := hid HF2
      have HY := hid hY
      have HI2 := hid hi2
      have HCL := hid hcl
      have hYb : Y ≤ 140737488350000 := by omega
      have q1 := b.toNat_lt
      have hsz := HS.out
      clear HF2 hcell hY hi2 hcl HF HO HC
      go_wp2_with (at_builtin; refine wpList_append_own _ rfl _ _ 63 rfl B 5 i0 (.int .u8 0) 1 1 Tryz.underBytes hi hz0 hz1 hz2 rfl (by decide) _ _ _ rfl (ho.alloc _) ⟨wr.heap.size, 0, none⟩ 1 1 (bc [b]) rfl rfl ?c1 ?c2 ?c3 ?c4 ?c5 ?_)
      case c1 => exact cells_new wr (bc [b]) 5
      case c2 => exact bc_one _
      case c3 => unfold maxLen; omega
      case c4 => omega
      case c5 => simp; omega
      intro v' w2 hown2 hgrow2 _
      have HB2 := hid (bel_step HB.out ho (by omega) hgrow2)
      have HO2 : Hid (Own w2 B v' (cur ++ [b])) := own_mk (r := [b]) hown2 HY.out rfl rfl
      have HS2 : Hid (B ≤ w2.heap.size) := by have := hgrow2.size; simp at this; show B ≤ _; omega
      have HT2 : Hid (w2.heap[w.heap.size]? = some (.cells #[.string TS, .int .i64 N, .int .i64 D] 231 (0, 0))) := (hgrow2.block _ (by have := lt_of_heap HT.out; simp; omega) (fun e => own_ne ho HT.out (by decide) e.symm)).trans (heap_alloc_at HT.out)
      clear hown2 hgrow2 ho HB HS HT
      go_wp2_with fail
      go_roundg k
      case measure => omega
      case rel => exact ⟨j + 1, cur ++ [b], by omega, by go_num, by show _ = _; rw [List.length_append, HY.out, HCL.out]; rfl, HO2, HF3, HB2, HS2, HT2⟩
    · obtain rfl : gk = 0 := by omega
      have HFF : Hid (cur = F) := HF.out
      go_wp2_with fail
      go_ret
      exact ⟨_, rfl, by rw [← HFF.out]; exact HO.out, HB.out⟩
end Go.Proofs.YtihokphamgkkcaaGreat.Lz
namespace Go.Proofs.YtihokphamgkkcaaGreat.Lz
open Go.RowKit
/-- What Unpack answers. -/
def unZ (p : List UInt8) (z m : Int) : Value :=
  if z < 0 ∨ m < z then .tuple #[.string ⟨#[]⟩, .int .i64 66]
  else match M.un z.toNat p [] with
    | .error k => .tuple #[.string ⟨#[]⟩, .int .i64 (k : Nat)]
    | .ok F => .tuple #[.string (ba F), .int .i64 0]
theorem tok_dist {t : M.Tok} (h : t.ok) (hn : 1 ≤ t.len) : 1 ≤ t.dist := by
  cases t with
  | lit s => simp [M.Tok.len] at hn
  | mat n d => exact h.2.2.1
theorem fst_bad {l : List UInt8} {k : Nat} (h : M.fst' l = .error k) : ((k : Int) != 0) = true := by rw [bne_iff_ne]; have := fst_code h; omega
theorem un_bad' (len : Nat) : ∀ (n : Nat) (p out : List UInt8) (k : Nat), p.length = n → M.un len p out = .error k → k ≠ 0 := by
  intro n
  induction n using Nat.strongRecOn with
  | ind n ih =>
    intro p out k hn h
    by_cases h0 : p.length = 0
    · rw [List.eq_nil_of_length_eq_zero h0, M.un_nil] at h
      split at h
      · injection h with h; omega
      · cases h
    · rw [M.un_step h0] at h
      cases hf : M.fst' p with
      | error e =>
        rw [hf] at h
        simp only at h
        injection h with h
        have := fst_code hf
        omega
      | ok tn =>
        obtain ⟨t, m⟩ := tn
        rw [hf] at h
        simp only at h
        have hok := M.fst_ok h0 hf
        split at h
        · injection h with h; omega
        · split at h
          · injection h with h; omega
          · exact ih (p.drop m).length (by simp; omega) _ _ _ rfl h
set_option maxHeartbeats 4000000 in
set_option maxRecDepth 20000 in
theorem unpack_in (p : ByteArray) (len : Nat) (m : Int) (w : World) (hl : len ≤ 9223372036854775807) (hm : (len : Int) ≤ m) (hb : ∀ F, M.un len p.data.toList [] = .ok F → len ≤ 140737488340000) :
    Calls Tryz.prog 148 #[.string p, .int .i64 len, .int .i64 m] w fun e w' => e = .returned (match M.un len p.data.toList [] with | .error k => .tuple #[.string ⟨#[]⟩, .int .i64 (k : Nat)] | .ok F => .tuple #[.string (ba F), .int .i64 0]) ∧ Below w.heap.size w w' := by
  obtain ⟨i0, hi, hz0, hz1, hz2⟩ := info_parts Tryz.info5
  have cc := fun w => check_any p len w hl
  have hmz : ¬ m < (len : Int) := by omega
  cases hun : M.un len p.data.toList [] with
  | error k =>
    rw [hun] at cc
    have hk : ((k : Int) != 0) = true := by rw [bne_iff_ne]; have := un_bad' len _ _ _ _ rfl hun; omega
    have CC : Hid (∀ w : World, Calls Tryz.prog 185 #[.string p, .int .i64 len] w fun e w' => e = .returned (.int .i64 (k : Nat)) ∧ Below w.heap.size w w') := cc
    clear cc hun hb
    go_enter Tryz.func148, Tryz.ntmps148
    go_wp2_with fail
    refine (CC.out _).mono ?_
    rintro e w1 ⟨rfl, hb1⟩
    go_wp2_with fail
    go_ret2
    exact ⟨rfl, hb1⟩
  | ok F =>
    have hbd := hb F hun
    rw [hun] at cc
    have CC : Hid (∀ w : World, Calls Tryz.prog 185 #[.string p, .int .i64 len] w fun e w' => e = .returned (.int .i64 (0 : Nat)) ∧ Below w.heap.size w w') := cc
    have HUN := hid hun
    clear cc hun hb
    go_enter Tryz.func148, Tryz.ntmps148
    go_wp2_with fail
    refine (CC.out _).mono ?_
    rintro e w1 ⟨rfl, hb1⟩
    have hsz1 := hb1.size
    obtain ⟨w2, hmk, hown, hgrow⟩ := run_make_own (P := Tryz.prog) w1 w.heap.size 63 5 i0 (.int .u8 0) 1 Tryz.underBytes hi hz0 hz1 .i64 .i64 len (by rw [hz2]; omega) (by unfold maxLen; omega) hsz1
    have HO := hid (show Own w2 w.heap.size (.slice (some ⟨w1.heap.size, 0, none⟩) 0 len) [] from hown)
    have HB := hid (hb1.grown hgrow hsz1 (fun k hk => by cases hk))
    have HS : Hid (w.heap.size ≤ w2.heap.size) := Nat.le_trans hsz1 hgrow.size
    clear hown hgrow hb1 CC
    go_wp2_with fail
    clear hmk
    go_loopg [0, 9, 10, 11, 12] p.size (fun k s o a b c wr => ∃ (S : ByteArray) (out : List UInt8), S.size = k ∧ s = .string S ∧ Hid (out.length ≤ len) ∧ Hid (M.un len S.data.toList out = .ok F) ∧ Hid (Own wr w.heap.size o out) ∧ Hid (Below w.heap.size w wr) ∧ Hid (w.heap.size ≤ wr.heap.size))
    case atStart => exact ⟨p, [], rfl, rfl, Nat.zero_le _, HUN, HO, HB, HS⟩
    case round =>
      clear HUN HO HB HS
      obtain ⟨S, out, rfl, rfl, HU, HP, HO, HB, HS⟩ := hrel
      by_cases h0 : S.size = 0
      · have e1 := (empty_iff S).1 h0
        subst e1
        have hp := HP.out
        have e2 : M.un len (⟨#[]⟩ : ByteArray).data.toList out = if out.length < len then .error 20 else .ok out := M.un_nil len out
        rw [e2] at hp
        have hF : out = F := by
          split at hp
          · cases hp
          · injection hp
        have hcv := conv_own HO.out
        rw [hF] at hcv
        clear hp e2 hF
        go_wp2_with fail
        go_ret2
        exact ⟨rfl, HB.out⟩
      · have e1 := ne_emp h0
        have hp := HP.out
        rw [M.un_step (by rw [len_]; exact h0)] at hp
        cases hf : M.fst' S.data.toList with
        | error k =>
          rw [hf] at hp
          cases hp
        | ok tn =>
          obtain ⟨t, n⟩ := tn
          rw [hf] at hp
          simp only at hp
          have hok := M.fst_ok (by rw [len_]; exact h0) hf
          have hsm := tok_small hok.1
          have hdi := tok_dist hok.1
          have hn := hok.2.2.1
          have hn2 := hok.2.1
          rw [len_] at hn
          have cf := fun w => first_ok S t n w (by omega) hf
          have hal := M.app_len out t
          by_cases hd : out.length < t.dist
          · rw [if_pos hd] at hp; cases hp
          by_cases hc : len - out.length < t.count
          · rw [if_neg hd, if_pos hc] at hp; cases hp
          rw [if_neg hd, if_neg hc] at hp
          have hU := HU.out
          have cbh := fun (v : Value) (w9 : World) (h1 : Own w9 w.heap.size v out) (h2 : w.heap.size ≤ w9.heap.size) => behind_any w.heap.size out v (ba t.lits) t.len t.dist w9 h1 h2 (fun h => ⟨hdi h, by omega⟩) (by rw [ba_size]; omega)
          have hap : M.cpy t.dist t.len (out ++ (ba t.lits).data.toList) = M.app out t := rfl
          rw [hap] at cbh
          have HU2 : Hid ((M.app out t).length ≤ len) := by show _ ≤ _; rw [hal]; omega
          have HP2 := hid hp
          generalize M.app out t = out2 at *
          generalize ba t.lits = TS at *
          generalize t.len = TN at *
          generalize t.dist = TD at *
          have CF := hid cf
          have CBH := hid cbh
          have hex := ext_drop S n
          have HEX := hid hex
          clear hok hsm hf cf cbh HP hp hal hd hc hap hdi hU HU hex
          go_wp2_with fail
          refine (CF.out _).mono ?_
          rintro e w3 ⟨rfl, hb3⟩
          have hszr := HS.out
          have HB3 := hid (HB.out.trans (hb3.mono hszr))
          have HS3 : Hid (w.heap.size ≤ w3.heap.size) := Nat.le_trans hszr hb3.size
          have HO3 : Hid (Own w3 w.heap.size u9 out) := own_apart HO.out (fun g hg => hb3.block g (World.ownsRow.lt HO.out g hg).2)
          clear hb3 HB HS HO
          go_wp2_with fail
          refine (CBH.out _ _ (World.ownsRow.alloc HO3.out _) (by have := HS3.out; simp; omega)).mono ?_
          rintro e w4 ⟨v4, rfl, ho4, hb4⟩
          have HO4 := hid ho4
          have HB4 := hid ((HB3.out.alloc HS3.out (.cells #[.string TS, .int .i64 TN, .int .i64 TD] 231)).trans hb4)
          have HS4 : Hid (w.heap.size ≤ w4.heap.size) := by have := hb4.size; have := HS3.out; simp at *; show _ ≤ _; omega
          clear ho4 hb4 HO3 HB3 HS3
          go_wp2_with fail
          go_roundg (S.size - n)
          case measure => omega
          case rel => exact ⟨_, out2, by rw [← len_, HEX.out, List.length_drop, len_], rfl, HU2, by rw [HEX.out]; exact HP2, HO4, HB4, HS4⟩
theorem unpack_any (p : ByteArray) (z m : Int) (w : World) (h1 : z ≤ 9223372036854775807) (hb : ∀ F, M.un z.toNat p.data.toList [] = .ok F → z ≤ 140737488340000) :
    Calls Tryz.prog 148 #[.string p, .int .i64 z, .int .i64 m] w fun e w' => e = .returned (unZ p.data.toList z m) ∧ Below w.heap.size w w' := by
  by_cases h0 : z < 0 ∨ m < z
  · unfold unZ
    rw [if_pos h0]
    by_cases hz : z < 0
    · clear hb h0
      go_enter Tryz.func148, Tryz.ntmps148
      go_wp2_with fail
      go_ret2
      exact ⟨rfl, Below.refl _ _⟩
    · have hz2 : m < z := by omega
      clear hb h0
      go_enter Tryz.func148, Tryz.ntmps148
      go_wp2_with fail
      go_ret2
      exact ⟨rfl, Below.refl _ _⟩
  · obtain ⟨len, rfl⟩ := Int.eq_ofNat_of_zero_le (show 0 ≤ z by omega)
    have hx := unpack_in p len m w (by omega) (by omega) (fun F hF => by have := hb F hF; omega)
    unfold unZ
    rw [if_neg h0]
    exact hx
end Go.Proofs.YtihokphamgkkcaaGreat.Lz
namespace Go.Proofs.YtihokphamgkkcaaGreat.Lz
open Go.RowKit
theorem Own.slice {w : World} {B : Nat} {v : Value} {l : List UInt8} (h : Own w B v l) : ∃ a cap, v = .slice a l.length cap := by
  obtain ⟨hl, h⟩ := h
  rcases h with ⟨rfl, h1⟩ | ⟨g, cap, cur, rfl, _⟩
  · rw [h1]; exact ⟨_, _, rfl⟩
  · exact ⟨_, _, rfl⟩
def unV (R : Except Nat (List UInt8)) : Value :=
  match R with
    | .error k => .tuple #[.string ⟨#[]⟩, .int .i64 (k : Nat)]
    | .ok F => .tuple #[.string (ba F), .int .i64 0]
set_option maxHeartbeats 4000000 in
set_option maxRecDepth 20000 in
theorem runpack_in (p : ByteArray) (len : Nat) (m : Int) (w : World) (hs : p.size ≤ 1048576) (hl : len ≤ 9223372036854775807) (hm : (len : Int) ≤ m) :
    Calls Tryz.prog 150 #[.string p, .int .i64 len, .int .i64 m] w fun e w' => e = .returned (unV (M.un len p.data.toList [])) ∧ Below w.heap.size w w' := by
  obtain ⟨i0, hi, hz0, hz1, hz2⟩ := info_parts Tryz.info5
  have hmz : ¬ m < (len : Int) := by omega
  obtain ⟨R, hR⟩ : ∃ R, R = M.un len p.data.toList [] := ⟨_, rfl⟩
  rw [← hR]
  have HR := hid hR.symm
  have hpl := len_ p
  have HEX := hid (fun n => ext_drop p n)
  generalize p.data.toList = l at *
  have HL := hid hpl
  clear hR hpl
  go_enter Tryz.func150, Tryz.ntmps150
  go_wp2_with fail
  go_loopg [8, 9, 10, 11, 12, 13, 14] p.size (fun k o a x1 x2 x3 x4 x5 wr => ∃ (q : Nat) (out : List UInt8), q + k = p.size ∧ a = .int .i64 q ∧ Hid (out.length ≤ 131 * q) ∧ Hid (out.length ≤ len) ∧ Hid (M.un len (l.drop q) out = R) ∧ Hid (Own wr w.heap.size o out) ∧ Hid (Below w.heap.size w wr) ∧ Hid (w.heap.size ≤ wr.heap.size))
  case atStart => exact ⟨0, [], by omega, rfl, Nat.zero_le _, Nat.zero_le _, HR, World.ownsRow_nil _ _ _ _, Below.refl _ _, Nat.le_refl _⟩
  case round =>
    clear HR
    obtain ⟨q, out, hk, rfl, HU, HU2, HP, HO, HB, HS⟩ := hrel
    have hU := HU.out
    have hU2 := HU2.out
    obtain ⟨oa, ocap, ho⟩ := Own.slice HO.out
    by_cases h0 : q < p.size
    · have hp := HP.out
      rw [M.un_step (by rw [List.length_drop, HL.out]; omega)] at hp
      obtain ⟨S, hS⟩ : ∃ S, S = p.extract q p.size := ⟨_, rfl⟩
      have hSl : S.data.toList = l.drop q := by rw [hS]; exact HEX.out q
      have hSs : S.size = p.size - q := by rw [← len_, hSl, List.length_drop, HL.out]
      rw [← hSl] at hp
      cases hf : M.fst' S.data.toList with
      | error k =>
        rw [hf] at hp
        simp only at hp
        have HC : Hid (unV R = .tuple #[.string ⟨#[]⟩, .int .i64 (k : Nat)]) := by rw [← hp]; rfl
        have cf := fun w => rfirst_err S k w (by omega) hf
        have hkk := fst_bad hf
        have CF := hid cf
        have HSS := hid hS
        generalize out.length = OL at *
        clear hp cf hf HP hS hSl hSs
        subst ho
        go_wp2_with fail
        rw [← HSS.out]
        refine (CF.out _).mono ?_
        rintro e w1 ⟨rfl, hb1⟩
        have HB1 := hid (HB.out.trans (hb1.mono HS.out))
        have HS1 := hid (HB1.out.size)
        clear hb1
        go_wp2_with fail
        go_ret2
        exact ⟨by rw [HC.out]; rfl, HB1.out.alloc HS1.out _⟩
      | ok tn =>
        obtain ⟨t, n⟩ := tn
        rw [hf] at hp
        simp only at hp
        have hok := M.fst_ok (by rw [len_]; omega) hf
        have hsm := tok_small hok.1
        have hdi := tok_dist hok.1
        have hn := hok.2.2.1
        have hn2 := hok.2.1
        rw [len_] at hn
        have cf := fun w => rfirst_ok S t n w (by omega) hf
        have hba := ba_size t.lits
        have hal := M.app_len out t
        have hap : M.cpy t.dist t.len (out ++ (ba t.lits).data.toList) = M.app out t := rfl
        rw [hsm.2.2.2] at hp hal
        rw [hSl, List.drop_drop] at hp
        have h128 := hsm.1
        have h131 := hsm.2.1
        have hsum : t.lits.length + t.len ≤ 131 := by
          cases t with
          | lit s => have := hok.1.2; simp only [M.Tok.lits, M.Tok.len]; omega
          | mat a b => have := hok.1.2.1; simp only [M.Tok.lits, M.Tok.len, List.length_nil]; omega
        rw [← hba] at hp hal h128 hsum
        generalize M.app out t = out2 at *
        generalize ba t.lits = TS at *
        generalize t.len = TN at *
        generalize t.dist = TD at *
        have CF := hid cf
        have HSS := hid hS
        have hnq : q + n ≤ p.size := by omega
        clear hok hsm hf cf HP hba hS hSl hSs
        by_cases hd : out.length < TD
        · rw [if_pos hd] at hp
          have HC : Hid (unV R = .tuple #[.string ⟨#[]⟩, .int .i64 25]) := by rw [← hp]; rfl
          clear hp hal hap
          generalize out.length = OL at *
          subst ho
          go_wp2_with fail
          rw [← HSS.out]
          refine (CF.out _).mono ?_
          rintro e w1 ⟨rfl, hb1⟩
          have HB1 := hid (HB.out.trans (hb1.mono HS.out))
          have HS1 := hid (HB1.out.size)
          clear hb1
          go_wp2_with fail
          go_ret2
          exact ⟨by rw [HC.out]; rfl, HB1.out.alloc HS1.out _⟩
        · rw [if_neg hd] at hp
          by_cases hc : len - out.length < TS.size + TN
          · rw [if_pos hc] at hp
            have HC : Hid (unV R = .tuple #[.string ⟨#[]⟩, .int .i64 22]) := by rw [← hp]; rfl
            clear hp hal hap
            generalize out.length = OL at *
            subst ho
            go_wp2_with fail
            rw [← HSS.out]
            refine (CF.out _).mono ?_
            rintro e w1 ⟨rfl, hb1⟩
            have HB1 := hid (HB.out.trans (hb1.mono HS.out))
            have HS1 := hid (HB1.out.size)
            clear hb1
            go_wp2_with fail
            go_ret2
            exact ⟨by rw [HC.out]; rfl, HB1.out.alloc HS1.out _⟩
          · rw [if_neg hc] at hp
            have HP2 := hid hp
            have HAP := hid hap
            have HAL := hid hal
            have HD : Hid (1 ≤ TN → 1 ≤ TD ∧ TD ≤ out.length) := fun h => ⟨hdi h, by omega⟩
            have hc' : ¬ (len : Int) - out.length < TS.size + TN := by omega
            clear hp hap hal hdi
            have hoo := HO.out
            unfold Own at hoo
            generalize hX : out.length = OL at *
            have HX := hid hX
            clear hX
            subst ho
            go_wp2_with fail
            rw [← HSS.out]
            refine (CF.out _).mono ?_
            rintro e w1 ⟨rfl, hb1⟩
            have HB1 := hid (HB.out.trans (hb1.mono HS.out))
            have HS1 := hid (HB1.out.size)
            have ho1 : w1.ownsRow w.heap.size 5 1 (.slice oa OL ocap) OL (bc out) := own_apart hoo (fun g hg => hb1.block g (World.ownsRow.lt hoo g hg).2)
            have hsz1 := HS1.out
            clear hb1 hoo HO
            go_wp2_with (at_builtin; refine Lib.wpList_append_own_string _ rfl _ _ 63 9 rfl w.heap.size 5 i0 Tryz.underBytes Tryz.under9 hi hz0 hz1 hz2 _ _ _ rfl (ho1.alloc _) TS rfl ?d1 ?d2 ?d3 ?_)
            case d1 => unfold maxLen; omega
            case d2 => omega
            case d3 => simp; omega
            intro v2 w2 hown2 hgrow2 _
            have HB2 := hid (bel_step HB1.out ho1 hsz1 hgrow2)
            have HO2 : Hid (Own w2 w.heap.size v2 (out ++ TS.data.toList)) := own_mk hown2 HX.out (len_ TS) (bc_str TS)
            have gT : w2.heap[w1.heap.size]? = some (.cells #[.string TS, .int .i64 TN, .int .i64 TD] 146 (0, 0)) := (hgrow2.block _ (by simp) (fun e => own_ne (ho1.alloc (.cells #[.string TS, .int .i64 TN, .int .i64 TD] 146)) (heap_new w1 _) (by decide) e.symm)).trans (heap_new w1 _)
            have HT2 := hid gT
            have HS2 : Hid (w.heap.size ≤ w2.heap.size) := by have := HB2.out.size; show _ ≤ _; omega
            clear hown2 hgrow2 ho1 gT
            go_wp2_with fail
            go_loopg [8, 13, 14] TN (fun k o i c wr => ∃ (j : Nat) (cur : List UInt8), j + k = TN ∧ i = .int .i64 j ∧ Hid (cur.length = OL + TS.size + j) ∧ Hid (Own wr w.heap.size o cur) ∧ Hid (M.cpy TD k cur = out2) ∧ Hid (Below w.heap.size w wr) ∧ Hid (w.heap.size ≤ wr.heap.size) ∧ Hid (wr.heap[w1.heap.size]? = some (.cells #[.string TS, .int .i64 TN, .int .i64 TD] 146 (0, 0))))
            case atStart => exact ⟨0, _, by omega, rfl, by rw [List.length_append, HX.out, len_]; rfl, HO2, HAP, HB2, HS2, HT2⟩
            case round =>
              clear HO2 HAP HB2 HS2 HT2
              obtain ⟨j, cur, hj, rfl, HC, HO, HF, HB, HS, HT⟩ := hrel
              obtain ⟨k0, k1, k2⟩ := cells3 HT.out
              clear k0
              by_cases hlt : j < TN
              · obtain ⟨k, rfl⟩ : ∃ k, gk = k + 1 := ⟨gk - 1, by omega⟩
                have hD' := HD.out (by omega)
                have hcl := HC.out
                obtain ⟨g, cap, rfl, hcell⟩ := Own.form HO.out (by omega)
                obtain ⟨i, hi2⟩ : ∃ i, i = cur.length - TD := ⟨_, rfl⟩
                have kc := hcell i (by omega)
                have HF2 := HF.out
                unfold M.cpy at HF2
                rw [← hi2] at HF2
                have ho := HO.out
                unfold Own at ho
                generalize M.by_ cur i = b at *
                have e0 : ((cur.length : Nat) : Int) - (TD : Int) = (i : Int) := by omega
                have hi3 : i < cur.length := by omega
                generalize hY : cur.length = Y at *
                have HF3 := hid HF2
                have HY := hid hY
                have HCL := hid hcl
                have hYb : Y ≤ 140737488350000 := by omega
                have q1 := b.toNat_lt
                have hsz := HS.out
                clear HF2 hcell hY hi2 hcl HF HO HC
                go_wp2_with (at_builtin; refine wpList_append_own _ rfl _ _ 63 rfl w.heap.size 5 i0 (.int .u8 0) 1 1 Tryz.underBytes hi hz0 hz1 hz2 rfl (by decide) _ _ _ rfl (ho.alloc _) ⟨wr.heap.size, 0, none⟩ 1 1 (bc [b]) rfl rfl ?c1 ?c2 ?c3 ?c4 ?c5 ?_)
                case c1 => exact cells_new wr (bc [b]) 5
                case c2 => exact bc_one _
                case c3 => unfold maxLen; omega
                case c4 => omega
                case c5 => simp; omega
                intro v' w3 hown3 hgrow3 _
                have HB3 := hid (bel_step HB.out ho (by omega) hgrow3)
                have HO3 : Hid (Own w3 w.heap.size v' (cur ++ [b])) := own_mk (r := [b]) hown3 HY.out rfl rfl
                have HS3 : Hid (w.heap.size ≤ w3.heap.size) := by have := hgrow3.size; simp at this; show _ ≤ _; omega
                have HT3 : Hid (w3.heap[w1.heap.size]? = some (.cells #[.string TS, .int .i64 TN, .int .i64 TD] 146 (0, 0))) := (hgrow3.block _ (by have := lt_of_heap HT.out; simp; omega) (fun e => own_ne ho HT.out (by decide) e.symm)).trans (heap_alloc_at HT.out)
                clear hown3 hgrow3 ho HB HS HT
                go_wp2_with fail
                go_roundg k
                case measure => omega
                case rel => exact ⟨j + 1, cur ++ [b], by omega, by go_num, by show _ = _; rw [List.length_append, HY.out, HCL.out]; rfl, HO3, HF3, HB3, HS3, HT3⟩
              · obtain rfl : gk = 0 := by omega
                have HFF : Hid (cur = out2) := HF.out
                go_wp2_with fail
                go_roundg (p.size - (q + n))
                case measure => omega
                case rel => exact ⟨q + n, out2, by omega, by go_num, by show _ ≤ _; rw [HAL.out]; omega, by show _ ≤ _; rw [HAL.out]; omega, HP2, by rw [← HFF.out]; exact HO, HB, HS⟩
    · have hp := HP.out
      rw [List.drop_eq_nil_of_le (by rw [HL.out]; omega), M.un_nil] at hp
      by_cases hlt : out.length < len
      · rw [if_pos hlt] at hp
        have HC : Hid (unV R = .tuple #[.string ⟨#[]⟩, .int .i64 20]) := by rw [← hp]; rfl
        generalize out.length = OL at *
        subst ho
        clear hp
        go_wp2_with fail
        go_ret2
        exact ⟨by rw [HC.out]; rfl, HB.out⟩
      · rw [if_neg hlt] at hp
        have HC : Hid (unV R = .tuple #[.string (ba out), .int .i64 0]) := by rw [← hp]; rfl
        have hcv := conv_own HO.out
        generalize out.length = OL at *
        subst ho
        clear hp
        go_wp2_with fail
        go_ret2
        exact ⟨by rw [HC.out]; rfl, HB.out⟩
end Go.Proofs.YtihokphamgkkcaaGreat.Lz
