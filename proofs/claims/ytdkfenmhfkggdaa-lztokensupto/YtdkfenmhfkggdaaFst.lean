/- The first token of some bytes, and whether they are packed bytes of a length. -/
import Derived.Test.YtdkfenmhfkggdaaFmat
import Derived.Test.YtdkfenmhfkggdaaApp
namespace Go.Proofs.Ytdkfenmhfkggdaa
open Go.RowKit
set_option maxHeartbeats 1000000 in
theorem fmat_short (p : ByteArray) (w : World) (h3 : p.size < 3) :
    Calls Try.prog 40 #[.string p] w fun e w' => e = .returned (.tuple #[noTok, .int .i64 0, .int .i64 20]) ∧ Below w.heap.size w w' := by
  go_enter Try.func40, Try.ntmps40
  go_wp2_with fail
  exact bodyPost_ret (v := .tuple #[.agg #[.string ⟨#[]⟩, .int .i64 0, .int .i64 0], .int .i64 0, .int .i64 20]) (by simp [results, Try.results40, go_sem]) rfl ⟨rfl, (Below.refl _ w).alloc (Nat.le_refl _) _⟩
set_option maxHeartbeats 1000000 in
set_option maxRecDepth 20000 in
/-- The call through to the one or the other. -/
theorem first_via (p S : ByteArray) (N D n k : Nat) (w : World) (hp : 0 < p.size)
    (h : ∀ w : World, Calls Try.prog (if p[0].toNat < 128 then 39 else 40) #[.string p] w fun e w' => e = .returned (.tuple #[.agg #[.string S, .int .i64 N, .int .i64 D], .int .i64 n, .int .i64 k]) ∧ Below w.heap.size w w') :
    Calls Try.prog 30 #[.string p] w fun e w' => e = .returned (.tuple #[.agg #[.string S, .int .i64 N, .int .i64 D], .int .i64 n, .int .i64 k]) ∧ Below w.heap.size w w' := by
  generalize hb : p[0].toNat = c at *
  by_cases hc : c < 128
  · rw [if_pos hc] at h
    have HF := hid h
    clear h
    go_enter Try.func30, Try.ntmps30
    go_wp2_with fail
    refine (HF.out _).mono ?_
    rintro e w1 ⟨rfl, hb1⟩
    have gH : w1.heap[w.heap.size]? = some (.cells #[.string ⟨#[]⟩, .int .i64 0, .int .i64 0] 47 (0, 0)) := (hb1.block _ (by simp)).trans (heap_new w _)
    have HB1 := hid (((Below.refl _ w).alloc (Nat.le_refl _) (.cells #[.string ⟨#[]⟩, .int .i64 0, .int .i64 0] 47)).trans (hb1.mono (by simp)))
    have k0 : w1.cell? ⟨w.heap.size, 0, none⟩ = some (.string ⟨#[]⟩) := (cell_of gH).trans rfl
    have k1 : w1.cell? ⟨w.heap.size, 1, none⟩ = some (.int .i64 0) := (cell_of gH).trans rfl
    have k2 : w1.cell? ⟨w.heap.size, 2, none⟩ = some (.int .i64 0) := (cell_of gH).trans rfl
    have f0 := froz_of (i := 0) gH
    have f1 := froz_of (i := 1) gH
    have f2 := froz_of (i := 2) gH
    clear hb1 gH
    go_wp2_with fail
    refine bodyPost_ret (v := .tuple #[.agg #[.string S, .int .i64 N, .int .i64 D], .int .i64 n, .int .i64 k]) (by simp [results, Try.results30, go_sem, k0, k1, k2]) rfl ⟨rfl, ?_⟩
    exact ((HB1.out.setCell (Nat.le_refl _) _).setCell (Nat.le_refl _) _).setCell (Nat.le_refl _) _
  · rw [if_neg hc] at h
    have HF := hid h
    clear h
    go_enter Try.func30, Try.ntmps30
    go_wp2_with fail
    refine (HF.out _).mono ?_
    rintro e w1 ⟨rfl, hb1⟩
    have gH : w1.heap[w.heap.size]? = some (.cells #[.string ⟨#[]⟩, .int .i64 0, .int .i64 0] 47 (0, 0)) := (hb1.block _ (by simp)).trans (heap_new w _)
    have HB1 := hid (((Below.refl _ w).alloc (Nat.le_refl _) (.cells #[.string ⟨#[]⟩, .int .i64 0, .int .i64 0] 47)).trans (hb1.mono (by simp)))
    have k0 : w1.cell? ⟨w.heap.size, 0, none⟩ = some (.string ⟨#[]⟩) := (cell_of gH).trans rfl
    have k1 : w1.cell? ⟨w.heap.size, 1, none⟩ = some (.int .i64 0) := (cell_of gH).trans rfl
    have k2 : w1.cell? ⟨w.heap.size, 2, none⟩ = some (.int .i64 0) := (cell_of gH).trans rfl
    have f0 := froz_of (i := 0) gH
    have f1 := froz_of (i := 1) gH
    have f2 := froz_of (i := 2) gH
    clear hb1 gH
    go_wp2_with fail
    refine bodyPost_ret (v := .tuple #[.agg #[.string S, .int .i64 N, .int .i64 D], .int .i64 n, .int .i64 k]) (by simp [results, Try.results30, go_sem, k0, k1, k2]) rfl ⟨rfl, ?_⟩
    exact ((HB1.out.setCell (Nat.le_refl _) _).setCell (Nat.le_refl _) _).setCell (Nat.le_refl _) _
theorem fst_at (p : ByteArray) (hp : 0 < p.size) (hc : ¬ p[0].toNat < 128) : M.fst' p.data.toList = if h : p.size < 3 then .error 20 else if p[1].toNat * 256 + p[2].toNat = 0 ∨ 8192 < p[1].toNat * 256 + p[2].toNat then .error 25 else .ok (.mat (p[0].toNat - 124) (p[1].toNat * 256 + p[2].toNat), 3) := by
  unfold M.fst'
  rw [← at_ p 0 hp]
  simp only [hc, if_false, len_]
  by_cases h3 : p.size < 3
  · rw [dif_pos h3, if_pos h3]
  · rw [dif_neg h3, if_neg h3, ← at_ p 1 (by omega), ← at_ p 2 (by omega)]
theorem first_ok (p : ByteArray) (t : M.Tok) (n : Nat) (w : World) (hp : 0 < p.size) (h : M.fst' p.data.toList = .ok (t, n)) :
    Calls Try.prog 30 #[.string p] w fun e w' => e = .returned (.tuple #[.agg #[.string (ba t.lits), .int .i64 (t.len : Nat), .int .i64 (t.dist : Nat)], .int .i64 n, .int .i64 (0 : Nat)]) ∧ Below w.heap.size w w' := by
  refine first_via p _ _ _ _ _ w hp (fun w => ?_)
  by_cases hc : p[0].toNat < 128
  · rw [if_pos hc]
    exact flit_ok p t n w hp hc h
  · rw [if_neg hc]
    rw [fst_at p hp hc] at h
    by_cases h3 : p.size < 3
    · rw [dif_pos h3] at h; cases h
    · rw [dif_neg h3] at h
      have hf := fmat_any p _ w (by omega) (by omega) rfl
      split at h
      · cases h
      · rename_i hd
        injection h with h
        injection h with h1 h2
        subst h1 h2
        rw [if_neg hd] at hf
        exact hf
theorem first_err (p : ByteArray) (k : Nat) (w : World) (hp : 0 < p.size) (h : M.fst' p.data.toList = .error k) :
    Calls Try.prog 30 #[.string p] w fun e w' => e = .returned (.tuple #[.agg #[.string ⟨#[]⟩, .int .i64 (0 : Nat), .int .i64 (0 : Nat)], .int .i64 (0 : Nat), .int .i64 k]) ∧ Below w.heap.size w w' := by
  refine first_via p _ _ _ _ _ w hp (fun w => ?_)
  by_cases hc : p[0].toNat < 128
  · rw [if_pos hc]
    exact flit_err p k w hp hc h
  · rw [if_neg hc]
    rw [fst_at p hp hc] at h
    by_cases h3 : p.size < 3
    · rw [dif_pos h3] at h
      injection h with h
      subst h
      exact fmat_short p w h3
    · rw [dif_neg h3] at h
      have hf := fmat_any p _ w (by omega) (by omega) rfl
      split at h
      · rename_i hd
        injection h with h
        subst h
        rw [if_pos hd] at hf
        exact hf
      · cases h
end Go.Proofs.Ytdkfenmhfkggdaa
