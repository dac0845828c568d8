/- The reference's first token of some bytes. -/
import Derived.Test.YtdkfenmhfkggdaaFst
namespace Go.Proofs.Ytdkfenmhfkggdaa
open Go.RowKit
set_option maxHeartbeats 1000000 in
set_option maxRecDepth 20000 in
theorem rfl_any (p : ByteArray) (w : World) (hp : 0 < p.size) (hc : p[0].toNat < 128) :
    Calls Try.prog 32 #[.string p] w fun e w' => e = .returned (if p.size < p[0].toNat + 2 then .tuple #[noTok, .int .i64 0, .int .i64 20] else .tuple #[.agg #[.string (ba ((p.data.toList.drop 1).take (p[0].toNat + 1))), .int .i64 0, .int .i64 0], .int .i64 (p[0].toNat + 2 : Nat), .int .i64 0]) ∧ Below w.heap.size w w' := by
  generalize hb : p[0].toNat = c at *
  by_cases hl : p.size < c + 2
  · rw [if_pos hl]
    have hx : (p.size : Int) < (c : Int) + 2 := by omega
    go_enter Try.func32, Try.ntmps32
    go_wp2_with fail
    exact bodyPost_ret (v := .tuple #[.agg #[.string ⟨#[]⟩, .int .i64 0, .int .i64 0], .int .i64 0, .int .i64 20]) (by simp [results, Try.results32, go_sem]) rfl ⟨rfl, (Below.refl _ w).alloc (Nat.le_refl _) _⟩
  · rw [if_neg hl]
    have hx : ¬ (p.size : Int) < (c : Int) + 2 := by omega
    have HE : Hid (p.extract 1 (c + 2) = ba ((p.data.toList.drop 1).take (c + 1))) := by show p.extract 1 (c + 2) = _; rw [ext_ba]; rfl
    generalize ba ((p.data.toList.drop 1).take (c + 1)) = X at *
    go_enter Try.func32, Try.ntmps32
    go_wp2_with fail
    refine bodyPost_ret (v := .tuple #[.agg #[.string (p.extract 1 (c + 2)), .int .i64 0, .int .i64 0], .int .i64 (c + 2), .int .i64 0]) (by simp [results, Try.results32, go_sem]) rfl ⟨ret3 ?_ (by omega) rfl, (Below.refl _ w).alloc (Nat.le_refl _) _⟩
    rw [HE.out]
set_option maxHeartbeats 1000000 in
set_option maxRecDepth 20000 in
theorem rfm_any (p : ByteArray) (d : Nat) (w : World) (h3 : 3 ≤ p.size) (hc : ¬ p[0].toNat < 128) (hd : p[1].toNat * 256 + p[2].toNat = d) :
    Calls Try.prog 32 #[.string p] w fun e w' => e = .returned (if d = 0 ∨ 8192 < d then .tuple #[noTok, .int .i64 0, .int .i64 25] else .tuple #[.agg #[.string ⟨#[]⟩, .int .i64 (p[0].toNat - 124 : Nat), .int .i64 d], .int .i64 3, .int .i64 0]) ∧ Below w.heap.size w w' := by
  have l0 := p[0].toNat_lt
  have l1 := p[1].toNat_lt
  have l2 := p[2].toNat_lt
  generalize hb0 : p[0].toNat = c at *
  generalize hb1 : p[1].toNat = a at *
  generalize hb2 : p[2].toNat = b at *
  obtain ⟨x, hx⟩ : ∃ x, x = a * 256 := ⟨_, rfl⟩
  have e3 : IntKind.i64.wrap ((a : Int) * 256) = (x : Int) := by rw [wrap_in (by omega) (by omega)]; omega
  have e7 : IntKind.i64.wrap ((x : Int) + b) = (d : Int) := by rw [wrap_in (by omega) (by omega)]; omega
  have e4 : IntKind.i64.wrap (a : Int) = (a : Int) := wrap_in (by omega) (by omega)
  have e5 : IntKind.i64.wrap (b : Int) = (b : Int) := wrap_in (by omega) (by omega)
  have i1 : 1 < p.size := by omega
  have i2 : 2 < p.size := by omega
  have hdb : d < 65536 := by omega
  have HC : Hid (((c - 124 : Nat) : Int) = (c : Int) - 124) := by show ((c - 124 : Nat) : Int) = _; omega
  generalize c - 124 = c2 at *
  clear hx hd
  by_cases hbad : d = 0 ∨ 8192 < d
  · rw [if_pos hbad]
    by_cases hz : d = 0
    · have hz1 : ((d : Int) == 0) = true := by rw [beq_iff_eq]; omega
      clear hz hbad
      go_enter Try.func32, Try.ntmps32
      go_wp2_with fail
      go_quiet (fail)
      go_wp2_with fail
      exact bodyPost_ret (v := .tuple #[.agg #[.string ⟨#[]⟩, .int .i64 0, .int .i64 0], .int .i64 0, .int .i64 25]) (by simp [results, Try.results32, go_sem]) rfl ⟨rfl, (((below_drewN ((Below.refl _ w).alloc (Nat.le_refl _) _) _).setCell (Nat.le_refl _) _).setCell (Nat.le_refl _) _).setCell (Nat.le_refl _) _⟩
    · have hz1 : ((d : Int) == 0) = false := by rw [beq_eq_false_iff_ne]; omega
      have hz2 : (8192 : Int) < d := by omega
      clear hz hbad
      go_enter Try.func32, Try.ntmps32
      go_wp2_with fail
      go_quiet (fail)
      go_wp2_with fail
      exact bodyPost_ret (v := .tuple #[.agg #[.string ⟨#[]⟩, .int .i64 0, .int .i64 0], .int .i64 0, .int .i64 25]) (by simp [results, Try.results32, go_sem]) rfl ⟨rfl, (((below_drewN ((Below.refl _ w).alloc (Nat.le_refl _) _) _).setCell (Nat.le_refl _) _).setCell (Nat.le_refl _) _).setCell (Nat.le_refl _) _⟩
  · rw [if_neg hbad]
    have hz1 : ((d : Int) == 0) = false := by rw [beq_eq_false_iff_ne]; omega
    have hz2 : ¬ (8192 : Int) < d := by omega
    clear hbad
    go_enter Try.func32, Try.ntmps32
    go_wp2_with fail
    go_quiet (fail)
    go_wp2_with fail
    refine bodyPost_ret (v := .tuple #[.agg #[.string ⟨#[]⟩, .int .i64 ((c : Int) - 124), .int .i64 d], .int .i64 3, .int .i64 0]) (by simp [results, Try.results32, go_sem]) rfl ⟨ret3 ?_ rfl rfl, (((below_drewN ((Below.refl _ w).alloc (Nat.le_refl _) _) _).setCell (Nat.le_refl _) _).setCell (Nat.le_refl _) _).setCell (Nat.le_refl _) _⟩
    rw [HC.out]
set_option maxHeartbeats 1000000 in
set_option maxRecDepth 20000 in
theorem rfs_any (p : ByteArray) (w : World) (hp : 0 < p.size) (h3 : p.size < 3) (hc : ¬ p[0].toNat < 128) :
    Calls Try.prog 32 #[.string p] w fun e w' => e = .returned (.tuple #[noTok, .int .i64 0, .int .i64 20]) ∧ Below w.heap.size w w' := by
  have l0 := p[0].toNat_lt
  generalize hb : p[0].toNat = c at *
  go_enter Try.func32, Try.ntmps32
  go_wp2_with fail
  exact bodyPost_ret (v := .tuple #[.agg #[.string ⟨#[]⟩, .int .i64 0, .int .i64 0], .int .i64 0, .int .i64 20]) (by simp [results, Try.results32, go_sem]) rfl ⟨rfl, (Below.refl _ w).alloc (Nat.le_refl _) _⟩
theorem fst_lit (p : ByteArray) (hp : 0 < p.size) (hc : p[0].toNat < 128) : M.fst' p.data.toList = if p.size < p[0].toNat + 2 then .error 20 else .ok (.lit ((p.data.toList.drop 1).take (p[0].toNat + 1)), p[0].toNat + 2) := by
  unfold M.fst'
  rw [← at_ p 0 hp]
  simp only [hc, if_true, len_]
theorem rfirst_ok (p : ByteArray) (t : M.Tok) (n : Nat) (w : World) (hp : 0 < p.size) (h : M.fst' p.data.toList = .ok (t, n)) :
    Calls Try.prog 32 #[.string p] w fun e w' => e = .returned (.tuple #[.agg #[.string (ba t.lits), .int .i64 (t.len : Nat), .int .i64 (t.dist : Nat)], .int .i64 n, .int .i64 (0 : Nat)]) ∧ Below w.heap.size w w' := by
  by_cases hc : p[0].toNat < 128
  · have hf := rfl_any p w hp hc
    rw [fst_lit p hp hc] at h
    split at h
    · cases h
    · rename_i hd
      injection h with h
      injection h with h1 h2
      subst h1 h2
      rw [if_neg hd] at hf
      exact hf
  · rw [fst_at p hp hc] at h
    by_cases h3 : p.size < 3
    · rw [dif_pos h3] at h; cases h
    · rw [dif_neg h3] at h
      have hf := rfm_any p _ w (by omega) hc rfl
      split at h
      · cases h
      · rename_i hd
        injection h with h
        injection h with h1 h2
        subst h1 h2
        rw [if_neg hd] at hf
        exact hf
theorem rfirst_err (p : ByteArray) (k : Nat) (w : World) (hp : 0 < p.size) (h : M.fst' p.data.toList = .error k) :
    Calls Try.prog 32 #[.string p] w fun e w' => e = .returned (.tuple #[.agg #[.string ⟨#[]⟩, .int .i64 (0 : Nat), .int .i64 (0 : Nat)], .int .i64 (0 : Nat), .int .i64 k]) ∧ Below w.heap.size w w' := by
  by_cases hc : p[0].toNat < 128
  · have hf := rfl_any p w hp hc
    rw [fst_lit p hp hc] at h
    split at h
    · rename_i hd
      injection h with h
      subst h
      rw [if_pos hd] at hf
      exact hf
    · cases h
  · rw [fst_at p hp hc] at h
    by_cases h3 : p.size < 3
    · rw [dif_pos h3] at h
      injection h with h
      subst h
      exact rfs_any p w hp h3 hc
    · rw [dif_neg h3] at h
      have hf := rfm_any p _ w (by omega) hc rfl
      split at h
      · rename_i hd
        injection h with h
        subst h
        rw [if_pos hd] at hf
        exact hf
      · cases h
end Go.Proofs.Ytdkfenmhfkggdaa
