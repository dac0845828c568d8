/- What the calls of a reader answer, said by its bytes, where it stands, and its error. -/
import Derived.Test.YtpfaioncaolmjaaGreatCur4
namespace Go.Proofs.YtpfaioncaolmjaaGreat
open Go.RowKit
/-- A number of n bytes. -/
def fx (n : Nat) (s : ByteArray) (k e : Nat) : Nat × Nat × Nat := if e ≠ 0 then (0, k, e) else if k + n ≤ s.size then (be (bl (s.extract k (k + n))), k + n, 0) else (0, k, 20)
theorem fx_stale {n : Nat} {s : ByteArray} {k e : Nat} (h : e ≠ 0) : fx n s k e = (0, k, e) := by unfold fx; rw [if_pos h]
theorem fx_ok {n : Nat} {s : ByteArray} {k : Nat} (h : k + n ≤ s.size) : fx n s k 0 = (be (bl (s.extract k (k + n))), k + n, 0) := by unfold fx; rw [if_neg (by omega), if_pos h]
theorem fx_short {n : Nat} {s : ByteArray} {k : Nat} (h : ¬ k + n ≤ s.size) : fx n s k 0 = (0, k, 20) := by unfold fx; rw [if_neg (by omega), if_neg h]
/-- Layer 1's form. -/
def uq (s : ByteArray) (k e : Nat) : Nat × Nat × Nat := if e ≠ 0 then (0, k, e) else if rde (tl s k) = 0 then (rdv (tl s k), k + rdn (tl s k), 0) else (0, k, rde (tl s k))
theorem uq_stale {s : ByteArray} {k e : Nat} (h : e ≠ 0) : uq s k e = (0, k, e) := by unfold uq; rw [if_pos h]
theorem uq_ok {s : ByteArray} {k : Nat} (h : rde (tl s k) = 0) : uq s k 0 = (rdv (tl s k), k + rdn (tl s k), 0) := by unfold uq; rw [if_neg (by omega), if_pos h]
theorem uq_bad {s : ByteArray} {k : Nat} (h : ¬ rde (tl s k) = 0) : uq s k 0 = (0, k, rde (tl s k)) := by unfold uq; rw [if_neg (by omega), if_neg h]
/-- Its zigzag. -/
def vq (s : ByteArray) (k e : Nat) : Int × Nat × Nat := if e ≠ 0 then (0, k, e) else if rde (tl s k) = 0 then (M.uz (rdv (tl s k)), k + rdn (tl s k), 0) else (0, k, rde (tl s k))
theorem vq_stale {s : ByteArray} {k e : Nat} (h : e ≠ 0) : vq s k e = (0, k, e) := by unfold vq; rw [if_pos h]
theorem vq_ok {s : ByteArray} {k : Nat} (h : rde (tl s k) = 0) : vq s k 0 = (M.uz (rdv (tl s k)), k + rdn (tl s k), 0) := by unfold vq; rw [if_neg (by omega), if_pos h]
theorem vq_bad {s : ByteArray} {k : Nat} (h : ¬ rde (tl s k) = 0) : vq s k 0 = (0, k, rde (tl s k)) := by unfold vq; rw [if_neg (by omega), if_neg h]
/-- n bytes themselves. -/
def rq (n : Int) (s : ByteArray) (k e : Nat) : ByteArray × Nat × Nat := if e ≠ 0 then (⟨#[]⟩, k, e) else if n < 0 then (⟨#[]⟩, k, 1) else if k + n.toNat ≤ s.size then (s.extract k (k + n.toNat), k + n.toNat, 0) else (⟨#[]⟩, k, 20)
theorem rq_stale {n : Int} {s : ByteArray} {k e : Nat} (h : e ≠ 0) : rq n s k e = (⟨#[]⟩, k, e) := by unfold rq; rw [if_pos h]
theorem rq_range {n : Int} {s : ByteArray} {k : Nat} (h : n < 0) : rq n s k 0 = (⟨#[]⟩, k, 1) := by unfold rq; rw [if_neg (by omega), if_pos h]
theorem rq_ok {n : Nat} {s : ByteArray} {k : Nat} (h : k + n ≤ s.size) : rq n s k 0 = (s.extract k (k + n), k + n, 0) := by unfold rq; rw [if_neg (by omega), if_neg (by omega), if_pos (by simpa using h)]; simp
theorem rq_short {n : Nat} {s : ByteArray} {k : Nat} (h : ¬ k + n ≤ s.size) : rq n s k 0 = (⟨#[]⟩, k, 20) := by unfold rq; rw [if_neg (by omega), if_neg (by omega), if_neg (by simpa using h)]
/-- A text of at most so many bytes. -/
def tq (most : Int) (s : ByteArray) (k e : Nat) : ByteArray × Nat × Nat := if e ≠ 0 then (⟨#[]⟩, k, e) else if ¬ rde (tl s k) = 0 then (⟨#[]⟩, k, rde (tl s k)) else if ((rdv (tl s k) : Int) ≤ most ∨ rdv (tl s k) = 0) ∧ k + rdn (tl s k) + rdv (tl s k) ≤ s.size then (s.extract (k + rdn (tl s k)) (k + rdn (tl s k) + rdv (tl s k)), k + rdn (tl s k) + rdv (tl s k), 0) else (⟨#[]⟩, k, 21)
theorem tq_stale {n : Int} {s : ByteArray} {k e : Nat} (h : e ≠ 0) : tq n s k e = (⟨#[]⟩, k, e) := by unfold tq; rw [if_pos h]
theorem tq_bad {n : Int} {s : ByteArray} {k : Nat} (h : ¬ rde (tl s k) = 0) : tq n s k 0 = (⟨#[]⟩, k, rde (tl s k)) := by unfold tq; rw [if_neg (by omega), if_pos h]
theorem tq_ok {n : Int} {s : ByteArray} {k : Nat} (h : rde (tl s k) = 0) (h1 : ((rdv (tl s k) : Int) ≤ n ∨ rdv (tl s k) = 0) ∧ k + rdn (tl s k) + rdv (tl s k) ≤ s.size) : tq n s k 0 = (s.extract (k + rdn (tl s k)) (k + rdn (tl s k) + rdv (tl s k)), k + rdn (tl s k) + rdv (tl s k), 0) := by unfold tq; rw [if_neg (by omega), if_neg (by omega), if_pos h1]
theorem tq_long {n : Int} {s : ByteArray} {k : Nat} (h : rde (tl s k) = 0) (h1 : ¬ (((rdv (tl s k) : Int) ≤ n ∨ rdv (tl s k) = 0) ∧ k + rdn (tl s k) + rdv (tl s k) ≤ s.size)) : tq n s k 0 = (⟨#[]⟩, k, 21) := by unfold tq; rw [if_neg (by omega), if_neg (by omega), if_neg h1]
/-- A text or null. -/
def oq (most : Int) (s : ByteArray) (k e : Nat) : Bool × ByteArray × Nat × Nat := if e ≠ 0 then (false, ⟨#[]⟩, k, e) else if ¬ rde (tl s k) = 0 then (false, ⟨#[]⟩, k, rde (tl s k)) else if M.uz (rdv (tl s k)) = -1 then (false, ⟨#[]⟩, k + rdn (tl s k), 0) else if 0 ≤ M.uz (rdv (tl s k)) ∧ (M.uz (rdv (tl s k)) ≤ most ∨ M.uz (rdv (tl s k)) = 0) ∧ k + rdn (tl s k) + (M.uz (rdv (tl s k))).toNat ≤ s.size then (true, s.extract (k + rdn (tl s k)) (k + rdn (tl s k) + (M.uz (rdv (tl s k))).toNat), k + rdn (tl s k) + (M.uz (rdv (tl s k))).toNat, 0) else (false, ⟨#[]⟩, k, 21)
theorem oq_stale {n : Int} {s : ByteArray} {k e : Nat} (h : e ≠ 0) : oq n s k e = (false, ⟨#[]⟩, k, e) := by unfold oq; rw [if_pos h]
theorem oq_bad {n : Int} {s : ByteArray} {k : Nat} (h : ¬ rde (tl s k) = 0) : oq n s k 0 = (false, ⟨#[]⟩, k, rde (tl s k)) := by unfold oq; rw [if_neg (by omega), if_pos h]
theorem oq_null {n : Int} {s : ByteArray} {k : Nat} (h : rde (tl s k) = 0) (h1 : M.uz (rdv (tl s k)) = -1) : oq n s k 0 = (false, ⟨#[]⟩, k + rdn (tl s k), 0) := by unfold oq; rw [if_neg (by omega), if_neg (by omega), if_pos h1]
theorem oq_ok {most : Int} {s : ByteArray} {k n : Nat} (h : rde (tl s k) = 0) (h1 : M.uz (rdv (tl s k)) = n) (h2 : (n : Int) ≤ most ∨ n = 0) (h3 : k + rdn (tl s k) + n ≤ s.size) : oq most s k 0 = (true, s.extract (k + rdn (tl s k)) (k + rdn (tl s k) + n), k + rdn (tl s k) + n, 0) := by
  unfold oq; rw [h1, if_neg (by omega), if_neg (by omega), if_neg (by omega), if_pos (by simp; omega)]; simp
theorem oq_long {most : Int} {s : ByteArray} {k : Nat} (h : rde (tl s k) = 0) (h1 : M.uz (rdv (tl s k)) ≠ -1) (h2 : ¬ (0 ≤ M.uz (rdv (tl s k)) ∧ (M.uz (rdv (tl s k)) ≤ most ∨ M.uz (rdv (tl s k)) = 0) ∧ k + rdn (tl s k) + (M.uz (rdv (tl s k))).toNat ≤ s.size)) : oq most s k 0 = (false, ⟨#[]⟩, k, 21) := by
  unfold oq; rw [if_neg (by omega), if_neg (by omega), if_neg h1, if_neg h2]
theorem be_ext (s : ByteArray) (k n : Nat) (h : k + n ≤ s.size) : be (bl (s.extract k (k + n))) < 256 ^ n := by
  have h1 := be_lt (bl (s.extract k (k + n))) (bl_byte _)
  have hz : (s.extract k (k + n)).size = n := by simp [ByteArray.size_extract]; omega
  rw [bl_len, hz] at h1
  exact h1
end Go.Proofs.YtpfaioncaolmjaaGreat
