import Derived.Test.YtlbkkeoffeohnabAnsd
/- What the calls of a reader answer, said by its bytes, where it stands, and its error. -/
namespace Go.Proofs.Ytlbkkeoffeohnab
open Go.RowKit
/-- A number of n bytes. -/
def fx (n : Nat) (s : ByteArray) (k e : Nat) : Nat × Nat × Nat := if e ≠ 0 then (0, k, e) else if k + n ≤ s.size then (be (bl (s.extract k (k + n))), k + n, 0) else (0, k, 20)
/-- Layer 1's form. -/
def uq (s : ByteArray) (k e : Nat) : Nat × Nat × Nat := if e ≠ 0 then (0, k, e) else if rde (tl s k) = 0 then (rdv (tl s k), k + rdn (tl s k), 0) else (0, k, rde (tl s k))
theorem uq_stale {s : ByteArray} {k e : Nat} (h : e ≠ 0) : uq s k e = (0, k, e) := by unfold uq; rw [if_pos h]
/-- Its zigzag. -/
def vq (s : ByteArray) (k e : Nat) : Int × Nat × Nat := if e ≠ 0 then (0, k, e) else if rde (tl s k) = 0 then (M.uz (rdv (tl s k)), k + rdn (tl s k), 0) else (0, k, rde (tl s k))
theorem vq_stale {s : ByteArray} {k e : Nat} (h : e ≠ 0) : vq s k e = (0, k, e) := by unfold vq; rw [if_pos h]
/-- A text of at most so many bytes. -/
def tq (most : Int) (s : ByteArray) (k e : Nat) : ByteArray × Nat × Nat := if e ≠ 0 then (⟨#[]⟩, k, e) else if ¬ rde (tl s k) = 0 then (⟨#[]⟩, k, rde (tl s k)) else if ((rdv (tl s k) : Int) ≤ most ∨ rdv (tl s k) = 0) ∧ k + rdn (tl s k) + rdv (tl s k) ≤ s.size then (s.extract (k + rdn (tl s k)) (k + rdn (tl s k) + rdv (tl s k)), k + rdn (tl s k) + rdv (tl s k), 0) else (⟨#[]⟩, k, 21)
/-- A text or null. -/
def oq (most : Int) (s : ByteArray) (k e : Nat) : Bool × ByteArray × Nat × Nat := if e ≠ 0 then (false, ⟨#[]⟩, k, e) else if ¬ rde (tl s k) = 0 then (false, ⟨#[]⟩, k, rde (tl s k)) else if M.uz (rdv (tl s k)) = -1 then (false, ⟨#[]⟩, k + rdn (tl s k), 0) else if 0 ≤ M.uz (rdv (tl s k)) ∧ (M.uz (rdv (tl s k)) ≤ most ∨ M.uz (rdv (tl s k)) = 0) ∧ k + rdn (tl s k) + (M.uz (rdv (tl s k))).toNat ≤ s.size then (true, s.extract (k + rdn (tl s k)) (k + rdn (tl s k) + (M.uz (rdv (tl s k))).toNat), k + rdn (tl s k) + (M.uz (rdv (tl s k))).toNat, 0) else (false, ⟨#[]⟩, k, 21)
theorem oq_stale {n : Int} {s : ByteArray} {k e : Nat} (h : e ≠ 0) : oq n s k e = (false, ⟨#[]⟩, k, e) := by unfold oq; rw [if_pos h]
end Go.Proofs.Ytlbkkeoffeohnab
