import Derived.Laws.BitsAllLaws
import Derived.WalkKit
/- The plain mathematics of layer 1: the form of a number by sevens of bits, its reading, its size, zigzag; that reading takes writing back. No world, no program. -/
namespace Go.Proofs.Ytlbkkeoffeohnab.M
open Go.RowKit

/-! ### The form -/
def formF : Nat → Nat → List Nat
  | 0, v => [v]
  | f + 1, v => if v < 128 then [v] else (v % 128 + 128) :: formF f (v / 128)
def form (v : Nat) : List Nat := formF 9 v

theorem formF_low {f v : Nat} (h : v < 128) : formF f v = [v] := by
  cases f with
  | zero => rfl
  | succ f => simp [formF, h]
theorem formF_high {f v : Nat} (h : 128 ≤ v) : formF (f + 1) v = (v % 128 + 128) :: formF f (v / 128) := by
  have : ¬ v < 128 := by omega
  simp [formF, this]
theorem formF_pos (f v : Nat) : 1 ≤ (formF f v).length := by
  cases f with
  | zero => simp [formF]
  | succ f => unfold formF; split <;> simp
theorem formF_le : ∀ (f v : Nat), (formF f v).length ≤ f + 1
  | 0, v => by simp [formF]
  | f + 1, v => by
    unfold formF
    split
    · simp
    · have := formF_le f (v / 128); simp; omega
theorem form_le (v : Nat) : (form v).length ≤ 10 := formF_le 9 v
theorem form_pos (v : Nat) : 1 ≤ (form v).length := formF_pos 9 v
/-! ### Reading -/
def rd : Nat → Nat → List Nat → Nat × Nat × Nat
  | _, _, [] => (0, 0, 20)
  | i, v, b :: bs => if (i = 9 ∧ 1 < b) ∨ (0 < i ∧ b = 0) then (0, 0, 23) else if b < 128 then (v + b % 128 * 128 ^ i, i + 1, 0) else rd (i + 1) (v + b % 128 * 128 ^ i) bs

/-! ### Size -/
def size (v : Nat) : Nat := (form v).length

theorem size_lt {v k : Nat} (hk : 1 ≤ k) (h : v < 128 ^ k) (f : Nat) : (formF f v).length ≤ k := by
  induction k generalizing v f with
  | zero => omega
  | succ k ih =>
    cases f with
    | zero => simp [formF]
    | succ f =>
      by_cases hl : v < 128
      · rw [formF_low hl]; simp
      · rw [formF_high (by omega)]
        have hk0 : 1 ≤ k := by
          cases k with
          | zero => simp at h; omega
          | succ k => omega
        have := ih (v := v / 128) hk0 (by rw [Nat.pow_succ] at h; omega) f
        simp; omega
theorem size_ge {v k : Nat} (h : 128 ^ k ≤ v) (f : Nat) (hf : k ≤ f) : k < (formF f v).length := by
  induction k generalizing v f with
  | zero => have := formF_pos f v; omega
  | succ k ih =>
    cases f with
    | zero => omega
    | succ f =>
      have h1 : 1 ≤ 128 ^ k := Nat.one_le_pow _ _ (by omega)
      have h2 : 128 ≤ v := by rw [Nat.pow_succ] at h; omega
      rw [formF_high h2]
      have := ih (v := v / 128) (by rw [Nat.pow_succ] at h; omega) f (by omega)
      simp; omega

/-! ### Zigzag -/
def zz (v : Int) : Int := if 0 ≤ v then 2 * v else -2 * v - 1
def uz (u : Int) : Int := if u % 2 = 0 then u / 2 else -(u / 2) - 1
theorem zz_bd {v : Int} (h1 : -9223372036854775808 ≤ v) (h2 : v ≤ 9223372036854775807) : 0 ≤ zz v ∧ zz v ≤ 18446744073709551615 := by unfold zz; split <;> omega
theorem xor_ones (a : Nat) (h : a < 18446744073709551616) : a ^^^ 18446744073709551615 = 18446744073709551615 - a := by
  have e : (BitVec.ofNat 64 a ^^^ BitVec.allOnes 64).toNat = (~~~ BitVec.ofNat 64 a).toNat := by rw [BitVec.xor_allOnes]
  rw [BitVec.toNat_xor, BitVec.toNat_not] at e
  simp only [BitVec.toNat_ofNat, BitVec.toNat_allOnes] at e
  rw [Nat.mod_eq_of_lt (by simpa using h)] at e
  simpa using e

/-- Zigzag, as the code spells it. -/
theorem zz_code {v : Int} (h1 : -9223372036854775808 ≤ v) (h2 : v ≤ 9223372036854775807) :
    bits BinOp.xor IntKind.u64 (IntKind.u64.wrap (IntKind.u64.wrap v * 2)) (IntKind.u64.wrap (v / 9223372036854775808)) = zz v := by
  rw [IntKind.wrap_u64, IntKind.wrap_u64, IntKind.wrap_u64, u64_xor _ _ (by omega) (by omega) (by omega) (by omega)]
  unfold zz
  by_cases h : 0 ≤ v
  · rw [if_pos h]
    have e0 : (v / 9223372036854775808 % 18446744073709551616).toNat = 0 := by omega
    rw [e0, Nat.xor_zero]; omega
  · rw [if_neg h]
    have e0 : (v / 9223372036854775808 % 18446744073709551616).toNat = 18446744073709551615 := by omega
    rw [e0, xor_ones _ (by omega)]; omega
end Go.Proofs.Ytlbkkeoffeohnab.M
