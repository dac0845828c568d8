/- How many bytes a number's form has, as the program counts them; the world stays as it was. -/
import Derived.Test.YtpfaioncaolmjaaGreatVread
import Derived.Test.YtpfaioncaolmjaaGreatLen
namespace Go.Proofs.YtpfaioncaolmjaaGreat
open Go.RowKit
theorem or_one (v : Nat) : v ||| 1 = 2 * (v / 2) + 1 := by
  have h := nat_join 1 (2 * (v / 2)) 1 (by omega) (by omega)
  rcases Nat.mod_two_eq_zero_or_one v with e | e
  · have : v = 2 * (v / 2) := by omega
    rw [← h, ← this]
  · have e2 : v = 2 * (v / 2) + 1 := by omega
    conv => lhs; rw [e2, ← h, Nat.or_assoc, Nat.or_self, h]
theorem size_bits (v : Nat) (h : v < 18446744073709551616) : (Lib.bitLen (v ||| 1) + 6) / 7 = M.size v ∧ Lib.bitLen (v ||| 1) ≤ 64 := by
  have ho := or_one v
  have hlt : v ||| 1 < 2 ^ 64 := by rw [ho]; omega
  obtain ⟨a, b, c⟩ := Lib.bitLenAux_bounds 64 (v ||| 1) hlt (by rw [ho]; omega)
  have hL : Lib.bitLenAux 64 (v ||| 1) ≤ 64 := Lib.bitLen_le (v ||| 1) 64 (Nat.le_refl _) hlt
  unfold Lib.bitLen
  generalize Lib.bitLenAux 64 (v ||| 1) = L at a b c hL ⊢
  refine ⟨?_, hL⟩
  rw [ho] at b c
  obtain ⟨n, hn⟩ : ∃ n, (L + 6) / 7 = n + 1 := ⟨(L + 6) / 7 - 1, by omega⟩
  rw [hn]
  have e1 : v < 128 ^ (n + 1) := by
    have : 2 ^ L ≤ 2 ^ (7 * (n + 1)) := Nat.pow_le_pow_right (by omega) (by omega)
    rw [Nat.pow_mul] at this
    have e : (2 : Nat) ^ 7 = 128 := rfl
    rw [e] at this; omega
  have up : (M.formF 9 v).length ≤ n + 1 := M.size_lt (by omega) e1 9
  have e2 : 128 ^ n ≤ v ∨ n = 0 := by
    cases n with
    | zero => exact Or.inr rfl
    | succ n =>
      left
      have : 2 ^ (7 * (n + 1)) ≤ 2 ^ (L - 1) := Nat.pow_le_pow_right (by omega) (by omega)
      rw [Nat.pow_mul] at this
      have e : (2 : Nat) ^ 7 = 128 := rfl
      rw [e] at this
      rw [Nat.pow_succ] at this ⊢
      omega
  have lo : n < (M.formF 9 v).length := by
    rcases e2 with e2 | rfl
    · exact M.size_ge e2 9 (by omega)
    · have := M.formF_pos 9 v; omega
  unfold M.size M.form; omega
theorem size_or {v : Int} (h1 : 0 ≤ v) (h2 : v ≤ 18446744073709551615) : bits BinOp.or IntKind.u64 v 1 = ((v.toNat ||| 1 : Nat) : Int) := by
  rw [u64_or v 1 h1 (by omega) (by omega) (by omega)]; rfl
end Go.Proofs.YtpfaioncaolmjaaGreat
