import Derived.Test.YtlbkkeoffeohnabVread
import Derived.Test.YtlbkkeoffeohnabLen
/- How many bytes a number's form has, as the program counts them; the world stays as it was. -/
namespace Go.Proofs.Ytlbkkeoffeohnab
open Go.RowKit
theorem or_one (v : Nat) : v ||| 1 = 2 * (v / 2) + 1 := by
  have h := nat_join 1 (2 * (v / 2)) 1 (by omega) (by omega)
  rcases Nat.mod_two_eq_zero_or_one v with e | e
  · have : v = 2 * (v / 2) := by omega
    rw [← h, ← this]
  · have e2 : v = 2 * (v / 2) + 1 := by omega
    conv => lhs; rw [e2, ← h, Nat.or_assoc, Nat.or_self, h]
theorem size_bits (v : Nat) (h : v < 18446744073709551616) : (Lib.bitLen (v ||| 1) + 6) / 7 = M.size v ∧ Lib.bitLen (v ||| 1) ≤ 64 := by
  have ho := or_one v
  have hlt : v ||| 1 < 2 ^ 64 := by rw [ho]; omega
  obtain ⟨a, b, c⟩ := Lib.bitLenAux_bounds 64 (v ||| 1) hlt (by rw [ho]; omega)
  have hL : Lib.bitLenAux 64 (v ||| 1) ≤ 64 := Lib.bitLen_le (v ||| 1) 64 (Nat.le_refl _) hlt
  unfold Lib.bitLen
  generalize Lib.bitLenAux 64 (v ||| 1) = L at a b c hL ⊢
  refine ⟨?_, hL⟩
  rw [ho] at b c
  obtain ⟨n, hn⟩ : ∃ n, (L + 6) / 7 = n + 1 := ⟨(L + 6) / 7 - 1, by omega⟩
  rw [hn]
  have e1 : v < 128 ^ (n + 1) := by
    have : 2 ^ L ≤ 2 ^ (7 * (n + 1)) := Nat.pow_le_pow_right (by omega) (by omega)
    rw [Nat.pow_mul] at this
    have e : (2 : Nat) ^ 7 = 128 := rfl
    rw [e] at this; omega
  have up : (M.formF 9 v).length ≤ n + 1 := M.size_lt (by omega) e1 9
  have e2 : 128 ^ n ≤ v ∨ n = 0 := by
    cases n with
    | zero => exact Or.inr rfl
    | succ n =>
      left
      have : 2 ^ (7 * (n + 1)) ≤ 2 ^ (L - 1) := Nat.pow_le_pow_right (by omega) (by omega)
      rw [Nat.pow_mul] at this
      have e : (2 : Nat) ^ 7 = 128 := rfl
      rw [e] at this
      rw [Nat.pow_succ] at this ⊢
      omega
  have lo : n < (M.formF 9 v).length := by
    rcases e2 with e2 | rfl
    · exact M.size_ge e2 9 (by omega)
    · have := M.formF_pos 9 v; omega
  unfold M.size M.form; omega
theorem size_or {v : Int} (h1 : 0 ≤ v) (h2 : v ≤ 18446744073709551615) : bits BinOp.or IntKind.u64 v 1 = ((v.toNat ||| 1 : Nat) : Int) := by
  rw [u64_or v 1 h1 (by omega) (by omega) (by omega)]; rfl
theorem fsize_any (v : Int) (w : World) (h1 : 0 ≤ v) (h2 : v ≤ 18446744073709551615) :
    Calls Try.prog 43 #[.int .u64 v] w fun e w' => e = .returned (.int .i64 (M.size v.toNat)) ∧ w' = w := by
  have hs := size_bits v.toNat (by omega)
  have ho := size_or h1 h2
  have hb : ((v.toNat ||| 1 : Nat) : Int) ≤ 18446744073709551615 := by rw [or_one]; omega
  generalize hm : bits BinOp.or IntKind.u64 v 1 = m at ho
  have HM : Hid (m = ((v.toNat ||| 1 : Nat) : Int)) := ho
  have HS : Hid ((Lib.bitLen (v.toNat ||| 1) + 6) / 7 = M.size v.toNat) := hs.1
  have hl : Lib.bitLen m.toNat ≤ 64 := by rw [ho]; exact hs.2
  have hm1 : 0 ≤ m := by rw [ho]; omega
  have hm2 : m ≤ 18446744073709551615 := by rw [ho]; exact hb
  clear ho hs hb
  go_enter Try.func43, Try.ntmps43
  go_wp2_with (go_at_call 46; refine (len64_any _ _ hm1 hm2).mono ?_; rintro e w' ⟨rfl, rfl⟩)
  go_ret
  exact ⟨ret_int (by rw [← HS.out, HM.out, Int.toNat_natCast]; omega), rfl⟩
theorem size_any (v : Int) (w : World) (h1 : 0 ≤ v) (h2 : v ≤ 18446744073709551615) :
    Calls Try.prog 39 #[.int .u64 v] w fun e w' => e = .returned (.int .i64 (M.size v.toNat)) ∧ w' = w := by
  go_enter Try.func39, Try.ntmps39
  go_wp2_with (go_at_call 43; refine (fsize_any _ _ h1 h2).mono ?_; rintro e w' ⟨rfl, rfl⟩)
  go_ret
  exact ⟨rfl, rfl⟩
theorem ssize64_any (v : Int) (w : World) (h1 : -9223372036854775808 ≤ v) (h2 : v ≤ 9223372036854775807) :
    Calls Try.prog 40 #[.int .i64 v] w fun e w' => e = .returned (.int .i64 (M.form (M.zz v).toNat).length) ∧ w' = w := by
  have hz := M.zz_bd h1 h2
  go_enter Try.func40, Try.ntmps40
  go_wp2_with (first
    | (go_at_call 44; refine (zz_any v _ h1 h2).mono ?_; rintro e w' ⟨rfl, rfl⟩)
    | (go_at_call 43; refine (fsize_any _ _ hz.1 hz.2).mono ?_; rintro e w' ⟨rfl, rfl⟩))
  go_ret
  exact ⟨rfl, rfl⟩
theorem ssizeInt_any (v : Int) (w : World) (h1 : -9223372036854775808 ≤ v) (h2 : v ≤ 9223372036854775807) :
    Calls Try.prog 45 #[.int .i64 v] w fun e w' => e = .returned (.int .i64 (M.form (M.zz v).toNat).length) ∧ w' = w := by
  have hz := M.zz_bd h1 h2
  go_enter Try.func45, Try.ntmps45
  go_wp2_with (first
    | (go_at_call 44; refine (zz_any v _ h1 h2).mono ?_; rintro e w' ⟨rfl, rfl⟩)
    | (go_at_call 43; refine (fsize_any _ _ hz.1 hz.2).mono ?_; rintro e w' ⟨rfl, rfl⟩))
  go_ret
  exact ⟨rfl, rfl⟩
end Go.Proofs.Ytlbkkeoffeohnab
