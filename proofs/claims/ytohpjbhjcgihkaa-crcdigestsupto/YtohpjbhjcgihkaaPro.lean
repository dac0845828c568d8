/- What the product of polynomials and the polynomial of n bytes 00 are, of the program; no world is changed. -/
import Derived.Test.YtohpjbhjcgihkaaLeaf
import Derived.Deep.LoopGhost
namespace Go.Proofs.Ytohpjbhjcgihkaa
open Go.RowKit
theorem xor_nat {A B : Nat} (ha : A < 4294967296) (hb : B < 4294967296) : bits BinOp.xor IntKind.u32 (A : Int) (B : Int) = ((A ^^^ B : Nat) : Int) := u32_xor_nat A B ha hb
theorem xlt {A B : Nat} (ha : A < 4294967296) (hb : B < 4294967296) : A ^^^ B < 4294967296 := Nat.xor_lt_two_pow (n := 32) ha hb
set_option maxHeartbeats 1000000 in
set_option maxRecDepth 20000 in
theorem prod_any (a b : Nat) (w : World) (ha : a < 4294967296) (hb : b < 4294967296) :
    Calls Try.prog 30 #[.int .u32 a, .int .u32 b] w fun e w' => e = .returned (.int .u32 (M.prodF 32 a b : Nat)) ∧ w' = w := by
  go_enter Try.func30, Try.ntmps30
  go_wp2
  go_loopg [0, 1, 5] 32 (fun k u v o wr => ∃ A B O : Nat, k ≤ 32 ∧ 2 ^ (32 - k) ∣ A ∧ A < 4294967296 ∧ B < 4294967296 ∧ O < 4294967296 ∧ u = .int .u32 A ∧ v = .int .u32 B ∧ o = .int .u32 O ∧ M.prodF 32 a b = O ^^^ M.prodF k A B ∧ wr = w)
  case atStart => exact ⟨a, b, 0, by omega, Nat.one_dvd _, ha, hb, by omega, rfl, rfl, rfl, (Nat.zero_xor _).symm, rfl⟩
  case round =>
    obtain ⟨A, B, O, hk, hdv, hA, hB, hO, rfl, rfl, rfl, hd, rfl⟩ := hrel
    have HD : Hid (M.prodF 32 a b = O ^^^ M.prodF gk A B) := hd
    have HV : Hid (2 ^ (32 - gk) ∣ A) := hdv
    clear hd hdv
    by_cases h0 : A = 0
    · subst h0
      go_wp2
      go_ret
      exact ⟨ret_int (by rw [HD.out, M.prodF_zero, Nat.xor_zero]), rfl⟩
    · have hne : (((A : Nat) : Int) != 0) = true := by simp; omega
      obtain ⟨k, rfl⟩ : ∃ k, gk = k + 1 := by
        cases gk with
        | zero =>
          exfalso
          obtain ⟨c, hc⟩ := HV.out
          rw [show (2 : Nat) ^ (32 - 0) = 4294967296 from rfl] at hc
          omega
        | succ k => exact ⟨k, rfl⟩
      have hB2 := M.mv_lt hB
      have hA2 : A * 2 % 4294967296 < 4294967296 := Nat.mod_lt _ (by omega)
      have HV2 : Hid (2 ^ (32 - k) ∣ A * 2 % 4294967296) := by
        show 2 ^ (32 - k) ∣ A * 2 % 4294967296
        obtain ⟨c, hc⟩ := HV.out
        have e : 2 ^ (32 - k) = 2 ^ (32 - (k + 1)) * 2 := by rw [← Nat.pow_succ]; congr 1; omega
        have h1 : 2 ^ (32 - k) ∣ A * 2 := ⟨c, by rw [hc, e, Nat.mul_right_comm]⟩
        have h2 : 2 ^ (32 - k) ∣ 4294967296 := by
          rw [show (4294967296 : Nat) = 2 ^ 32 from rfl]; exact Nat.pow_dvd_pow 2 (by omega)
        exact (Nat.dvd_mod_iff h2).2 h1
      have hsh : (A : Int) * 2 % 4294967296 = ((A * 2 % 4294967296 : Nat) : Int) := by omega
      have hah := and_high hA
      have hon := on_any B 1 wr hB (by omega)
      by_cases ho : 2147483648 ≤ A
      · rw [if_pos ho] at hah
        have hx := xor_nat hO hB
        have hx2 := xlt hO hB
        have HS : Hid (M.prodF 32 a b = O ^^^ B ^^^ M.prodF k (A * 2 % 4294967296) (M.mv B)) := by
          show M.prodF 32 a b = _
          rw [HD.out, M.prodF, if_pos ho, Nat.xor_assoc]
        clear HD HV ho
        go_wp2_with (go_at_call 36; refine hon.mono ?_; rintro e w1 ⟨rfl, rfl⟩)
        go_roundg k
        case measure => omega
        case rel => exact ⟨_, _, _, by omega, HV2, hA2, hB2, hx2, by first | rfl | rw [hsh], rfl, by first | rfl | rw [hx], HS, rfl⟩
      · rw [if_neg ho] at hah
        have HS : Hid (M.prodF 32 a b = O ^^^ M.prodF k (A * 2 % 4294967296) (M.mv B)) := by
          show M.prodF 32 a b = _
          rw [HD.out, M.prodF, if_neg ho, Nat.zero_xor]
        clear HD HV ho
        go_wp2_with (go_at_call 36; refine hon.mono ?_; rintro e w1 ⟨rfl, rfl⟩)
        go_roundg k
        case measure => omega
        case rel => exact ⟨_, _, _, by omega, HV2, hA2, hB2, hO, by first | rfl | rw [hsh], rfl, rfl, HS, rfl⟩
set_option maxHeartbeats 1000000 in
set_option maxRecDepth 20000 in
/-- The program's loop over n, halving. -/
theorem zeros_any (n : Int) (w : World) (h1 : -9223372036854775808 ≤ n) (h2 : n ≤ 9223372036854775807) :
    Calls Try.prog 31 #[.int .i64 n] w fun e w' => e = .returned (.int .u32 (M.zer n.toNat 2147483648 : Nat)) ∧ w' = w := by
  obtain ⟨R, hR⟩ : ∃ R, R = M.zer n.toNat 2147483648 := ⟨_, rfl⟩
  rw [← hR]
  have HR : Hid (R = M.zer n.toNat 2147483648) := hR
  clear hR
  go_enter Try.func31, Try.ntmps31
  go_wp2
  go_loopg [0, 3, 4] n.toNat (fun k u p q wr => ∃ (N : Int) (X Y : Nat), N.toNat = k ∧ -9223372036854775808 ≤ N ∧ N ≤ 9223372036854775807 ∧ X < 4294967296 ∧ Y < 4294967296 ∧ u = .int .i64 N ∧ p = .int .u32 X ∧ q = .int .u32 Y ∧ Hid (∃ P Q : Nat, X = M.zer P 2147483648 ∧ Y = M.zer Q 2147483648 ∧ n.toNat = P + k * Q) ∧ wr = w)
  case atStart => exact ⟨n, 2147483648, 8388608, rfl, h1, h2, by omega, by omega, rfl, rfl, rfl, ⟨0, 1, rfl, by decide, by omega⟩, rfl⟩
  case round =>
    obtain ⟨N, X, Y, hN, hN1, hN2, hX, hY, rfl, rfl, rfl, HD, rfl⟩ := hrel
    have HN : Hid (N.toNat = gk) := hN
    clear hN
    obtain ⟨A, hA⟩ : ∃ A, A = M.prodF 32 X Y := ⟨_, rfl⟩
    obtain ⟨B, hB⟩ : ∃ B, B = M.prodF 32 Y Y := ⟨_, rfl⟩
    have c1 := prod_any _ _ wr hX hY
    have c2 := prod_any _ _ wr hY hY
    rw [← hA] at c1
    rw [← hB] at c2
    have HA : Hid (∀ P Q, X = M.zer P 2147483648 → Y = M.zer Q 2147483648 → A = M.zer (P + Q) 2147483648) := by
      intro P Q hx hy
      rw [hA, hx, hy, M.zer_add]; exact M.prod_pow (8 * Q) (by rw [← hx]; exact hX)
    have HB : Hid (∀ Q, Y = M.zer Q 2147483648 → B = M.zer (Q + Q) 2147483648) := by
      intro Q hy
      rw [hB, hy, M.zer_add]; exact M.prod_pow (8 * Q) (by rw [← hy]; exact hY)
    have hAl : Hid (A < 4294967296) := by
      show A < _
      obtain ⟨P, Q, hx, hy, _⟩ := HD.out
      rw [HA.out P Q hx hy]; exact M.zer_lt (by omega)
    have hBl : Hid (B < 4294967296) := by
      show B < _
      obtain ⟨P, Q, hx, hy, _⟩ := HD.out
      rw [HB.out Q hy]; exact M.zer_lt (by omega)
    clear hA hB
    by_cases hpos : 0 < N
    · have hdiv : N.tdiv 2 = N / 2 := Int.tdiv_eq_ediv_of_nonneg (by omega)
      have hmod : N.tmod 2 = N % 2 := Int.tmod_eq_emod_of_nonneg (by omega)
      rcases (show N % 2 = 0 ∨ N % 2 = 1 by omega) with ho | ho
      · go_wp2_with fail
        refine c2.mono ?_
        rintro e w1 ⟨rfl, rfl⟩
        go_wp2_with fail
        go_roundg (N / 2).toNat
        case measure => have hg := HN.out; omega
        case rel =>
          refine ⟨N / 2, X, B, rfl, by omega, by omega, hX, hBl, by first | rfl | rw [hdiv], rfl, rfl, ?_, rfl⟩
          obtain ⟨P, Q, hx, hy, hd⟩ := HD.out
          refine ⟨P, Q + Q, hx, HB.out Q hy, ?_⟩
          have hg := HN.out
          have e : gk = (N / 2).toNat * 2 := by omega
          rw [hd, e, Nat.mul_assoc, Nat.two_mul]
      · go_wp2_with fail
        refine c1.mono ?_
        rintro e w1 ⟨rfl, rfl⟩
        go_wp2_with fail
        refine c2.mono ?_
        rintro e w1 ⟨rfl, rfl⟩
        go_wp2_with fail
        go_roundg (N / 2).toNat
        case measure => have hg := HN.out; omega
        case rel =>
          refine ⟨N / 2, A, B, rfl, by omega, by omega, hAl, hBl, by first | rfl | rw [hdiv], rfl, rfl, ?_, rfl⟩
          obtain ⟨P, Q, hx, hy, hd⟩ := HD.out
          refine ⟨P + Q, Q + Q, HA.out P Q hx hy, HB.out Q hy, ?_⟩
          have hg := HN.out
          have e : gk = (N / 2).toNat * 2 + 1 := by omega
          rw [hd, e, Nat.add_mul, Nat.mul_assoc, Nat.two_mul]; omega
    · have hg := HN.out
      have hk : gk = 0 := by omega
      clear c1 c2
      go_wp2
      go_ret
      refine ⟨ret_int ?_, rfl⟩
      obtain ⟨P, Q, hx, hy, hd⟩ := HD.out
      rw [HR.out, hd, hk, Nat.zero_mul, Nat.add_zero, hx]
end Go.Proofs.Ytohpjbhjcgihkaa
