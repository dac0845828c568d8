/- What the moves of a register answer, of the program and of the document's answer; no world is changed. -/
import Derived.Test.YtohpjbhjcgihkaaRows
import Derived.Test.YtohpjbhjcgihkaaProd
import Derived.WalkKit
import Derived.WalkSpells
import Derived.WalkLawsBesides
namespace Go.Proofs.Ytohpjbhjcgihkaa
open Go.RowKit
theorem ret_int {k : IntKind} {a b : Int} (h : a = b) : Ending.returned (.int k a) = .returned (.int k b) := by rw [h]
theorem and_one {X : Nat} (h : X < 4294967296) : bits BinOp.and IntKind.u32 (X : Int) 1 = ((X % 2 : Nat) : Int) := by
  have := u32_and_nat X 1 h (by omega)
  rw [Nat.and_one_is_mod] at this
  exact this
theorem mv_odd {X : Nat} (h : X < 4294967296) (ho : X % 2 = 1) : bits BinOp.xor IntKind.u32 ((X : Int) / 2) 2197175160 = ((M.mv X : Nat) : Int) := by
  have := u32_xor_nat (X / 2) 2197175160 (by omega) (by omega)
  unfold M.mv
  rw [if_pos ho]
  exact this
theorem mv_even {X : Nat} (ho : X % 2 = 0) : (X : Int) / 2 = ((M.mv X : Nat) : Int) := by
  unfold M.mv
  rw [if_neg (by omega)]
  rfl
set_option maxHeartbeats 1000000 in
set_option maxRecDepth 20000 in
theorem on_any (r n : Nat) (w : World) (hr : r < 4294967296) (hn : n ≤ 4294967296) :
    Calls Try.prog 36 #[.int .u32 r, .int .i64 n] w fun e w' => e = .returned (.int .u32 (M.mvN n r : Nat)) ∧ w' = w := by
  go_enter Try.func36, Try.ntmps36
  go_wp2
  go_loop [0, 6] (fun v i => ∃ k X : Nat, k ≤ n ∧ X < 4294967296 ∧ i = .int .i64 k ∧ v = .int .u32 X ∧ M.mvN n r = M.mvN (n - k) X) (fun _ i => n - (intOf i).toNat)
  case atStart => exact ⟨0, r, by omega, hr, rfl, rfl, rfl⟩
  case round =>
    obtain ⟨k, X, hk, hX, rfl, rfl, hd⟩ := hrel
    have HD : Hid (M.mvN n r = M.mvN (n - k) X) := hd
    clear hd
    by_cases hlt : k < n
    · have hnk : n - k = n - (k + 1) + 1 := by omega
      have HS : Hid (M.mvN n r = M.mvN (n - (k + 1)) (M.mv X)) := by show M.mvN n r = _; rw [HD.out, hnk]; rfl
      have hlt2 := M.mv_lt hX
      clear hnk HD
      have ha := and_one hX
      rcases Nat.mod_two_eq_zero_or_one X with ho | ho
      · rw [ho] at ha
        have hx := mv_even ho
        go_wp2
        exact ⟨⟨k + 1, M.mv X, by omega, hlt2, rfl, rfl, HS⟩, by simp [intOf]; omega⟩
      · rw [ho] at ha
        have hx := mv_odd hX ho
        go_wp2
        exact ⟨⟨k + 1, M.mv X, by omega, hlt2, rfl, rfl, HS⟩, by simp [intOf]; omega⟩
    · obtain rfl : k = n := by omega
      go_wp2
      go_ret
      exact ⟨ret_int (by rw [HD.out, Nat.sub_self]; rfl), rfl⟩
theorem and_high {X : Nat} (h : X < 4294967296) : bits BinOp.and IntKind.u32 (X : Int) 2147483648 = if 2147483648 ≤ X then 2147483648 else 0 := by
  have h1 := u32_and_nat X 2147483648 h (by omega)
  rw [show ((2147483648 : Nat) : Int) = 2147483648 from rfl] at h1
  rw [h1]
  have h2 : X &&& 2147483648 = if 2147483648 ≤ X then 2147483648 else 0 := by
    have h3 : X.testBit 31 = decide (2147483648 ≤ X) := by
      rw [Nat.testBit_eq_decide_div_mod_eq]
      congr 1
      apply propext
      omega
    have h5 (i : Nat) : Nat.testBit 2147483648 i = decide (31 = i) := Nat.testBit_two_pow (n := 31)
    apply Nat.eq_of_testBit_eq
    intro i
    rw [Nat.testBit_and, h5]
    by_cases h4 : 2147483648 ≤ X
    · rw [if_pos h4, h5]
      by_cases hi : 31 = i
      · subst hi
        rw [h3]; simp [h4]
      · simp [hi]
    · rw [if_neg h4]
      by_cases hi : 31 = i
      · subst hi
        rw [h3]; simp [h4]
      · simp [hi]
  rw [h2]
  split <;> rfl
theorem or_low {x : Int} (h0 : 0 ≤ x) (h1 : x < 4294967296) (he : x % 2 = 0) : bits BinOp.or IntKind.u32 x 1 = x + 1 := by
  obtain ⟨X, rfl⟩ := Int.eq_ofNat_of_zero_le h0
  have := u32_or_nat X 1 (by omega) (by omega)
  rw [show ((1 : Nat) : Int) = 1 from rfl] at this
  rw [this]
  have h2 := nat_join 1 X 1 (by omega) (by omega)
  rw [h2]; rfl
theorem bk_high {X : Nat} (h : X < 4294967296) (ho : 2147483648 ≤ X) : bits BinOp.or IntKind.u32 (bits BinOp.xor IntKind.u32 (X : Int) 2197175160 * 2 % 4294967296) 1 = ((M.bk X : Nat) : Int) := by
  have h1 := u32_xor_nat X 2197175160 h (by omega)
  rw [show ((2197175160 : Nat) : Int) = 2197175160 from rfl] at h1
  rw [h1, or_low (by omega) (by omega) (by omega)]
  unfold M.bk
  rw [if_pos ho]
  omega
theorem bk_lowr {X : Nat} (ho : ¬ 2147483648 ≤ X) : IntKind.u32.wrap ((X : Int) * 2) = ((M.bk X : Nat) : Int) := by
  rw [IntKind.wrap_u32']
  unfold M.bk
  rw [if_neg ho]
  omega
set_option maxHeartbeats 1000000 in
set_option maxRecDepth 20000 in
theorem back_any (r n : Nat) (w : World) (hr : r < 4294967296) (hn : n ≤ 4294967296) :
    Calls Try.prog 34 #[.int .u32 r, .int .i64 n] w fun e w' => e = .returned (.int .u32 (M.bkN n r : Nat)) ∧ w' = w := by
  go_enter Try.func34, Try.ntmps34
  go_wp2
  go_loop [0, 6] (fun v i => ∃ k X : Nat, k ≤ n ∧ X < 4294967296 ∧ i = .int .i64 k ∧ v = .int .u32 X ∧ M.bkN n r = M.bkN (n - k) X) (fun _ i => n - (intOf i).toNat)
  case atStart => exact ⟨0, r, by omega, hr, rfl, rfl, rfl⟩
  case round =>
    obtain ⟨k, X, hk, hX, rfl, rfl, hd⟩ := hrel
    have HD : Hid (M.bkN n r = M.bkN (n - k) X) := hd
    clear hd
    by_cases hlt : k < n
    · have hnk : n - k = n - (k + 1) + 1 := by omega
      have HS : Hid (M.bkN n r = M.bkN (n - (k + 1)) (M.bk X)) := by show M.bkN n r = _; rw [HD.out, hnk]; rfl
      have hlt2 := M.bk_lt (r := X)
      clear hnk HD
      have ha := and_high hX
      by_cases ho : 2147483648 ≤ X
      · rw [if_pos ho] at ha
        have hx := bk_high hX ho
        clear ho
        go_wp2
        exact ⟨⟨k + 1, M.bk X, by omega, hlt2, rfl, by first | rfl | rw [hx], HS⟩, by simp [intOf]; omega⟩
      · rw [if_neg ho] at ha
        have hx := bk_lowr ho
        clear ho
        go_wp2
        exact ⟨⟨k + 1, M.bk X, by omega, hlt2, rfl, by first | rfl | rw [hx], HS⟩, by simp [intOf]; omega⟩
    · obtain rfl : k = n := by omega
      go_wp2
      go_ret
      exact ⟨ret_int (by rw [HD.out, Nat.sub_self]; rfl), rfl⟩
end Go.Proofs.Ytohpjbhjcgihkaa
