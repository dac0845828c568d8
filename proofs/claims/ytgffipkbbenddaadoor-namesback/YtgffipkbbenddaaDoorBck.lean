/- NamesBack: names are read back, and stand in the order of their bases. -/
import Derived.Test.YtgffipkbbenddaaDoorAwk
namespace Go.Proofs.YtgffipkbbenddaaDoor
open Go.RowKit Go.Lib
theorem nmV_good (a k : Nat) (ha : a ≤ 4611686018427387904) (hk : k ≤ 2) : nmV a k = (ba (nm a k), 0) := by
  unfold nmV
  rw [if_neg (by omega), if_neg (by omega)]
  rfl
theorem nmV_bad (a k : Int) (h : a < 0 ∨ 4611686018427387904 < a ∨ k < 0 ∨ 2 < k) : (nmV a k).2 ≠ 0 := by
  unfold nmV
  split
  · decide
  · split
    · decide
    · rename_i h1 h2
      omega
theorem bl_self : ∀ (l : List UInt8), Op.bytesLess l l = false
  | [] => rfl
  | a :: l => by simp [Op.bytesLess, bl_self l]
theorem u8_lt {x y : Nat} (hx : x ≤ 9) (hy : y ≤ 9) : (UInt8.ofNat (48 + x) < UInt8.ofNat (48 + y)) ↔ x < y := by
  rw [UInt8.lt_iff_toNat_lt, of48 hx, of48 hy]; omega
theorem u8_eq {x y : Nat} (hx : x ≤ 9) (hy : y ≤ 9) : (UInt8.ofNat (48 + x) = UInt8.ofNat (48 + y)) ↔ x = y := by
  refine ⟨fun h => ?_, fun h => by rw [h]⟩
  have := congrArg UInt8.toNat h
  rw [of48 hx, of48 hy] at this
  omega
theorem bl_D : ∀ (k a b : Nat) (e : List UInt8), Op.bytesLess (D k a ++ e) (D k b ++ e) = decide (a % 10 ^ k < b % 10 ^ k)
  | 0, a, b, e => by
    simp only [D, List.nil_append, bl_self, Nat.pow_zero, Nat.mod_one]
    rfl
  | k + 1, a, b, e => by
    rw [D_front, D_front, List.cons_append, List.cons_append, Op.bytesLess, bl_D k a b e, Nat.pow_succ, Nat.mod_mul, Nat.mod_mul]
    have ha : a / 10 ^ k % 10 ≤ 9 := by omega
    have hb : b / 10 ^ k % 10 ≤ 9 := by omega
    have pa : a % 10 ^ k < 10 ^ k := Nat.mod_lt _ (Nat.pow_pos (by decide))
    have pb : b % 10 ^ k < 10 ^ k := Nat.mod_lt _ (Nat.pow_pos (by decide))
    generalize a / 10 ^ k % 10 = x at *
    generalize b / 10 ^ k % 10 = y at *
    generalize a % 10 ^ k = u at *
    generalize b % 10 ^ k = v at *
    generalize 10 ^ k = p at *
    rcases Nat.lt_trichotomy x y with h | h | h
    · have h1 : p * (x + 1) ≤ p * y := Nat.mul_le_mul_left _ h
      rw [Nat.mul_add, Nat.mul_one] at h1
      rw [decide_eq_true ((u8_lt ha hb).2 h), decide_eq_true (by omega : u + p * x < v + p * y)]
      rfl
    · subst h
      rw [decide_eq_false (fun h => by have := (u8_lt ha hb).1 h; omega), beq_self_eq_true]
      simp
    · have h1 : p * (y + 1) ≤ p * x := Nat.mul_le_mul_left _ h
      rw [Nat.mul_add, Nat.mul_one] at h1
      rw [decide_eq_false (fun h' => by have := (u8_lt ha hb).1 h'; omega), beq_false_of_ne (fun h' => by have := (u8_eq ha hb).1 h'; omega), decide_eq_false (by omega : ¬ u + p * x < v + p * y)]
      rfl
theorem bl_nm {a b k : Nat} (ha : a ≤ 4611686018427387904) (hb : b ≤ 4611686018427387904) : Op.bytesLess (ba (nm a k)).toList (ba (nm b k)).toList = decide (a < b) := by
  rw [ByteArray.toList_eq, ByteArray.toList_eq]
  show Op.bytesLess (nm a k) (nm b k) = _
  unfold nm
  rw [bl_D, Nat.mod_eq_of_lt (by omega), Nat.mod_eq_of_lt (by omega)]
set_option maxRecDepth 20000 in
set_option maxHeartbeats 4000000 in
theorem bk1n (a b k : Int) (s : ByteArray) (S T : ByteArray) (E F : Int) (w : World) (a0 : 0 ≤ a) (a1 : a ≤ 4611686018427387904) (b0' : 0 ≤ b) (b1 : b ≤ 4611686018427387904) (c0 : 0 ≤ k) (c1 : k ≤ 2) (hE : E = 0) (hF : F = 0) (hq : Op.bytesLess S.toList T.toList = decide (a < b)) (H3 : Hid (∀ wx, Below w.heap.size w wx → Calls Tryd.prog 12 #[.string S] wx fun e w' => e = .returned (.tuple #[.int .i64 a, .int .i64 k, .bool true]) ∧ Below w.heap.size w w')) (hl : S.size = 24)
    (HA : Hid (Calls Tryd.prog 9 #[] w fun e w' => e = .returned (.bool true) ∧ Below w.heap.size w w'))
    (H1 : Hid (∀ wx, Below w.heap.size w wx → Calls Tryd.prog 10 #[.int .i64 a, .int .i64 k] wx fun e w' => e = .returned (.tuple #[.string S, .int .i64 E]) ∧ Below w.heap.size w w'))
    (H2 : Hid (∀ wx, Below w.heap.size w wx → Calls Tryd.prog 10 #[.int .i64 b, .int .i64 k] wx fun e w' => e = .returned (.tuple #[.string T, .int .i64 F]) ∧ Below w.heap.size w w'))
    (H4 : Hid (∀ wx, Below w.heap.size w wx → Calls Tryd.prog 12 #[.string s] wx fun e w' => e = .returned (.tuple #[.int .i64 0, .int .i64 0, .bool false]) ∧ Below w.heap.size w w')) :
    Calls Tryd.prog 7 #[.int .i64 a, .int .i64 b, .int .i64 k, .string s] w fun e w' => e = .returned (.bool true) ∧ Below w.heap.size w w' := by
  subst hE hF
  go_enter Tryd.func7, Tryd.ntmps7
  go_wp2_with (first | (go_at_call 9; refine HA.out.mono ?_; rintro e w1 ⟨rfl, hb1⟩) | (go_at_call 10; with_reducible refine (H1.out _ hb1).mono ?_; rintro e w2 ⟨rfl, hb2⟩) | (go_at_call 10; with_reducible refine (H2.out _ hb2).mono ?_; rintro e w3 ⟨rfl, hb3⟩) | (go_at_call 12; with_reducible refine (H3.out _ hb3).mono ?_; rintro e w4 ⟨rfl, hb4⟩) | (go_at_call 12; with_reducible refine (H4.out _ hb4).mono ?_; rintro e w5 ⟨rfl, hb5⟩))
  go_ret
  exact ⟨rfl, hb5⟩
set_option maxRecDepth 20000 in
set_option maxHeartbeats 4000000 in
theorem bk2an (a b k : Int) (s : ByteArray) (S T : ByteArray) (E F : Int) (w : World) (a0 : 0 ≤ a) (a1 : a ≤ 4611686018427387904) (b2 : b < 0) (c0 : 0 ≤ k) (c1 : k ≤ 2) (hE : E = 0) (hF : (F == 0) = false) (H3 : Hid (∀ wx, Below w.heap.size w wx → Calls Tryd.prog 12 #[.string S] wx fun e w' => e = .returned (.tuple #[.int .i64 a, .int .i64 k, .bool true]) ∧ Below w.heap.size w w')) (hl : S.size = 24)
    (HA : Hid (Calls Tryd.prog 9 #[] w fun e w' => e = .returned (.bool true) ∧ Below w.heap.size w w'))
    (H1 : Hid (∀ wx, Below w.heap.size w wx → Calls Tryd.prog 10 #[.int .i64 a, .int .i64 k] wx fun e w' => e = .returned (.tuple #[.string S, .int .i64 E]) ∧ Below w.heap.size w w'))
    (H2 : Hid (∀ wx, Below w.heap.size w wx → Calls Tryd.prog 10 #[.int .i64 b, .int .i64 k] wx fun e w' => e = .returned (.tuple #[.string T, .int .i64 F]) ∧ Below w.heap.size w w'))
    (H4 : Hid (∀ wx, Below w.heap.size w wx → Calls Tryd.prog 12 #[.string s] wx fun e w' => e = .returned (.tuple #[.int .i64 0, .int .i64 0, .bool false]) ∧ Below w.heap.size w w')) :
    Calls Tryd.prog 7 #[.int .i64 a, .int .i64 b, .int .i64 k, .string s] w fun e w' => e = .returned (.bool true) ∧ Below w.heap.size w w' := by
  subst hE
  go_enter Tryd.func7, Tryd.ntmps7
  go_wp2_with (first | (go_at_call 9; refine HA.out.mono ?_; rintro e w1 ⟨rfl, hb1⟩) | (go_at_call 10; with_reducible refine (H1.out _ hb1).mono ?_; rintro e w2 ⟨rfl, hb2⟩) | (go_at_call 10; with_reducible refine (H2.out _ hb2).mono ?_; rintro e w3 ⟨rfl, hb3⟩) | (go_at_call 12; with_reducible refine (H3.out _ hb3).mono ?_; rintro e w4 ⟨rfl, hb4⟩) | (go_at_call 12; with_reducible refine (H4.out _ hb4).mono ?_; rintro e w5 ⟨rfl, hb5⟩))
  go_ret
  exact ⟨rfl, hb5⟩
set_option maxRecDepth 20000 in
set_option maxHeartbeats 4000000 in
theorem bk2bn (a b k : Int) (s : ByteArray) (S T : ByteArray) (E F : Int) (w : World) (a0 : 0 ≤ a) (a1 : a ≤ 4611686018427387904) (b0' : 0 ≤ b) (b2 : 4611686018427387904 < b) (c0 : 0 ≤ k) (c1 : k ≤ 2) (hE : E = 0) (hF : (F == 0) = false) (H3 : Hid (∀ wx, Below w.heap.size w wx → Calls Tryd.prog 12 #[.string S] wx fun e w' => e = .returned (.tuple #[.int .i64 a, .int .i64 k, .bool true]) ∧ Below w.heap.size w w')) (hl : S.size = 24)
    (HA : Hid (Calls Tryd.prog 9 #[] w fun e w' => e = .returned (.bool true) ∧ Below w.heap.size w w'))
    (H1 : Hid (∀ wx, Below w.heap.size w wx → Calls Tryd.prog 10 #[.int .i64 a, .int .i64 k] wx fun e w' => e = .returned (.tuple #[.string S, .int .i64 E]) ∧ Below w.heap.size w w'))
    (H2 : Hid (∀ wx, Below w.heap.size w wx → Calls Tryd.prog 10 #[.int .i64 b, .int .i64 k] wx fun e w' => e = .returned (.tuple #[.string T, .int .i64 F]) ∧ Below w.heap.size w w'))
    (H4 : Hid (∀ wx, Below w.heap.size w wx → Calls Tryd.prog 12 #[.string s] wx fun e w' => e = .returned (.tuple #[.int .i64 0, .int .i64 0, .bool false]) ∧ Below w.heap.size w w')) :
    Calls Tryd.prog 7 #[.int .i64 a, .int .i64 b, .int .i64 k, .string s] w fun e w' => e = .returned (.bool true) ∧ Below w.heap.size w w' := by
  subst hE
  go_enter Tryd.func7, Tryd.ntmps7
  go_wp2_with (first | (go_at_call 9; refine HA.out.mono ?_; rintro e w1 ⟨rfl, hb1⟩) | (go_at_call 10; with_reducible refine (H1.out _ hb1).mono ?_; rintro e w2 ⟨rfl, hb2⟩) | (go_at_call 10; with_reducible refine (H2.out _ hb2).mono ?_; rintro e w3 ⟨rfl, hb3⟩) | (go_at_call 12; with_reducible refine (H3.out _ hb3).mono ?_; rintro e w4 ⟨rfl, hb4⟩) | (go_at_call 12; with_reducible refine (H4.out _ hb4).mono ?_; rintro e w5 ⟨rfl, hb5⟩))
  go_ret
  exact ⟨rfl, hb5⟩
set_option maxRecDepth 20000 in
set_option maxHeartbeats 4000000 in
theorem bk4xxxn (a b k : Int) (s : ByteArray) (S T : ByteArray) (E F : Int) (w : World) (a2 : a < 0) (b2 : b < 0) (c2 : k < 0) (hE : (E == 0) = false) (hF : (F == 0) = false)
    (HA : Hid (Calls Tryd.prog 9 #[] w fun e w' => e = .returned (.bool true) ∧ Below w.heap.size w w'))
    (H1 : Hid (∀ wx, Below w.heap.size w wx → Calls Tryd.prog 10 #[.int .i64 a, .int .i64 k] wx fun e w' => e = .returned (.tuple #[.string S, .int .i64 E]) ∧ Below w.heap.size w w'))
    (H2 : Hid (∀ wx, Below w.heap.size w wx → Calls Tryd.prog 10 #[.int .i64 b, .int .i64 k] wx fun e w' => e = .returned (.tuple #[.string T, .int .i64 F]) ∧ Below w.heap.size w w'))
    (H4 : Hid (∀ wx, Below w.heap.size w wx → Calls Tryd.prog 12 #[.string s] wx fun e w' => e = .returned (.tuple #[.int .i64 0, .int .i64 0, .bool false]) ∧ Below w.heap.size w w')) :
    Calls Tryd.prog 7 #[.int .i64 a, .int .i64 b, .int .i64 k, .string s] w fun e w' => e = .returned (.bool true) ∧ Below w.heap.size w w' := by
  have c9 := c2
  clear c9
  go_enter Tryd.func7, Tryd.ntmps7
  go_wp2_with (first | (go_at_call 9; refine HA.out.mono ?_; rintro e w1 ⟨rfl, hb1⟩) | (go_at_call 10; with_reducible refine (H1.out _ hb1).mono ?_; rintro e w2 ⟨rfl, hb2⟩) | (go_at_call 10; with_reducible refine (H2.out _ hb2).mono ?_; rintro e w3 ⟨rfl, hb3⟩) | (go_at_call 12; with_reducible refine (H4.out _ hb3).mono ?_; rintro e w5 ⟨rfl, hb5⟩))
  go_ret
  exact ⟨rfl, hb5⟩
set_option maxRecDepth 20000 in
set_option maxHeartbeats 4000000 in
theorem bk4xxyn (a b k : Int) (s : ByteArray) (S T : ByteArray) (E F : Int) (w : World) (a2 : a < 0) (b2 : b < 0) (c0 : 0 ≤ k) (c2 : 2 < k) (hE : (E == 0) = false) (hF : (F == 0) = false)
    (HA : Hid (Calls Tryd.prog 9 #[] w fun e w' => e = .returned (.bool true) ∧ Below w.heap.size w w'))
    (H1 : Hid (∀ wx, Below w.heap.size w wx → Calls Tryd.prog 10 #[.int .i64 a, .int .i64 k] wx fun e w' => e = .returned (.tuple #[.string S, .int .i64 E]) ∧ Below w.heap.size w w'))
    (H2 : Hid (∀ wx, Below w.heap.size w wx → Calls Tryd.prog 10 #[.int .i64 b, .int .i64 k] wx fun e w' => e = .returned (.tuple #[.string T, .int .i64 F]) ∧ Below w.heap.size w w'))
    (H4 : Hid (∀ wx, Below w.heap.size w wx → Calls Tryd.prog 12 #[.string s] wx fun e w' => e = .returned (.tuple #[.int .i64 0, .int .i64 0, .bool false]) ∧ Below w.heap.size w w')) :
    Calls Tryd.prog 7 #[.int .i64 a, .int .i64 b, .int .i64 k, .string s] w fun e w' => e = .returned (.bool true) ∧ Below w.heap.size w w' := by
  have c9 := c2
  clear c9
  go_enter Tryd.func7, Tryd.ntmps7
  go_wp2_with (first | (go_at_call 9; refine HA.out.mono ?_; rintro e w1 ⟨rfl, hb1⟩) | (go_at_call 10; with_reducible refine (H1.out _ hb1).mono ?_; rintro e w2 ⟨rfl, hb2⟩) | (go_at_call 10; with_reducible refine (H2.out _ hb2).mono ?_; rintro e w3 ⟨rfl, hb3⟩) | (go_at_call 12; with_reducible refine (H4.out _ hb3).mono ?_; rintro e w5 ⟨rfl, hb5⟩))
  go_ret
  exact ⟨rfl, hb5⟩
set_option maxRecDepth 20000 in
set_option maxHeartbeats 4000000 in
theorem bk4xxzn (a b k : Int) (s : ByteArray) (S T : ByteArray) (E F : Int) (w : World) (a2 : a < 0) (b2 : b < 0) (c0 : 0 ≤ k) (c1 : k ≤ 2) (hE : (E == 0) = false) (hF : (F == 0) = false)
    (HA : Hid (Calls Tryd.prog 9 #[] w fun e w' => e = .returned (.bool true) ∧ Below w.heap.size w w'))
    (H1 : Hid (∀ wx, Below w.heap.size w wx → Calls Tryd.prog 10 #[.int .i64 a, .int .i64 k] wx fun e w' => e = .returned (.tuple #[.string S, .int .i64 E]) ∧ Below w.heap.size w w'))
    (H2 : Hid (∀ wx, Below w.heap.size w wx → Calls Tryd.prog 10 #[.int .i64 b, .int .i64 k] wx fun e w' => e = .returned (.tuple #[.string T, .int .i64 F]) ∧ Below w.heap.size w w'))
    (H4 : Hid (∀ wx, Below w.heap.size w wx → Calls Tryd.prog 12 #[.string s] wx fun e w' => e = .returned (.tuple #[.int .i64 0, .int .i64 0, .bool false]) ∧ Below w.heap.size w w')) :
    Calls Tryd.prog 7 #[.int .i64 a, .int .i64 b, .int .i64 k, .string s] w fun e w' => e = .returned (.bool true) ∧ Below w.heap.size w w' := by
  go_enter Tryd.func7, Tryd.ntmps7
  go_wp2_with (first | (go_at_call 9; refine HA.out.mono ?_; rintro e w1 ⟨rfl, hb1⟩) | (go_at_call 10; with_reducible refine (H1.out _ hb1).mono ?_; rintro e w2 ⟨rfl, hb2⟩) | (go_at_call 10; with_reducible refine (H2.out _ hb2).mono ?_; rintro e w3 ⟨rfl, hb3⟩) | (go_at_call 12; with_reducible refine (H4.out _ hb3).mono ?_; rintro e w5 ⟨rfl, hb5⟩))
  go_ret
  exact ⟨rfl, hb5⟩
set_option maxRecDepth 20000 in
set_option maxHeartbeats 4000000 in
theorem bk4xyxn (a b k : Int) (s : ByteArray) (S T : ByteArray) (E F : Int) (w : World) (a2 : a < 0) (b0' : 0 ≤ b) (b2 : 4611686018427387904 < b) (c2 : k < 0) (hE : (E == 0) = false) (hF : (F == 0) = false)
    (HA : Hid (Calls Tryd.prog 9 #[] w fun e w' => e = .returned (.bool true) ∧ Below w.heap.size w w'))
    (H1 : Hid (∀ wx, Below w.heap.size w wx → Calls Tryd.prog 10 #[.int .i64 a, .int .i64 k] wx fun e w' => e = .returned (.tuple #[.string S, .int .i64 E]) ∧ Below w.heap.size w w'))
    (H2 : Hid (∀ wx, Below w.heap.size w wx → Calls Tryd.prog 10 #[.int .i64 b, .int .i64 k] wx fun e w' => e = .returned (.tuple #[.string T, .int .i64 F]) ∧ Below w.heap.size w w'))
    (H4 : Hid (∀ wx, Below w.heap.size w wx → Calls Tryd.prog 12 #[.string s] wx fun e w' => e = .returned (.tuple #[.int .i64 0, .int .i64 0, .bool false]) ∧ Below w.heap.size w w')) :
    Calls Tryd.prog 7 #[.int .i64 a, .int .i64 b, .int .i64 k, .string s] w fun e w' => e = .returned (.bool true) ∧ Below w.heap.size w w' := by
  have c9 := c2
  clear c9
  go_enter Tryd.func7, Tryd.ntmps7
  go_wp2_with (first | (go_at_call 9; refine HA.out.mono ?_; rintro e w1 ⟨rfl, hb1⟩) | (go_at_call 10; with_reducible refine (H1.out _ hb1).mono ?_; rintro e w2 ⟨rfl, hb2⟩) | (go_at_call 10; with_reducible refine (H2.out _ hb2).mono ?_; rintro e w3 ⟨rfl, hb3⟩) | (go_at_call 12; with_reducible refine (H4.out _ hb3).mono ?_; rintro e w5 ⟨rfl, hb5⟩))
  go_ret
  exact ⟨rfl, hb5⟩
set_option maxRecDepth 20000 in
set_option maxHeartbeats 4000000 in
theorem bk4xyyn (a b k : Int) (s : ByteArray) (S T : ByteArray) (E F : Int) (w : World) (a2 : a < 0) (b0' : 0 ≤ b) (b2 : 4611686018427387904 < b) (c0 : 0 ≤ k) (c2 : 2 < k) (hE : (E == 0) = false) (hF : (F == 0) = false)
    (HA : Hid (Calls Tryd.prog 9 #[] w fun e w' => e = .returned (.bool true) ∧ Below w.heap.size w w'))
    (H1 : Hid (∀ wx, Below w.heap.size w wx → Calls Tryd.prog 10 #[.int .i64 a, .int .i64 k] wx fun e w' => e = .returned (.tuple #[.string S, .int .i64 E]) ∧ Below w.heap.size w w'))
    (H2 : Hid (∀ wx, Below w.heap.size w wx → Calls Tryd.prog 10 #[.int .i64 b, .int .i64 k] wx fun e w' => e = .returned (.tuple #[.string T, .int .i64 F]) ∧ Below w.heap.size w w'))
    (H4 : Hid (∀ wx, Below w.heap.size w wx → Calls Tryd.prog 12 #[.string s] wx fun e w' => e = .returned (.tuple #[.int .i64 0, .int .i64 0, .bool false]) ∧ Below w.heap.size w w')) :
    Calls Tryd.prog 7 #[.int .i64 a, .int .i64 b, .int .i64 k, .string s] w fun e w' => e = .returned (.bool true) ∧ Below w.heap.size w w' := by
  have c9 := c2
  clear c9
  go_enter Tryd.func7, Tryd.ntmps7
  go_wp2_with (first | (go_at_call 9; refine HA.out.mono ?_; rintro e w1 ⟨rfl, hb1⟩) | (go_at_call 10; with_reducible refine (H1.out _ hb1).mono ?_; rintro e w2 ⟨rfl, hb2⟩) | (go_at_call 10; with_reducible refine (H2.out _ hb2).mono ?_; rintro e w3 ⟨rfl, hb3⟩) | (go_at_call 12; with_reducible refine (H4.out _ hb3).mono ?_; rintro e w5 ⟨rfl, hb5⟩))
  go_ret
  exact ⟨rfl, hb5⟩
set_option maxRecDepth 20000 in
set_option maxHeartbeats 4000000 in
theorem bk4xyzn (a b k : Int) (s : ByteArray) (S T : ByteArray) (E F : Int) (w : World) (a2 : a < 0) (b0' : 0 ≤ b) (b2 : 4611686018427387904 < b) (c0 : 0 ≤ k) (c1 : k ≤ 2) (hE : (E == 0) = false) (hF : (F == 0) = false)
    (HA : Hid (Calls Tryd.prog 9 #[] w fun e w' => e = .returned (.bool true) ∧ Below w.heap.size w w'))
    (H1 : Hid (∀ wx, Below w.heap.size w wx → Calls Tryd.prog 10 #[.int .i64 a, .int .i64 k] wx fun e w' => e = .returned (.tuple #[.string S, .int .i64 E]) ∧ Below w.heap.size w w'))
    (H2 : Hid (∀ wx, Below w.heap.size w wx → Calls Tryd.prog 10 #[.int .i64 b, .int .i64 k] wx fun e w' => e = .returned (.tuple #[.string T, .int .i64 F]) ∧ Below w.heap.size w w'))
    (H4 : Hid (∀ wx, Below w.heap.size w wx → Calls Tryd.prog 12 #[.string s] wx fun e w' => e = .returned (.tuple #[.int .i64 0, .int .i64 0, .bool false]) ∧ Below w.heap.size w w')) :
    Calls Tryd.prog 7 #[.int .i64 a, .int .i64 b, .int .i64 k, .string s] w fun e w' => e = .returned (.bool true) ∧ Below w.heap.size w w' := by
  go_enter Tryd.func7, Tryd.ntmps7
  go_wp2_with (first | (go_at_call 9; refine HA.out.mono ?_; rintro e w1 ⟨rfl, hb1⟩) | (go_at_call 10; with_reducible refine (H1.out _ hb1).mono ?_; rintro e w2 ⟨rfl, hb2⟩) | (go_at_call 10; with_reducible refine (H2.out _ hb2).mono ?_; rintro e w3 ⟨rfl, hb3⟩) | (go_at_call 12; with_reducible refine (H4.out _ hb3).mono ?_; rintro e w5 ⟨rfl, hb5⟩))
  go_ret
  exact ⟨rfl, hb5⟩
set_option maxRecDepth 20000 in
set_option maxHeartbeats 4000000 in
theorem bk4xzxn (a b k : Int) (s : ByteArray) (S T : ByteArray) (E F : Int) (w : World) (a2 : a < 0) (b0' : 0 ≤ b) (b1 : b ≤ 4611686018427387904) (c2 : k < 0) (hE : (E == 0) = false) (hF : (F == 0) = false)
    (HA : Hid (Calls Tryd.prog 9 #[] w fun e w' => e = .returned (.bool true) ∧ Below w.heap.size w w'))
    (H1 : Hid (∀ wx, Below w.heap.size w wx → Calls Tryd.prog 10 #[.int .i64 a, .int .i64 k] wx fun e w' => e = .returned (.tuple #[.string S, .int .i64 E]) ∧ Below w.heap.size w w'))
    (H2 : Hid (∀ wx, Below w.heap.size w wx → Calls Tryd.prog 10 #[.int .i64 b, .int .i64 k] wx fun e w' => e = .returned (.tuple #[.string T, .int .i64 F]) ∧ Below w.heap.size w w'))
    (H4 : Hid (∀ wx, Below w.heap.size w wx → Calls Tryd.prog 12 #[.string s] wx fun e w' => e = .returned (.tuple #[.int .i64 0, .int .i64 0, .bool false]) ∧ Below w.heap.size w w')) :
    Calls Tryd.prog 7 #[.int .i64 a, .int .i64 b, .int .i64 k, .string s] w fun e w' => e = .returned (.bool true) ∧ Below w.heap.size w w' := by
  have c9 := c2
  clear c9
  go_enter Tryd.func7, Tryd.ntmps7
  go_wp2_with (first | (go_at_call 9; refine HA.out.mono ?_; rintro e w1 ⟨rfl, hb1⟩) | (go_at_call 10; with_reducible refine (H1.out _ hb1).mono ?_; rintro e w2 ⟨rfl, hb2⟩) | (go_at_call 10; with_reducible refine (H2.out _ hb2).mono ?_; rintro e w3 ⟨rfl, hb3⟩) | (go_at_call 12; with_reducible refine (H4.out _ hb3).mono ?_; rintro e w5 ⟨rfl, hb5⟩))
  go_ret
  exact ⟨rfl, hb5⟩
set_option maxRecDepth 20000 in
set_option maxHeartbeats 4000000 in
theorem bk4xzyn (a b k : Int) (s : ByteArray) (S T : ByteArray) (E F : Int) (w : World) (a2 : a < 0) (b0' : 0 ≤ b) (b1 : b ≤ 4611686018427387904) (c0 : 0 ≤ k) (c2 : 2 < k) (hE : (E == 0) = false) (hF : (F == 0) = false)
    (HA : Hid (Calls Tryd.prog 9 #[] w fun e w' => e = .returned (.bool true) ∧ Below w.heap.size w w'))
    (H1 : Hid (∀ wx, Below w.heap.size w wx → Calls Tryd.prog 10 #[.int .i64 a, .int .i64 k] wx fun e w' => e = .returned (.tuple #[.string S, .int .i64 E]) ∧ Below w.heap.size w w'))
    (H2 : Hid (∀ wx, Below w.heap.size w wx → Calls Tryd.prog 10 #[.int .i64 b, .int .i64 k] wx fun e w' => e = .returned (.tuple #[.string T, .int .i64 F]) ∧ Below w.heap.size w w'))
    (H4 : Hid (∀ wx, Below w.heap.size w wx → Calls Tryd.prog 12 #[.string s] wx fun e w' => e = .returned (.tuple #[.int .i64 0, .int .i64 0, .bool false]) ∧ Below w.heap.size w w')) :
    Calls Tryd.prog 7 #[.int .i64 a, .int .i64 b, .int .i64 k, .string s] w fun e w' => e = .returned (.bool true) ∧ Below w.heap.size w w' := by
  have c9 := c2
  clear c9
  go_enter Tryd.func7, Tryd.ntmps7
  go_wp2_with (first | (go_at_call 9; refine HA.out.mono ?_; rintro e w1 ⟨rfl, hb1⟩) | (go_at_call 10; with_reducible refine (H1.out _ hb1).mono ?_; rintro e w2 ⟨rfl, hb2⟩) | (go_at_call 10; with_reducible refine (H2.out _ hb2).mono ?_; rintro e w3 ⟨rfl, hb3⟩) | (go_at_call 12; with_reducible refine (H4.out _ hb3).mono ?_; rintro e w5 ⟨rfl, hb5⟩))
  go_ret
  exact ⟨rfl, hb5⟩
set_option maxRecDepth 20000 in
set_option maxHeartbeats 4000000 in
theorem bk4xzzn (a b k : Int) (s : ByteArray) (S T : ByteArray) (E F : Int) (w : World) (a2 : a < 0) (b0' : 0 ≤ b) (b1 : b ≤ 4611686018427387904) (c0 : 0 ≤ k) (c1 : k ≤ 2) (hE : (E == 0) = false) (hF : F = 0)
    (HA : Hid (Calls Tryd.prog 9 #[] w fun e w' => e = .returned (.bool true) ∧ Below w.heap.size w w'))
    (H1 : Hid (∀ wx, Below w.heap.size w wx → Calls Tryd.prog 10 #[.int .i64 a, .int .i64 k] wx fun e w' => e = .returned (.tuple #[.string S, .int .i64 E]) ∧ Below w.heap.size w w'))
    (H2 : Hid (∀ wx, Below w.heap.size w wx → Calls Tryd.prog 10 #[.int .i64 b, .int .i64 k] wx fun e w' => e = .returned (.tuple #[.string T, .int .i64 F]) ∧ Below w.heap.size w w'))
    (H4 : Hid (∀ wx, Below w.heap.size w wx → Calls Tryd.prog 12 #[.string s] wx fun e w' => e = .returned (.tuple #[.int .i64 0, .int .i64 0, .bool false]) ∧ Below w.heap.size w w')) :
    Calls Tryd.prog 7 #[.int .i64 a, .int .i64 b, .int .i64 k, .string s] w fun e w' => e = .returned (.bool true) ∧ Below w.heap.size w w' := by
  subst hF
  go_enter Tryd.func7, Tryd.ntmps7
  go_wp2_with (first | (go_at_call 9; refine HA.out.mono ?_; rintro e w1 ⟨rfl, hb1⟩) | (go_at_call 10; with_reducible refine (H1.out _ hb1).mono ?_; rintro e w2 ⟨rfl, hb2⟩) | (go_at_call 10; with_reducible refine (H2.out _ hb2).mono ?_; rintro e w3 ⟨rfl, hb3⟩) | (go_at_call 12; with_reducible refine (H4.out _ hb3).mono ?_; rintro e w5 ⟨rfl, hb5⟩))
  go_ret
  exact ⟨rfl, hb5⟩
set_option maxRecDepth 20000 in
set_option maxHeartbeats 4000000 in
theorem bk4yxxn (a b k : Int) (s : ByteArray) (S T : ByteArray) (E F : Int) (w : World) (a0 : 0 ≤ a) (a2 : 4611686018427387904 < a) (b2 : b < 0) (c2 : k < 0) (hE : (E == 0) = false) (hF : (F == 0) = false)
    (HA : Hid (Calls Tryd.prog 9 #[] w fun e w' => e = .returned (.bool true) ∧ Below w.heap.size w w'))
    (H1 : Hid (∀ wx, Below w.heap.size w wx → Calls Tryd.prog 10 #[.int .i64 a, .int .i64 k] wx fun e w' => e = .returned (.tuple #[.string S, .int .i64 E]) ∧ Below w.heap.size w w'))
    (H2 : Hid (∀ wx, Below w.heap.size w wx → Calls Tryd.prog 10 #[.int .i64 b, .int .i64 k] wx fun e w' => e = .returned (.tuple #[.string T, .int .i64 F]) ∧ Below w.heap.size w w'))
    (H4 : Hid (∀ wx, Below w.heap.size w wx → Calls Tryd.prog 12 #[.string s] wx fun e w' => e = .returned (.tuple #[.int .i64 0, .int .i64 0, .bool false]) ∧ Below w.heap.size w w')) :
    Calls Tryd.prog 7 #[.int .i64 a, .int .i64 b, .int .i64 k, .string s] w fun e w' => e = .returned (.bool true) ∧ Below w.heap.size w w' := by
  have c9 := c2
  clear c9
  go_enter Tryd.func7, Tryd.ntmps7
  go_wp2_with (first | (go_at_call 9; refine HA.out.mono ?_; rintro e w1 ⟨rfl, hb1⟩) | (go_at_call 10; with_reducible refine (H1.out _ hb1).mono ?_; rintro e w2 ⟨rfl, hb2⟩) | (go_at_call 10; with_reducible refine (H2.out _ hb2).mono ?_; rintro e w3 ⟨rfl, hb3⟩) | (go_at_call 12; with_reducible refine (H4.out _ hb3).mono ?_; rintro e w5 ⟨rfl, hb5⟩))
  go_ret
  exact ⟨rfl, hb5⟩
set_option maxRecDepth 20000 in
set_option maxHeartbeats 4000000 in
theorem bk4yxyn (a b k : Int) (s : ByteArray) (S T : ByteArray) (E F : Int) (w : World) (a0 : 0 ≤ a) (a2 : 4611686018427387904 < a) (b2 : b < 0) (c0 : 0 ≤ k) (c2 : 2 < k) (hE : (E == 0) = false) (hF : (F == 0) = false)
    (HA : Hid (Calls Tryd.prog 9 #[] w fun e w' => e = .returned (.bool true) ∧ Below w.heap.size w w'))
    (H1 : Hid (∀ wx, Below w.heap.size w wx → Calls Tryd.prog 10 #[.int .i64 a, .int .i64 k] wx fun e w' => e = .returned (.tuple #[.string S, .int .i64 E]) ∧ Below w.heap.size w w'))
    (H2 : Hid (∀ wx, Below w.heap.size w wx → Calls Tryd.prog 10 #[.int .i64 b, .int .i64 k] wx fun e w' => e = .returned (.tuple #[.string T, .int .i64 F]) ∧ Below w.heap.size w w'))
    (H4 : Hid (∀ wx, Below w.heap.size w wx → Calls Tryd.prog 12 #[.string s] wx fun e w' => e = .returned (.tuple #[.int .i64 0, .int .i64 0, .bool false]) ∧ Below w.heap.size w w')) :
    Calls Tryd.prog 7 #[.int .i64 a, .int .i64 b, .int .i64 k, .string s] w fun e w' => e = .returned (.bool true) ∧ Below w.heap.size w w' := by
  have c9 := c2
  clear c9
  go_enter Tryd.func7, Tryd.ntmps7
  go_wp2_with (first | (go_at_call 9; refine HA.out.mono ?_; rintro e w1 ⟨rfl, hb1⟩) | (go_at_call 10; with_reducible refine (H1.out _ hb1).mono ?_; rintro e w2 ⟨rfl, hb2⟩) | (go_at_call 10; with_reducible refine (H2.out _ hb2).mono ?_; rintro e w3 ⟨rfl, hb3⟩) | (go_at_call 12; with_reducible refine (H4.out _ hb3).mono ?_; rintro e w5 ⟨rfl, hb5⟩))
  go_ret
  exact ⟨rfl, hb5⟩
set_option maxRecDepth 20000 in
set_option maxHeartbeats 4000000 in
theorem bk4yxzn (a b k : Int) (s : ByteArray) (S T : ByteArray) (E F : Int) (w : World) (a0 : 0 ≤ a) (a2 : 4611686018427387904 < a) (b2 : b < 0) (c0 : 0 ≤ k) (c1 : k ≤ 2) (hE : (E == 0) = false) (hF : (F == 0) = false)
    (HA : Hid (Calls Tryd.prog 9 #[] w fun e w' => e = .returned (.bool true) ∧ Below w.heap.size w w'))
    (H1 : Hid (∀ wx, Below w.heap.size w wx → Calls Tryd.prog 10 #[.int .i64 a, .int .i64 k] wx fun e w' => e = .returned (.tuple #[.string S, .int .i64 E]) ∧ Below w.heap.size w w'))
    (H2 : Hid (∀ wx, Below w.heap.size w wx → Calls Tryd.prog 10 #[.int .i64 b, .int .i64 k] wx fun e w' => e = .returned (.tuple #[.string T, .int .i64 F]) ∧ Below w.heap.size w w'))
    (H4 : Hid (∀ wx, Below w.heap.size w wx → Calls Tryd.prog 12 #[.string s] wx fun e w' => e = .returned (.tuple #[.int .i64 0, .int .i64 0, .bool false]) ∧ Below w.heap.size w w')) :
    Calls Tryd.prog 7 #[.int .i64 a, .int .i64 b, .int .i64 k, .string s] w fun e w' => e = .returned (.bool true) ∧ Below w.heap.size w w' := by
  go_enter Tryd.func7, Tryd.ntmps7
  go_wp2_with (first | (go_at_call 9; refine HA.out.mono ?_; rintro e w1 ⟨rfl, hb1⟩) | (go_at_call 10; with_reducible refine (H1.out _ hb1).mono ?_; rintro e w2 ⟨rfl, hb2⟩) | (go_at_call 10; with_reducible refine (H2.out _ hb2).mono ?_; rintro e w3 ⟨rfl, hb3⟩) | (go_at_call 12; with_reducible refine (H4.out _ hb3).mono ?_; rintro e w5 ⟨rfl, hb5⟩))
  go_ret
  exact ⟨rfl, hb5⟩
set_option maxRecDepth 20000 in
set_option maxHeartbeats 4000000 in
theorem bk4yyxn (a b k : Int) (s : ByteArray) (S T : ByteArray) (E F : Int) (w : World) (a0 : 0 ≤ a) (a2 : 4611686018427387904 < a) (b0' : 0 ≤ b) (b2 : 4611686018427387904 < b) (c2 : k < 0) (hE : (E == 0) = false) (hF : (F == 0) = false)
    (HA : Hid (Calls Tryd.prog 9 #[] w fun e w' => e = .returned (.bool true) ∧ Below w.heap.size w w'))
    (H1 : Hid (∀ wx, Below w.heap.size w wx → Calls Tryd.prog 10 #[.int .i64 a, .int .i64 k] wx fun e w' => e = .returned (.tuple #[.string S, .int .i64 E]) ∧ Below w.heap.size w w'))
    (H2 : Hid (∀ wx, Below w.heap.size w wx → Calls Tryd.prog 10 #[.int .i64 b, .int .i64 k] wx fun e w' => e = .returned (.tuple #[.string T, .int .i64 F]) ∧ Below w.heap.size w w'))
    (H4 : Hid (∀ wx, Below w.heap.size w wx → Calls Tryd.prog 12 #[.string s] wx fun e w' => e = .returned (.tuple #[.int .i64 0, .int .i64 0, .bool false]) ∧ Below w.heap.size w w')) :
    Calls Tryd.prog 7 #[.int .i64 a, .int .i64 b, .int .i64 k, .string s] w fun e w' => e = .returned (.bool true) ∧ Below w.heap.size w w' := by
  have c9 := c2
  clear c9
  go_enter Tryd.func7, Tryd.ntmps7
  go_wp2_with (first | (go_at_call 9; refine HA.out.mono ?_; rintro e w1 ⟨rfl, hb1⟩) | (go_at_call 10; with_reducible refine (H1.out _ hb1).mono ?_; rintro e w2 ⟨rfl, hb2⟩) | (go_at_call 10; with_reducible refine (H2.out _ hb2).mono ?_; rintro e w3 ⟨rfl, hb3⟩) | (go_at_call 12; with_reducible refine (H4.out _ hb3).mono ?_; rintro e w5 ⟨rfl, hb5⟩))
  go_ret
  exact ⟨rfl, hb5⟩
set_option maxRecDepth 20000 in
set_option maxHeartbeats 4000000 in
theorem bk4yyyn (a b k : Int) (s : ByteArray) (S T : ByteArray) (E F : Int) (w : World) (a0 : 0 ≤ a) (a2 : 4611686018427387904 < a) (b0' : 0 ≤ b) (b2 : 4611686018427387904 < b) (c0 : 0 ≤ k) (c2 : 2 < k) (hE : (E == 0) = false) (hF : (F == 0) = false)
    (HA : Hid (Calls Tryd.prog 9 #[] w fun e w' => e = .returned (.bool true) ∧ Below w.heap.size w w'))
    (H1 : Hid (∀ wx, Below w.heap.size w wx → Calls Tryd.prog 10 #[.int .i64 a, .int .i64 k] wx fun e w' => e = .returned (.tuple #[.string S, .int .i64 E]) ∧ Below w.heap.size w w'))
    (H2 : Hid (∀ wx, Below w.heap.size w wx → Calls Tryd.prog 10 #[.int .i64 b, .int .i64 k] wx fun e w' => e = .returned (.tuple #[.string T, .int .i64 F]) ∧ Below w.heap.size w w'))
    (H4 : Hid (∀ wx, Below w.heap.size w wx → Calls Tryd.prog 12 #[.string s] wx fun e w' => e = .returned (.tuple #[.int .i64 0, .int .i64 0, .bool false]) ∧ Below w.heap.size w w')) :
    Calls Tryd.prog 7 #[.int .i64 a, .int .i64 b, .int .i64 k, .string s] w fun e w' => e = .returned (.bool true) ∧ Below w.heap.size w w' := by
  have c9 := c2
  clear c9
  go_enter Tryd.func7, Tryd.ntmps7
  go_wp2_with (first | (go_at_call 9; refine HA.out.mono ?_; rintro e w1 ⟨rfl, hb1⟩) | (go_at_call 10; with_reducible refine (H1.out _ hb1).mono ?_; rintro e w2 ⟨rfl, hb2⟩) | (go_at_call 10; with_reducible refine (H2.out _ hb2).mono ?_; rintro e w3 ⟨rfl, hb3⟩) | (go_at_call 12; with_reducible refine (H4.out _ hb3).mono ?_; rintro e w5 ⟨rfl, hb5⟩))
  go_ret
  exact ⟨rfl, hb5⟩
set_option maxRecDepth 20000 in
set_option maxHeartbeats 4000000 in
theorem bk4yyzn (a b k : Int) (s : ByteArray) (S T : ByteArray) (E F : Int) (w : World) (a0 : 0 ≤ a) (a2 : 4611686018427387904 < a) (b0' : 0 ≤ b) (b2 : 4611686018427387904 < b) (c0 : 0 ≤ k) (c1 : k ≤ 2) (hE : (E == 0) = false) (hF : (F == 0) = false)
    (HA : Hid (Calls Tryd.prog 9 #[] w fun e w' => e = .returned (.bool true) ∧ Below w.heap.size w w'))
    (H1 : Hid (∀ wx, Below w.heap.size w wx → Calls Tryd.prog 10 #[.int .i64 a, .int .i64 k] wx fun e w' => e = .returned (.tuple #[.string S, .int .i64 E]) ∧ Below w.heap.size w w'))
    (H2 : Hid (∀ wx, Below w.heap.size w wx → Calls Tryd.prog 10 #[.int .i64 b, .int .i64 k] wx fun e w' => e = .returned (.tuple #[.string T, .int .i64 F]) ∧ Below w.heap.size w w'))
    (H4 : Hid (∀ wx, Below w.heap.size w wx → Calls Tryd.prog 12 #[.string s] wx fun e w' => e = .returned (.tuple #[.int .i64 0, .int .i64 0, .bool false]) ∧ Below w.heap.size w w')) :
    Calls Tryd.prog 7 #[.int .i64 a, .int .i64 b, .int .i64 k, .string s] w fun e w' => e = .returned (.bool true) ∧ Below w.heap.size w w' := by
  go_enter Tryd.func7, Tryd.ntmps7
  go_wp2_with (first | (go_at_call 9; refine HA.out.mono ?_; rintro e w1 ⟨rfl, hb1⟩) | (go_at_call 10; with_reducible refine (H1.out _ hb1).mono ?_; rintro e w2 ⟨rfl, hb2⟩) | (go_at_call 10; with_reducible refine (H2.out _ hb2).mono ?_; rintro e w3 ⟨rfl, hb3⟩) | (go_at_call 12; with_reducible refine (H4.out _ hb3).mono ?_; rintro e w5 ⟨rfl, hb5⟩))
  go_ret
  exact ⟨rfl, hb5⟩
set_option maxRecDepth 20000 in
set_option maxHeartbeats 4000000 in
theorem bk4yzxn (a b k : Int) (s : ByteArray) (S T : ByteArray) (E F : Int) (w : World) (a0 : 0 ≤ a) (a2 : 4611686018427387904 < a) (b0' : 0 ≤ b) (b1 : b ≤ 4611686018427387904) (c2 : k < 0) (hE : (E == 0) = false) (hF : (F == 0) = false)
    (HA : Hid (Calls Tryd.prog 9 #[] w fun e w' => e = .returned (.bool true) ∧ Below w.heap.size w w'))
    (H1 : Hid (∀ wx, Below w.heap.size w wx → Calls Tryd.prog 10 #[.int .i64 a, .int .i64 k] wx fun e w' => e = .returned (.tuple #[.string S, .int .i64 E]) ∧ Below w.heap.size w w'))
    (H2 : Hid (∀ wx, Below w.heap.size w wx → Calls Tryd.prog 10 #[.int .i64 b, .int .i64 k] wx fun e w' => e = .returned (.tuple #[.string T, .int .i64 F]) ∧ Below w.heap.size w w'))
    (H4 : Hid (∀ wx, Below w.heap.size w wx → Calls Tryd.prog 12 #[.string s] wx fun e w' => e = .returned (.tuple #[.int .i64 0, .int .i64 0, .bool false]) ∧ Below w.heap.size w w')) :
    Calls Tryd.prog 7 #[.int .i64 a, .int .i64 b, .int .i64 k, .string s] w fun e w' => e = .returned (.bool true) ∧ Below w.heap.size w w' := by
  have c9 := c2
  clear c9
  go_enter Tryd.func7, Tryd.ntmps7
  go_wp2_with (first | (go_at_call 9; refine HA.out.mono ?_; rintro e w1 ⟨rfl, hb1⟩) | (go_at_call 10; with_reducible refine (H1.out _ hb1).mono ?_; rintro e w2 ⟨rfl, hb2⟩) | (go_at_call 10; with_reducible refine (H2.out _ hb2).mono ?_; rintro e w3 ⟨rfl, hb3⟩) | (go_at_call 12; with_reducible refine (H4.out _ hb3).mono ?_; rintro e w5 ⟨rfl, hb5⟩))
  go_ret
  exact ⟨rfl, hb5⟩
set_option maxRecDepth 20000 in
set_option maxHeartbeats 4000000 in
theorem bk4yzyn (a b k : Int) (s : ByteArray) (S T : ByteArray) (E F : Int) (w : World) (a0 : 0 ≤ a) (a2 : 4611686018427387904 < a) (b0' : 0 ≤ b) (b1 : b ≤ 4611686018427387904) (c0 : 0 ≤ k) (c2 : 2 < k) (hE : (E == 0) = false) (hF : (F == 0) = false)
    (HA : Hid (Calls Tryd.prog 9 #[] w fun e w' => e = .returned (.bool true) ∧ Below w.heap.size w w'))
    (H1 : Hid (∀ wx, Below w.heap.size w wx → Calls Tryd.prog 10 #[.int .i64 a, .int .i64 k] wx fun e w' => e = .returned (.tuple #[.string S, .int .i64 E]) ∧ Below w.heap.size w w'))
    (H2 : Hid (∀ wx, Below w.heap.size w wx → Calls Tryd.prog 10 #[.int .i64 b, .int .i64 k] wx fun e w' => e = .returned (.tuple #[.string T, .int .i64 F]) ∧ Below w.heap.size w w'))
    (H4 : Hid (∀ wx, Below w.heap.size w wx → Calls Tryd.prog 12 #[.string s] wx fun e w' => e = .returned (.tuple #[.int .i64 0, .int .i64 0, .bool false]) ∧ Below w.heap.size w w')) :
    Calls Tryd.prog 7 #[.int .i64 a, .int .i64 b, .int .i64 k, .string s] w fun e w' => e = .returned (.bool true) ∧ Below w.heap.size w w' := by
  have c9 := c2
  clear c9
  go_enter Tryd.func7, Tryd.ntmps7
  go_wp2_with (first | (go_at_call 9; refine HA.out.mono ?_; rintro e w1 ⟨rfl, hb1⟩) | (go_at_call 10; with_reducible refine (H1.out _ hb1).mono ?_; rintro e w2 ⟨rfl, hb2⟩) | (go_at_call 10; with_reducible refine (H2.out _ hb2).mono ?_; rintro e w3 ⟨rfl, hb3⟩) | (go_at_call 12; with_reducible refine (H4.out _ hb3).mono ?_; rintro e w5 ⟨rfl, hb5⟩))
  go_ret
  exact ⟨rfl, hb5⟩
set_option maxRecDepth 20000 in
set_option maxHeartbeats 4000000 in
theorem bk4yzzn (a b k : Int) (s : ByteArray) (S T : ByteArray) (E F : Int) (w : World) (a0 : 0 ≤ a) (a2 : 4611686018427387904 < a) (b0' : 0 ≤ b) (b1 : b ≤ 4611686018427387904) (c0 : 0 ≤ k) (c1 : k ≤ 2) (hE : (E == 0) = false) (hF : F = 0)
    (HA : Hid (Calls Tryd.prog 9 #[] w fun e w' => e = .returned (.bool true) ∧ Below w.heap.size w w'))
    (H1 : Hid (∀ wx, Below w.heap.size w wx → Calls Tryd.prog 10 #[.int .i64 a, .int .i64 k] wx fun e w' => e = .returned (.tuple #[.string S, .int .i64 E]) ∧ Below w.heap.size w w'))
    (H2 : Hid (∀ wx, Below w.heap.size w wx → Calls Tryd.prog 10 #[.int .i64 b, .int .i64 k] wx fun e w' => e = .returned (.tuple #[.string T, .int .i64 F]) ∧ Below w.heap.size w w'))
    (H4 : Hid (∀ wx, Below w.heap.size w wx → Calls Tryd.prog 12 #[.string s] wx fun e w' => e = .returned (.tuple #[.int .i64 0, .int .i64 0, .bool false]) ∧ Below w.heap.size w w')) :
    Calls Tryd.prog 7 #[.int .i64 a, .int .i64 b, .int .i64 k, .string s] w fun e w' => e = .returned (.bool true) ∧ Below w.heap.size w w' := by
  subst hF
  go_enter Tryd.func7, Tryd.ntmps7
  go_wp2_with (first | (go_at_call 9; refine HA.out.mono ?_; rintro e w1 ⟨rfl, hb1⟩) | (go_at_call 10; with_reducible refine (H1.out _ hb1).mono ?_; rintro e w2 ⟨rfl, hb2⟩) | (go_at_call 10; with_reducible refine (H2.out _ hb2).mono ?_; rintro e w3 ⟨rfl, hb3⟩) | (go_at_call 12; with_reducible refine (H4.out _ hb3).mono ?_; rintro e w5 ⟨rfl, hb5⟩))
  go_ret
  exact ⟨rfl, hb5⟩
set_option maxRecDepth 20000 in
set_option maxHeartbeats 4000000 in
theorem bk4zxxn (a b k : Int) (s : ByteArray) (S T : ByteArray) (E F : Int) (w : World) (a0 : 0 ≤ a) (a1 : a ≤ 4611686018427387904) (b2 : b < 0) (c2 : k < 0) (hE : (E == 0) = false) (hF : (F == 0) = false)
    (HA : Hid (Calls Tryd.prog 9 #[] w fun e w' => e = .returned (.bool true) ∧ Below w.heap.size w w'))
    (H1 : Hid (∀ wx, Below w.heap.size w wx → Calls Tryd.prog 10 #[.int .i64 a, .int .i64 k] wx fun e w' => e = .returned (.tuple #[.string S, .int .i64 E]) ∧ Below w.heap.size w w'))
    (H2 : Hid (∀ wx, Below w.heap.size w wx → Calls Tryd.prog 10 #[.int .i64 b, .int .i64 k] wx fun e w' => e = .returned (.tuple #[.string T, .int .i64 F]) ∧ Below w.heap.size w w'))
    (H4 : Hid (∀ wx, Below w.heap.size w wx → Calls Tryd.prog 12 #[.string s] wx fun e w' => e = .returned (.tuple #[.int .i64 0, .int .i64 0, .bool false]) ∧ Below w.heap.size w w')) :
    Calls Tryd.prog 7 #[.int .i64 a, .int .i64 b, .int .i64 k, .string s] w fun e w' => e = .returned (.bool true) ∧ Below w.heap.size w w' := by
  have c9 := c2
  clear c9
  go_enter Tryd.func7, Tryd.ntmps7
  go_wp2_with (first | (go_at_call 9; refine HA.out.mono ?_; rintro e w1 ⟨rfl, hb1⟩) | (go_at_call 10; with_reducible refine (H1.out _ hb1).mono ?_; rintro e w2 ⟨rfl, hb2⟩) | (go_at_call 10; with_reducible refine (H2.out _ hb2).mono ?_; rintro e w3 ⟨rfl, hb3⟩) | (go_at_call 12; with_reducible refine (H4.out _ hb3).mono ?_; rintro e w5 ⟨rfl, hb5⟩))
  go_ret
  exact ⟨rfl, hb5⟩
set_option maxRecDepth 20000 in
set_option maxHeartbeats 4000000 in
theorem bk4zxyn (a b k : Int) (s : ByteArray) (S T : ByteArray) (E F : Int) (w : World) (a0 : 0 ≤ a) (a1 : a ≤ 4611686018427387904) (b2 : b < 0) (c0 : 0 ≤ k) (c2 : 2 < k) (hE : (E == 0) = false) (hF : (F == 0) = false)
    (HA : Hid (Calls Tryd.prog 9 #[] w fun e w' => e = .returned (.bool true) ∧ Below w.heap.size w w'))
    (H1 : Hid (∀ wx, Below w.heap.size w wx → Calls Tryd.prog 10 #[.int .i64 a, .int .i64 k] wx fun e w' => e = .returned (.tuple #[.string S, .int .i64 E]) ∧ Below w.heap.size w w'))
    (H2 : Hid (∀ wx, Below w.heap.size w wx → Calls Tryd.prog 10 #[.int .i64 b, .int .i64 k] wx fun e w' => e = .returned (.tuple #[.string T, .int .i64 F]) ∧ Below w.heap.size w w'))
    (H4 : Hid (∀ wx, Below w.heap.size w wx → Calls Tryd.prog 12 #[.string s] wx fun e w' => e = .returned (.tuple #[.int .i64 0, .int .i64 0, .bool false]) ∧ Below w.heap.size w w')) :
    Calls Tryd.prog 7 #[.int .i64 a, .int .i64 b, .int .i64 k, .string s] w fun e w' => e = .returned (.bool true) ∧ Below w.heap.size w w' := by
  have c9 := c2
  clear c9
  go_enter Tryd.func7, Tryd.ntmps7
  go_wp2_with (first | (go_at_call 9; refine HA.out.mono ?_; rintro e w1 ⟨rfl, hb1⟩) | (go_at_call 10; with_reducible refine (H1.out _ hb1).mono ?_; rintro e w2 ⟨rfl, hb2⟩) | (go_at_call 10; with_reducible refine (H2.out _ hb2).mono ?_; rintro e w3 ⟨rfl, hb3⟩) | (go_at_call 12; with_reducible refine (H4.out _ hb3).mono ?_; rintro e w5 ⟨rfl, hb5⟩))
  go_ret
  exact ⟨rfl, hb5⟩
set_option maxRecDepth 20000 in
set_option maxHeartbeats 4000000 in
theorem bk4zyxn (a b k : Int) (s : ByteArray) (S T : ByteArray) (E F : Int) (w : World) (a0 : 0 ≤ a) (a1 : a ≤ 4611686018427387904) (b0' : 0 ≤ b) (b2 : 4611686018427387904 < b) (c2 : k < 0) (hE : (E == 0) = false) (hF : (F == 0) = false)
    (HA : Hid (Calls Tryd.prog 9 #[] w fun e w' => e = .returned (.bool true) ∧ Below w.heap.size w w'))
    (H1 : Hid (∀ wx, Below w.heap.size w wx → Calls Tryd.prog 10 #[.int .i64 a, .int .i64 k] wx fun e w' => e = .returned (.tuple #[.string S, .int .i64 E]) ∧ Below w.heap.size w w'))
    (H2 : Hid (∀ wx, Below w.heap.size w wx → Calls Tryd.prog 10 #[.int .i64 b, .int .i64 k] wx fun e w' => e = .returned (.tuple #[.string T, .int .i64 F]) ∧ Below w.heap.size w w'))
    (H4 : Hid (∀ wx, Below w.heap.size w wx → Calls Tryd.prog 12 #[.string s] wx fun e w' => e = .returned (.tuple #[.int .i64 0, .int .i64 0, .bool false]) ∧ Below w.heap.size w w')) :
    Calls Tryd.prog 7 #[.int .i64 a, .int .i64 b, .int .i64 k, .string s] w fun e w' => e = .returned (.bool true) ∧ Below w.heap.size w w' := by
  have c9 := c2
  clear c9
  go_enter Tryd.func7, Tryd.ntmps7
  go_wp2_with (first | (go_at_call 9; refine HA.out.mono ?_; rintro e w1 ⟨rfl, hb1⟩) | (go_at_call 10; with_reducible refine (H1.out _ hb1).mono ?_; rintro e w2 ⟨rfl, hb2⟩) | (go_at_call 10; with_reducible refine (H2.out _ hb2).mono ?_; rintro e w3 ⟨rfl, hb3⟩) | (go_at_call 12; with_reducible refine (H4.out _ hb3).mono ?_; rintro e w5 ⟨rfl, hb5⟩))
  go_ret
  exact ⟨rfl, hb5⟩
set_option maxRecDepth 20000 in
set_option maxHeartbeats 4000000 in
theorem bk4zyyn (a b k : Int) (s : ByteArray) (S T : ByteArray) (E F : Int) (w : World) (a0 : 0 ≤ a) (a1 : a ≤ 4611686018427387904) (b0' : 0 ≤ b) (b2 : 4611686018427387904 < b) (c0 : 0 ≤ k) (c2 : 2 < k) (hE : (E == 0) = false) (hF : (F == 0) = false)
    (HA : Hid (Calls Tryd.prog 9 #[] w fun e w' => e = .returned (.bool true) ∧ Below w.heap.size w w'))
    (H1 : Hid (∀ wx, Below w.heap.size w wx → Calls Tryd.prog 10 #[.int .i64 a, .int .i64 k] wx fun e w' => e = .returned (.tuple #[.string S, .int .i64 E]) ∧ Below w.heap.size w w'))
    (H2 : Hid (∀ wx, Below w.heap.size w wx → Calls Tryd.prog 10 #[.int .i64 b, .int .i64 k] wx fun e w' => e = .returned (.tuple #[.string T, .int .i64 F]) ∧ Below w.heap.size w w'))
    (H4 : Hid (∀ wx, Below w.heap.size w wx → Calls Tryd.prog 12 #[.string s] wx fun e w' => e = .returned (.tuple #[.int .i64 0, .int .i64 0, .bool false]) ∧ Below w.heap.size w w')) :
    Calls Tryd.prog 7 #[.int .i64 a, .int .i64 b, .int .i64 k, .string s] w fun e w' => e = .returned (.bool true) ∧ Below w.heap.size w w' := by
  have c9 := c2
  clear c9
  go_enter Tryd.func7, Tryd.ntmps7
  go_wp2_with (first | (go_at_call 9; refine HA.out.mono ?_; rintro e w1 ⟨rfl, hb1⟩) | (go_at_call 10; with_reducible refine (H1.out _ hb1).mono ?_; rintro e w2 ⟨rfl, hb2⟩) | (go_at_call 10; with_reducible refine (H2.out _ hb2).mono ?_; rintro e w3 ⟨rfl, hb3⟩) | (go_at_call 12; with_reducible refine (H4.out _ hb3).mono ?_; rintro e w5 ⟨rfl, hb5⟩))
  go_ret
  exact ⟨rfl, hb5⟩
set_option maxRecDepth 20000 in
set_option maxHeartbeats 4000000 in
theorem bk4zzxn (a b k : Int) (s : ByteArray) (S T : ByteArray) (E F : Int) (w : World) (a0 : 0 ≤ a) (a1 : a ≤ 4611686018427387904) (b0' : 0 ≤ b) (b1 : b ≤ 4611686018427387904) (c2 : k < 0) (hE : (E == 0) = false) (hF : (F == 0) = false)
    (HA : Hid (Calls Tryd.prog 9 #[] w fun e w' => e = .returned (.bool true) ∧ Below w.heap.size w w'))
    (H1 : Hid (∀ wx, Below w.heap.size w wx → Calls Tryd.prog 10 #[.int .i64 a, .int .i64 k] wx fun e w' => e = .returned (.tuple #[.string S, .int .i64 E]) ∧ Below w.heap.size w w'))
    (H2 : Hid (∀ wx, Below w.heap.size w wx → Calls Tryd.prog 10 #[.int .i64 b, .int .i64 k] wx fun e w' => e = .returned (.tuple #[.string T, .int .i64 F]) ∧ Below w.heap.size w w'))
    (H4 : Hid (∀ wx, Below w.heap.size w wx → Calls Tryd.prog 12 #[.string s] wx fun e w' => e = .returned (.tuple #[.int .i64 0, .int .i64 0, .bool false]) ∧ Below w.heap.size w w')) :
    Calls Tryd.prog 7 #[.int .i64 a, .int .i64 b, .int .i64 k, .string s] w fun e w' => e = .returned (.bool true) ∧ Below w.heap.size w w' := by
  have c9 := c2
  clear c9
  go_enter Tryd.func7, Tryd.ntmps7
  go_wp2_with (first | (go_at_call 9; refine HA.out.mono ?_; rintro e w1 ⟨rfl, hb1⟩) | (go_at_call 10; with_reducible refine (H1.out _ hb1).mono ?_; rintro e w2 ⟨rfl, hb2⟩) | (go_at_call 10; with_reducible refine (H2.out _ hb2).mono ?_; rintro e w3 ⟨rfl, hb3⟩) | (go_at_call 12; with_reducible refine (H4.out _ hb3).mono ?_; rintro e w5 ⟨rfl, hb5⟩))
  go_ret
  exact ⟨rfl, hb5⟩
set_option maxRecDepth 20000 in
set_option maxHeartbeats 4000000 in
theorem bk4zzyn (a b k : Int) (s : ByteArray) (S T : ByteArray) (E F : Int) (w : World) (a0 : 0 ≤ a) (a1 : a ≤ 4611686018427387904) (b0' : 0 ≤ b) (b1 : b ≤ 4611686018427387904) (c0 : 0 ≤ k) (c2 : 2 < k) (hE : (E == 0) = false) (hF : (F == 0) = false)
    (HA : Hid (Calls Tryd.prog 9 #[] w fun e w' => e = .returned (.bool true) ∧ Below w.heap.size w w'))
    (H1 : Hid (∀ wx, Below w.heap.size w wx → Calls Tryd.prog 10 #[.int .i64 a, .int .i64 k] wx fun e w' => e = .returned (.tuple #[.string S, .int .i64 E]) ∧ Below w.heap.size w w'))
    (H2 : Hid (∀ wx, Below w.heap.size w wx → Calls Tryd.prog 10 #[.int .i64 b, .int .i64 k] wx fun e w' => e = .returned (.tuple #[.string T, .int .i64 F]) ∧ Below w.heap.size w w'))
    (H4 : Hid (∀ wx, Below w.heap.size w wx → Calls Tryd.prog 12 #[.string s] wx fun e w' => e = .returned (.tuple #[.int .i64 0, .int .i64 0, .bool false]) ∧ Below w.heap.size w w')) :
    Calls Tryd.prog 7 #[.int .i64 a, .int .i64 b, .int .i64 k, .string s] w fun e w' => e = .returned (.bool true) ∧ Below w.heap.size w w' := by
  have c9 := c2
  clear c9
  go_enter Tryd.func7, Tryd.ntmps7
  go_wp2_with (first | (go_at_call 9; refine HA.out.mono ?_; rintro e w1 ⟨rfl, hb1⟩) | (go_at_call 10; with_reducible refine (H1.out _ hb1).mono ?_; rintro e w2 ⟨rfl, hb2⟩) | (go_at_call 10; with_reducible refine (H2.out _ hb2).mono ?_; rintro e w3 ⟨rfl, hb3⟩) | (go_at_call 12; with_reducible refine (H4.out _ hb3).mono ?_; rintro e w5 ⟨rfl, hb5⟩))
  go_ret
  exact ⟨rfl, hb5⟩
set_option maxRecDepth 20000 in
set_option maxHeartbeats 4000000 in
theorem bk1s (a b k : Int) (s : ByteArray) (S T : ByteArray) (E F : Int) (w : World) (b0 k0 : Nat) (a0 : 0 ≤ a) (a1 : a ≤ 4611686018427387904) (b0' : 0 ≤ b) (b1 : b ≤ 4611686018427387904) (c0 : 0 ≤ k) (c1 : k ≤ 2) (hE : E = 0) (hF : F = 0) (hq : Op.bytesLess S.toList T.toList = decide (a < b)) (H3 : Hid (∀ wx, Below w.heap.size w wx → Calls Tryd.prog 12 #[.string S] wx fun e w' => e = .returned (.tuple #[.int .i64 a, .int .i64 k, .bool true]) ∧ Below w.heap.size w w')) (hl : S.size = 24)
    (HA : Hid (Calls Tryd.prog 9 #[] w fun e w' => e = .returned (.bool true) ∧ Below w.heap.size w w'))
    (H1 : Hid (∀ wx, Below w.heap.size w wx → Calls Tryd.prog 10 #[.int .i64 a, .int .i64 k] wx fun e w' => e = .returned (.tuple #[.string S, .int .i64 E]) ∧ Below w.heap.size w w'))
    (H2 : Hid (∀ wx, Below w.heap.size w wx → Calls Tryd.prog 10 #[.int .i64 b, .int .i64 k] wx fun e w' => e = .returned (.tuple #[.string T, .int .i64 F]) ∧ Below w.heap.size w w'))
    (H4 : Hid (∀ wx, Below w.heap.size w wx → Calls Tryd.prog 12 #[.string s] wx fun e w' => e = .returned (.tuple #[.int .i64 (b0 : Nat), .int .i64 (k0 : Nat), .bool true]) ∧ Below w.heap.size w w'))
    (H5 : Hid (∀ wx, Below w.heap.size w wx → Calls Tryd.prog 10 #[.int .i64 (b0 : Nat), .int .i64 (k0 : Nat)] wx fun e w' => e = .returned (.tuple #[.string s, .int .i64 0]) ∧ Below w.heap.size w w')) :
    Calls Tryd.prog 7 #[.int .i64 a, .int .i64 b, .int .i64 k, .string s] w fun e w' => e = .returned (.bool true) ∧ Below w.heap.size w w' := by
  subst hE hF
  go_enter Tryd.func7, Tryd.ntmps7
  go_wp2_with (first | (go_at_call 9; refine HA.out.mono ?_; rintro e w1 ⟨rfl, hb1⟩) | (go_at_call 10; with_reducible refine (H1.out _ hb1).mono ?_; rintro e w2 ⟨rfl, hb2⟩) | (go_at_call 10; with_reducible refine (H2.out _ hb2).mono ?_; rintro e w3 ⟨rfl, hb3⟩) | (go_at_call 12; with_reducible refine (H3.out _ hb3).mono ?_; rintro e w4 ⟨rfl, hb4⟩) | (go_at_call 12; with_reducible refine (H4.out _ hb4).mono ?_; rintro e w5 ⟨rfl, hb5⟩) | (go_at_call 10; with_reducible refine (H5.out _ hb5).mono ?_; rintro e w6 ⟨rfl, hb6⟩))
  go_ret
  exact ⟨rfl, hb6⟩
set_option maxRecDepth 20000 in
set_option maxHeartbeats 4000000 in
theorem bk2as (a b k : Int) (s : ByteArray) (S T : ByteArray) (E F : Int) (w : World) (b0 k0 : Nat) (a0 : 0 ≤ a) (a1 : a ≤ 4611686018427387904) (b2 : b < 0) (c0 : 0 ≤ k) (c1 : k ≤ 2) (hE : E = 0) (hF : (F == 0) = false) (H3 : Hid (∀ wx, Below w.heap.size w wx → Calls Tryd.prog 12 #[.string S] wx fun e w' => e = .returned (.tuple #[.int .i64 a, .int .i64 k, .bool true]) ∧ Below w.heap.size w w')) (hl : S.size = 24)
    (HA : Hid (Calls Tryd.prog 9 #[] w fun e w' => e = .returned (.bool true) ∧ Below w.heap.size w w'))
    (H1 : Hid (∀ wx, Below w.heap.size w wx → Calls Tryd.prog 10 #[.int .i64 a, .int .i64 k] wx fun e w' => e = .returned (.tuple #[.string S, .int .i64 E]) ∧ Below w.heap.size w w'))
    (H2 : Hid (∀ wx, Below w.heap.size w wx → Calls Tryd.prog 10 #[.int .i64 b, .int .i64 k] wx fun e w' => e = .returned (.tuple #[.string T, .int .i64 F]) ∧ Below w.heap.size w w'))
    (H4 : Hid (∀ wx, Below w.heap.size w wx → Calls Tryd.prog 12 #[.string s] wx fun e w' => e = .returned (.tuple #[.int .i64 (b0 : Nat), .int .i64 (k0 : Nat), .bool true]) ∧ Below w.heap.size w w'))
    (H5 : Hid (∀ wx, Below w.heap.size w wx → Calls Tryd.prog 10 #[.int .i64 (b0 : Nat), .int .i64 (k0 : Nat)] wx fun e w' => e = .returned (.tuple #[.string s, .int .i64 0]) ∧ Below w.heap.size w w')) :
    Calls Tryd.prog 7 #[.int .i64 a, .int .i64 b, .int .i64 k, .string s] w fun e w' => e = .returned (.bool true) ∧ Below w.heap.size w w' := by
  subst hE
  go_enter Tryd.func7, Tryd.ntmps7
  go_wp2_with (first | (go_at_call 9; refine HA.out.mono ?_; rintro e w1 ⟨rfl, hb1⟩) | (go_at_call 10; with_reducible refine (H1.out _ hb1).mono ?_; rintro e w2 ⟨rfl, hb2⟩) | (go_at_call 10; with_reducible refine (H2.out _ hb2).mono ?_; rintro e w3 ⟨rfl, hb3⟩) | (go_at_call 12; with_reducible refine (H3.out _ hb3).mono ?_; rintro e w4 ⟨rfl, hb4⟩) | (go_at_call 12; with_reducible refine (H4.out _ hb4).mono ?_; rintro e w5 ⟨rfl, hb5⟩) | (go_at_call 10; with_reducible refine (H5.out _ hb5).mono ?_; rintro e w6 ⟨rfl, hb6⟩))
  go_ret
  exact ⟨rfl, hb6⟩
set_option maxRecDepth 20000 in
set_option maxHeartbeats 4000000 in
theorem bk2bs (a b k : Int) (s : ByteArray) (S T : ByteArray) (E F : Int) (w : World) (b0 k0 : Nat) (a0 : 0 ≤ a) (a1 : a ≤ 4611686018427387904) (b0' : 0 ≤ b) (b2 : 4611686018427387904 < b) (c0 : 0 ≤ k) (c1 : k ≤ 2) (hE : E = 0) (hF : (F == 0) = false) (H3 : Hid (∀ wx, Below w.heap.size w wx → Calls Tryd.prog 12 #[.string S] wx fun e w' => e = .returned (.tuple #[.int .i64 a, .int .i64 k, .bool true]) ∧ Below w.heap.size w w')) (hl : S.size = 24)
    (HA : Hid (Calls Tryd.prog 9 #[] w fun e w' => e = .returned (.bool true) ∧ Below w.heap.size w w'))
    (H1 : Hid (∀ wx, Below w.heap.size w wx → Calls Tryd.prog 10 #[.int .i64 a, .int .i64 k] wx fun e w' => e = .returned (.tuple #[.string S, .int .i64 E]) ∧ Below w.heap.size w w'))
    (H2 : Hid (∀ wx, Below w.heap.size w wx → Calls Tryd.prog 10 #[.int .i64 b, .int .i64 k] wx fun e w' => e = .returned (.tuple #[.string T, .int .i64 F]) ∧ Below w.heap.size w w'))
    (H4 : Hid (∀ wx, Below w.heap.size w wx → Calls Tryd.prog 12 #[.string s] wx fun e w' => e = .returned (.tuple #[.int .i64 (b0 : Nat), .int .i64 (k0 : Nat), .bool true]) ∧ Below w.heap.size w w'))
    (H5 : Hid (∀ wx, Below w.heap.size w wx → Calls Tryd.prog 10 #[.int .i64 (b0 : Nat), .int .i64 (k0 : Nat)] wx fun e w' => e = .returned (.tuple #[.string s, .int .i64 0]) ∧ Below w.heap.size w w')) :
    Calls Tryd.prog 7 #[.int .i64 a, .int .i64 b, .int .i64 k, .string s] w fun e w' => e = .returned (.bool true) ∧ Below w.heap.size w w' := by
  subst hE
  go_enter Tryd.func7, Tryd.ntmps7
  go_wp2_with (first | (go_at_call 9; refine HA.out.mono ?_; rintro e w1 ⟨rfl, hb1⟩) | (go_at_call 10; with_reducible refine (H1.out _ hb1).mono ?_; rintro e w2 ⟨rfl, hb2⟩) | (go_at_call 10; with_reducible refine (H2.out _ hb2).mono ?_; rintro e w3 ⟨rfl, hb3⟩) | (go_at_call 12; with_reducible refine (H3.out _ hb3).mono ?_; rintro e w4 ⟨rfl, hb4⟩) | (go_at_call 12; with_reducible refine (H4.out _ hb4).mono ?_; rintro e w5 ⟨rfl, hb5⟩) | (go_at_call 10; with_reducible refine (H5.out _ hb5).mono ?_; rintro e w6 ⟨rfl, hb6⟩))
  go_ret
  exact ⟨rfl, hb6⟩
set_option maxRecDepth 20000 in
set_option maxHeartbeats 4000000 in
theorem bk4xxxs (a b k : Int) (s : ByteArray) (S T : ByteArray) (E F : Int) (w : World) (b0 k0 : Nat) (a2 : a < 0) (b2 : b < 0) (c2 : k < 0) (hE : (E == 0) = false) (hF : (F == 0) = false)
    (HA : Hid (Calls Tryd.prog 9 #[] w fun e w' => e = .returned (.bool true) ∧ Below w.heap.size w w'))
    (H1 : Hid (∀ wx, Below w.heap.size w wx → Calls Tryd.prog 10 #[.int .i64 a, .int .i64 k] wx fun e w' => e = .returned (.tuple #[.string S, .int .i64 E]) ∧ Below w.heap.size w w'))
    (H2 : Hid (∀ wx, Below w.heap.size w wx → Calls Tryd.prog 10 #[.int .i64 b, .int .i64 k] wx fun e w' => e = .returned (.tuple #[.string T, .int .i64 F]) ∧ Below w.heap.size w w'))
    (H4 : Hid (∀ wx, Below w.heap.size w wx → Calls Tryd.prog 12 #[.string s] wx fun e w' => e = .returned (.tuple #[.int .i64 (b0 : Nat), .int .i64 (k0 : Nat), .bool true]) ∧ Below w.heap.size w w'))
    (H5 : Hid (∀ wx, Below w.heap.size w wx → Calls Tryd.prog 10 #[.int .i64 (b0 : Nat), .int .i64 (k0 : Nat)] wx fun e w' => e = .returned (.tuple #[.string s, .int .i64 0]) ∧ Below w.heap.size w w')) :
    Calls Tryd.prog 7 #[.int .i64 a, .int .i64 b, .int .i64 k, .string s] w fun e w' => e = .returned (.bool true) ∧ Below w.heap.size w w' := by
  have c9 := c2
  clear c9
  go_enter Tryd.func7, Tryd.ntmps7
  go_wp2_with (first | (go_at_call 9; refine HA.out.mono ?_; rintro e w1 ⟨rfl, hb1⟩) | (go_at_call 10; with_reducible refine (H1.out _ hb1).mono ?_; rintro e w2 ⟨rfl, hb2⟩) | (go_at_call 10; with_reducible refine (H2.out _ hb2).mono ?_; rintro e w3 ⟨rfl, hb3⟩) | (go_at_call 12; with_reducible refine (H4.out _ hb3).mono ?_; rintro e w5 ⟨rfl, hb5⟩) | (go_at_call 10; with_reducible refine (H5.out _ hb5).mono ?_; rintro e w6 ⟨rfl, hb6⟩))
  go_ret
  exact ⟨rfl, hb6⟩
set_option maxRecDepth 20000 in
set_option maxHeartbeats 4000000 in
theorem bk4xxys (a b k : Int) (s : ByteArray) (S T : ByteArray) (E F : Int) (w : World) (b0 k0 : Nat) (a2 : a < 0) (b2 : b < 0) (c0 : 0 ≤ k) (c2 : 2 < k) (hE : (E == 0) = false) (hF : (F == 0) = false)
    (HA : Hid (Calls Tryd.prog 9 #[] w fun e w' => e = .returned (.bool true) ∧ Below w.heap.size w w'))
    (H1 : Hid (∀ wx, Below w.heap.size w wx → Calls Tryd.prog 10 #[.int .i64 a, .int .i64 k] wx fun e w' => e = .returned (.tuple #[.string S, .int .i64 E]) ∧ Below w.heap.size w w'))
    (H2 : Hid (∀ wx, Below w.heap.size w wx → Calls Tryd.prog 10 #[.int .i64 b, .int .i64 k] wx fun e w' => e = .returned (.tuple #[.string T, .int .i64 F]) ∧ Below w.heap.size w w'))
    (H4 : Hid (∀ wx, Below w.heap.size w wx → Calls Tryd.prog 12 #[.string s] wx fun e w' => e = .returned (.tuple #[.int .i64 (b0 : Nat), .int .i64 (k0 : Nat), .bool true]) ∧ Below w.heap.size w w'))
    (H5 : Hid (∀ wx, Below w.heap.size w wx → Calls Tryd.prog 10 #[.int .i64 (b0 : Nat), .int .i64 (k0 : Nat)] wx fun e w' => e = .returned (.tuple #[.string s, .int .i64 0]) ∧ Below w.heap.size w w')) :
    Calls Tryd.prog 7 #[.int .i64 a, .int .i64 b, .int .i64 k, .string s] w fun e w' => e = .returned (.bool true) ∧ Below w.heap.size w w' := by
  have c9 := c2
  clear c9
  go_enter Tryd.func7, Tryd.ntmps7
  go_wp2_with (first | (go_at_call 9; refine HA.out.mono ?_; rintro e w1 ⟨rfl, hb1⟩) | (go_at_call 10; with_reducible refine (H1.out _ hb1).mono ?_; rintro e w2 ⟨rfl, hb2⟩) | (go_at_call 10; with_reducible refine (H2.out _ hb2).mono ?_; rintro e w3 ⟨rfl, hb3⟩) | (go_at_call 12; with_reducible refine (H4.out _ hb3).mono ?_; rintro e w5 ⟨rfl, hb5⟩) | (go_at_call 10; with_reducible refine (H5.out _ hb5).mono ?_; rintro e w6 ⟨rfl, hb6⟩))
  go_ret
  exact ⟨rfl, hb6⟩
set_option maxRecDepth 20000 in
set_option maxHeartbeats 4000000 in
theorem bk4xxzs (a b k : Int) (s : ByteArray) (S T : ByteArray) (E F : Int) (w : World) (b0 k0 : Nat) (a2 : a < 0) (b2 : b < 0) (c0 : 0 ≤ k) (c1 : k ≤ 2) (hE : (E == 0) = false) (hF : (F == 0) = false)
    (HA : Hid (Calls Tryd.prog 9 #[] w fun e w' => e = .returned (.bool true) ∧ Below w.heap.size w w'))
    (H1 : Hid (∀ wx, Below w.heap.size w wx → Calls Tryd.prog 10 #[.int .i64 a, .int .i64 k] wx fun e w' => e = .returned (.tuple #[.string S, .int .i64 E]) ∧ Below w.heap.size w w'))
    (H2 : Hid (∀ wx, Below w.heap.size w wx → Calls Tryd.prog 10 #[.int .i64 b, .int .i64 k] wx fun e w' => e = .returned (.tuple #[.string T, .int .i64 F]) ∧ Below w.heap.size w w'))
    (H4 : Hid (∀ wx, Below w.heap.size w wx → Calls Tryd.prog 12 #[.string s] wx fun e w' => e = .returned (.tuple #[.int .i64 (b0 : Nat), .int .i64 (k0 : Nat), .bool true]) ∧ Below w.heap.size w w'))
    (H5 : Hid (∀ wx, Below w.heap.size w wx → Calls Tryd.prog 10 #[.int .i64 (b0 : Nat), .int .i64 (k0 : Nat)] wx fun e w' => e = .returned (.tuple #[.string s, .int .i64 0]) ∧ Below w.heap.size w w')) :
    Calls Tryd.prog 7 #[.int .i64 a, .int .i64 b, .int .i64 k, .string s] w fun e w' => e = .returned (.bool true) ∧ Below w.heap.size w w' := by
  go_enter Tryd.func7, Tryd.ntmps7
  go_wp2_with (first | (go_at_call 9; refine HA.out.mono ?_; rintro e w1 ⟨rfl, hb1⟩) | (go_at_call 10; with_reducible refine (H1.out _ hb1).mono ?_; rintro e w2 ⟨rfl, hb2⟩) | (go_at_call 10; with_reducible refine (H2.out _ hb2).mono ?_; rintro e w3 ⟨rfl, hb3⟩) | (go_at_call 12; with_reducible refine (H4.out _ hb3).mono ?_; rintro e w5 ⟨rfl, hb5⟩) | (go_at_call 10; with_reducible refine (H5.out _ hb5).mono ?_; rintro e w6 ⟨rfl, hb6⟩))
  go_ret
  exact ⟨rfl, hb6⟩
set_option maxRecDepth 20000 in
set_option maxHeartbeats 4000000 in
theorem bk4xyxs (a b k : Int) (s : ByteArray) (S T : ByteArray) (E F : Int) (w : World) (b0 k0 : Nat) (a2 : a < 0) (b0' : 0 ≤ b) (b2 : 4611686018427387904 < b) (c2 : k < 0) (hE : (E == 0) = false) (hF : (F == 0) = false)
    (HA : Hid (Calls Tryd.prog 9 #[] w fun e w' => e = .returned (.bool true) ∧ Below w.heap.size w w'))
    (H1 : Hid (∀ wx, Below w.heap.size w wx → Calls Tryd.prog 10 #[.int .i64 a, .int .i64 k] wx fun e w' => e = .returned (.tuple #[.string S, .int .i64 E]) ∧ Below w.heap.size w w'))
    (H2 : Hid (∀ wx, Below w.heap.size w wx → Calls Tryd.prog 10 #[.int .i64 b, .int .i64 k] wx fun e w' => e = .returned (.tuple #[.string T, .int .i64 F]) ∧ Below w.heap.size w w'))
    (H4 : Hid (∀ wx, Below w.heap.size w wx → Calls Tryd.prog 12 #[.string s] wx fun e w' => e = .returned (.tuple #[.int .i64 (b0 : Nat), .int .i64 (k0 : Nat), .bool true]) ∧ Below w.heap.size w w'))
    (H5 : Hid (∀ wx, Below w.heap.size w wx → Calls Tryd.prog 10 #[.int .i64 (b0 : Nat), .int .i64 (k0 : Nat)] wx fun e w' => e = .returned (.tuple #[.string s, .int .i64 0]) ∧ Below w.heap.size w w')) :
    Calls Tryd.prog 7 #[.int .i64 a, .int .i64 b, .int .i64 k, .string s] w fun e w' => e = .returned (.bool true) ∧ Below w.heap.size w w' := by
  have c9 := c2
  clear c9
  go_enter Tryd.func7, Tryd.ntmps7
  go_wp2_with (first | (go_at_call 9; refine HA.out.mono ?_; rintro e w1 ⟨rfl, hb1⟩) | (go_at_call 10; with_reducible refine (H1.out _ hb1).mono ?_; rintro e w2 ⟨rfl, hb2⟩) | (go_at_call 10; with_reducible refine (H2.out _ hb2).mono ?_; rintro e w3 ⟨rfl, hb3⟩) | (go_at_call 12; with_reducible refine (H4.out _ hb3).mono ?_; rintro e w5 ⟨rfl, hb5⟩) | (go_at_call 10; with_reducible refine (H5.out _ hb5).mono ?_; rintro e w6 ⟨rfl, hb6⟩))
  go_ret
  exact ⟨rfl, hb6⟩
set_option maxRecDepth 20000 in
set_option maxHeartbeats 4000000 in
theorem bk4xyys (a b k : Int) (s : ByteArray) (S T : ByteArray) (E F : Int) (w : World) (b0 k0 : Nat) (a2 : a < 0) (b0' : 0 ≤ b) (b2 : 4611686018427387904 < b) (c0 : 0 ≤ k) (c2 : 2 < k) (hE : (E == 0) = false) (hF : (F == 0) = false)
    (HA : Hid (Calls Tryd.prog 9 #[] w fun e w' => e = .returned (.bool true) ∧ Below w.heap.size w w'))
    (H1 : Hid (∀ wx, Below w.heap.size w wx → Calls Tryd.prog 10 #[.int .i64 a, .int .i64 k] wx fun e w' => e = .returned (.tuple #[.string S, .int .i64 E]) ∧ Below w.heap.size w w'))
    (H2 : Hid (∀ wx, Below w.heap.size w wx → Calls Tryd.prog 10 #[.int .i64 b, .int .i64 k] wx fun e w' => e = .returned (.tuple #[.string T, .int .i64 F]) ∧ Below w.heap.size w w'))
    (H4 : Hid (∀ wx, Below w.heap.size w wx → Calls Tryd.prog 12 #[.string s] wx fun e w' => e = .returned (.tuple #[.int .i64 (b0 : Nat), .int .i64 (k0 : Nat), .bool true]) ∧ Below w.heap.size w w'))
    (H5 : Hid (∀ wx, Below w.heap.size w wx → Calls Tryd.prog 10 #[.int .i64 (b0 : Nat), .int .i64 (k0 : Nat)] wx fun e w' => e = .returned (.tuple #[.string s, .int .i64 0]) ∧ Below w.heap.size w w')) :
    Calls Tryd.prog 7 #[.int .i64 a, .int .i64 b, .int .i64 k, .string s] w fun e w' => e = .returned (.bool true) ∧ Below w.heap.size w w' := by
  have c9 := c2
  clear c9
  go_enter Tryd.func7, Tryd.ntmps7
  go_wp2_with (first | (go_at_call 9; refine HA.out.mono ?_; rintro e w1 ⟨rfl, hb1⟩) | (go_at_call 10; with_reducible refine (H1.out _ hb1).mono ?_; rintro e w2 ⟨rfl, hb2⟩) | (go_at_call 10; with_reducible refine (H2.out _ hb2).mono ?_; rintro e w3 ⟨rfl, hb3⟩) | (go_at_call 12; with_reducible refine (H4.out _ hb3).mono ?_; rintro e w5 ⟨rfl, hb5⟩) | (go_at_call 10; with_reducible refine (H5.out _ hb5).mono ?_; rintro e w6 ⟨rfl, hb6⟩))
  go_ret
  exact ⟨rfl, hb6⟩
set_option maxRecDepth 20000 in
set_option maxHeartbeats 4000000 in
theorem bk4xyzs (a b k : Int) (s : ByteArray) (S T : ByteArray) (E F : Int) (w : World) (b0 k0 : Nat) (a2 : a < 0) (b0' : 0 ≤ b) (b2 : 4611686018427387904 < b) (c0 : 0 ≤ k) (c1 : k ≤ 2) (hE : (E == 0) = false) (hF : (F == 0) = false)
    (HA : Hid (Calls Tryd.prog 9 #[] w fun e w' => e = .returned (.bool true) ∧ Below w.heap.size w w'))
    (H1 : Hid (∀ wx, Below w.heap.size w wx → Calls Tryd.prog 10 #[.int .i64 a, .int .i64 k] wx fun e w' => e = .returned (.tuple #[.string S, .int .i64 E]) ∧ Below w.heap.size w w'))
    (H2 : Hid (∀ wx, Below w.heap.size w wx → Calls Tryd.prog 10 #[.int .i64 b, .int .i64 k] wx fun e w' => e = .returned (.tuple #[.string T, .int .i64 F]) ∧ Below w.heap.size w w'))
    (H4 : Hid (∀ wx, Below w.heap.size w wx → Calls Tryd.prog 12 #[.string s] wx fun e w' => e = .returned (.tuple #[.int .i64 (b0 : Nat), .int .i64 (k0 : Nat), .bool true]) ∧ Below w.heap.size w w'))
    (H5 : Hid (∀ wx, Below w.heap.size w wx → Calls Tryd.prog 10 #[.int .i64 (b0 : Nat), .int .i64 (k0 : Nat)] wx fun e w' => e = .returned (.tuple #[.string s, .int .i64 0]) ∧ Below w.heap.size w w')) :
    Calls Tryd.prog 7 #[.int .i64 a, .int .i64 b, .int .i64 k, .string s] w fun e w' => e = .returned (.bool true) ∧ Below w.heap.size w w' := by
  go_enter Tryd.func7, Tryd.ntmps7
  go_wp2_with (first | (go_at_call 9; refine HA.out.mono ?_; rintro e w1 ⟨rfl, hb1⟩) | (go_at_call 10; with_reducible refine (H1.out _ hb1).mono ?_; rintro e w2 ⟨rfl, hb2⟩) | (go_at_call 10; with_reducible refine (H2.out _ hb2).mono ?_; rintro e w3 ⟨rfl, hb3⟩) | (go_at_call 12; with_reducible refine (H4.out _ hb3).mono ?_; rintro e w5 ⟨rfl, hb5⟩) | (go_at_call 10; with_reducible refine (H5.out _ hb5).mono ?_; rintro e w6 ⟨rfl, hb6⟩))
  go_ret
  exact ⟨rfl, hb6⟩
set_option maxRecDepth 20000 in
set_option maxHeartbeats 4000000 in
theorem bk4xzxs (a b k : Int) (s : ByteArray) (S T : ByteArray) (E F : Int) (w : World) (b0 k0 : Nat) (a2 : a < 0) (b0' : 0 ≤ b) (b1 : b ≤ 4611686018427387904) (c2 : k < 0) (hE : (E == 0) = false) (hF : (F == 0) = false)
    (HA : Hid (Calls Tryd.prog 9 #[] w fun e w' => e = .returned (.bool true) ∧ Below w.heap.size w w'))
    (H1 : Hid (∀ wx, Below w.heap.size w wx → Calls Tryd.prog 10 #[.int .i64 a, .int .i64 k] wx fun e w' => e = .returned (.tuple #[.string S, .int .i64 E]) ∧ Below w.heap.size w w'))
    (H2 : Hid (∀ wx, Below w.heap.size w wx → Calls Tryd.prog 10 #[.int .i64 b, .int .i64 k] wx fun e w' => e = .returned (.tuple #[.string T, .int .i64 F]) ∧ Below w.heap.size w w'))
    (H4 : Hid (∀ wx, Below w.heap.size w wx → Calls Tryd.prog 12 #[.string s] wx fun e w' => e = .returned (.tuple #[.int .i64 (b0 : Nat), .int .i64 (k0 : Nat), .bool true]) ∧ Below w.heap.size w w'))
    (H5 : Hid (∀ wx, Below w.heap.size w wx → Calls Tryd.prog 10 #[.int .i64 (b0 : Nat), .int .i64 (k0 : Nat)] wx fun e w' => e = .returned (.tuple #[.string s, .int .i64 0]) ∧ Below w.heap.size w w')) :
    Calls Tryd.prog 7 #[.int .i64 a, .int .i64 b, .int .i64 k, .string s] w fun e w' => e = .returned (.bool true) ∧ Below w.heap.size w w' := by
  have c9 := c2
  clear c9
  go_enter Tryd.func7, Tryd.ntmps7
  go_wp2_with (first | (go_at_call 9; refine HA.out.mono ?_; rintro e w1 ⟨rfl, hb1⟩) | (go_at_call 10; with_reducible refine (H1.out _ hb1).mono ?_; rintro e w2 ⟨rfl, hb2⟩) | (go_at_call 10; with_reducible refine (H2.out _ hb2).mono ?_; rintro e w3 ⟨rfl, hb3⟩) | (go_at_call 12; with_reducible refine (H4.out _ hb3).mono ?_; rintro e w5 ⟨rfl, hb5⟩) | (go_at_call 10; with_reducible refine (H5.out _ hb5).mono ?_; rintro e w6 ⟨rfl, hb6⟩))
  go_ret
  exact ⟨rfl, hb6⟩
set_option maxRecDepth 20000 in
set_option maxHeartbeats 4000000 in
theorem bk4xzys (a b k : Int) (s : ByteArray) (S T : ByteArray) (E F : Int) (w : World) (b0 k0 : Nat) (a2 : a < 0) (b0' : 0 ≤ b) (b1 : b ≤ 4611686018427387904) (c0 : 0 ≤ k) (c2 : 2 < k) (hE : (E == 0) = false) (hF : (F == 0) = false)
    (HA : Hid (Calls Tryd.prog 9 #[] w fun e w' => e = .returned (.bool true) ∧ Below w.heap.size w w'))
    (H1 : Hid (∀ wx, Below w.heap.size w wx → Calls Tryd.prog 10 #[.int .i64 a, .int .i64 k] wx fun e w' => e = .returned (.tuple #[.string S, .int .i64 E]) ∧ Below w.heap.size w w'))
    (H2 : Hid (∀ wx, Below w.heap.size w wx → Calls Tryd.prog 10 #[.int .i64 b, .int .i64 k] wx fun e w' => e = .returned (.tuple #[.string T, .int .i64 F]) ∧ Below w.heap.size w w'))
    (H4 : Hid (∀ wx, Below w.heap.size w wx → Calls Tryd.prog 12 #[.string s] wx fun e w' => e = .returned (.tuple #[.int .i64 (b0 : Nat), .int .i64 (k0 : Nat), .bool true]) ∧ Below w.heap.size w w'))
    (H5 : Hid (∀ wx, Below w.heap.size w wx → Calls Tryd.prog 10 #[.int .i64 (b0 : Nat), .int .i64 (k0 : Nat)] wx fun e w' => e = .returned (.tuple #[.string s, .int .i64 0]) ∧ Below w.heap.size w w')) :
    Calls Tryd.prog 7 #[.int .i64 a, .int .i64 b, .int .i64 k, .string s] w fun e w' => e = .returned (.bool true) ∧ Below w.heap.size w w' := by
  have c9 := c2
  clear c9
  go_enter Tryd.func7, Tryd.ntmps7
  go_wp2_with (first | (go_at_call 9; refine HA.out.mono ?_; rintro e w1 ⟨rfl, hb1⟩) | (go_at_call 10; with_reducible refine (H1.out _ hb1).mono ?_; rintro e w2 ⟨rfl, hb2⟩) | (go_at_call 10; with_reducible refine (H2.out _ hb2).mono ?_; rintro e w3 ⟨rfl, hb3⟩) | (go_at_call 12; with_reducible refine (H4.out _ hb3).mono ?_; rintro e w5 ⟨rfl, hb5⟩) | (go_at_call 10; with_reducible refine (H5.out _ hb5).mono ?_; rintro e w6 ⟨rfl, hb6⟩))
  go_ret
  exact ⟨rfl, hb6⟩
set_option maxRecDepth 20000 in
set_option maxHeartbeats 4000000 in
theorem bk4xzzs (a b k : Int) (s : ByteArray) (S T : ByteArray) (E F : Int) (w : World) (b0 k0 : Nat) (a2 : a < 0) (b0' : 0 ≤ b) (b1 : b ≤ 4611686018427387904) (c0 : 0 ≤ k) (c1 : k ≤ 2) (hE : (E == 0) = false) (hF : F = 0)
    (HA : Hid (Calls Tryd.prog 9 #[] w fun e w' => e = .returned (.bool true) ∧ Below w.heap.size w w'))
    (H1 : Hid (∀ wx, Below w.heap.size w wx → Calls Tryd.prog 10 #[.int .i64 a, .int .i64 k] wx fun e w' => e = .returned (.tuple #[.string S, .int .i64 E]) ∧ Below w.heap.size w w'))
    (H2 : Hid (∀ wx, Below w.heap.size w wx → Calls Tryd.prog 10 #[.int .i64 b, .int .i64 k] wx fun e w' => e = .returned (.tuple #[.string T, .int .i64 F]) ∧ Below w.heap.size w w'))
    (H4 : Hid (∀ wx, Below w.heap.size w wx → Calls Tryd.prog 12 #[.string s] wx fun e w' => e = .returned (.tuple #[.int .i64 (b0 : Nat), .int .i64 (k0 : Nat), .bool true]) ∧ Below w.heap.size w w'))
    (H5 : Hid (∀ wx, Below w.heap.size w wx → Calls Tryd.prog 10 #[.int .i64 (b0 : Nat), .int .i64 (k0 : Nat)] wx fun e w' => e = .returned (.tuple #[.string s, .int .i64 0]) ∧ Below w.heap.size w w')) :
    Calls Tryd.prog 7 #[.int .i64 a, .int .i64 b, .int .i64 k, .string s] w fun e w' => e = .returned (.bool true) ∧ Below w.heap.size w w' := by
  subst hF
  go_enter Tryd.func7, Tryd.ntmps7
  go_wp2_with (first | (go_at_call 9; refine HA.out.mono ?_; rintro e w1 ⟨rfl, hb1⟩) | (go_at_call 10; with_reducible refine (H1.out _ hb1).mono ?_; rintro e w2 ⟨rfl, hb2⟩) | (go_at_call 10; with_reducible refine (H2.out _ hb2).mono ?_; rintro e w3 ⟨rfl, hb3⟩) | (go_at_call 12; with_reducible refine (H4.out _ hb3).mono ?_; rintro e w5 ⟨rfl, hb5⟩) | (go_at_call 10; with_reducible refine (H5.out _ hb5).mono ?_; rintro e w6 ⟨rfl, hb6⟩))
  go_ret
  exact ⟨rfl, hb6⟩
set_option maxRecDepth 20000 in
set_option maxHeartbeats 4000000 in
theorem bk4yxxs (a b k : Int) (s : ByteArray) (S T : ByteArray) (E F : Int) (w : World) (b0 k0 : Nat) (a0 : 0 ≤ a) (a2 : 4611686018427387904 < a) (b2 : b < 0) (c2 : k < 0) (hE : (E == 0) = false) (hF : (F == 0) = false)
    (HA : Hid (Calls Tryd.prog 9 #[] w fun e w' => e = .returned (.bool true) ∧ Below w.heap.size w w'))
    (H1 : Hid (∀ wx, Below w.heap.size w wx → Calls Tryd.prog 10 #[.int .i64 a, .int .i64 k] wx fun e w' => e = .returned (.tuple #[.string S, .int .i64 E]) ∧ Below w.heap.size w w'))
    (H2 : Hid (∀ wx, Below w.heap.size w wx → Calls Tryd.prog 10 #[.int .i64 b, .int .i64 k] wx fun e w' => e = .returned (.tuple #[.string T, .int .i64 F]) ∧ Below w.heap.size w w'))
    (H4 : Hid (∀ wx, Below w.heap.size w wx → Calls Tryd.prog 12 #[.string s] wx fun e w' => e = .returned (.tuple #[.int .i64 (b0 : Nat), .int .i64 (k0 : Nat), .bool true]) ∧ Below w.heap.size w w'))
    (H5 : Hid (∀ wx, Below w.heap.size w wx → Calls Tryd.prog 10 #[.int .i64 (b0 : Nat), .int .i64 (k0 : Nat)] wx fun e w' => e = .returned (.tuple #[.string s, .int .i64 0]) ∧ Below w.heap.size w w')) :
    Calls Tryd.prog 7 #[.int .i64 a, .int .i64 b, .int .i64 k, .string s] w fun e w' => e = .returned (.bool true) ∧ Below w.heap.size w w' := by
  have c9 := c2
  clear c9
  go_enter Tryd.func7, Tryd.ntmps7
  go_wp2_with (first | (go_at_call 9; refine HA.out.mono ?_; rintro e w1 ⟨rfl, hb1⟩) | (go_at_call 10; with_reducible refine (H1.out _ hb1).mono ?_; rintro e w2 ⟨rfl, hb2⟩) | (go_at_call 10; with_reducible refine (H2.out _ hb2).mono ?_; rintro e w3 ⟨rfl, hb3⟩) | (go_at_call 12; with_reducible refine (H4.out _ hb3).mono ?_; rintro e w5 ⟨rfl, hb5⟩) | (go_at_call 10; with_reducible refine (H5.out _ hb5).mono ?_; rintro e w6 ⟨rfl, hb6⟩))
  go_ret
  exact ⟨rfl, hb6⟩
set_option maxRecDepth 20000 in
set_option maxHeartbeats 4000000 in
theorem bk4yxys (a b k : Int) (s : ByteArray) (S T : ByteArray) (E F : Int) (w : World) (b0 k0 : Nat) (a0 : 0 ≤ a) (a2 : 4611686018427387904 < a) (b2 : b < 0) (c0 : 0 ≤ k) (c2 : 2 < k) (hE : (E == 0) = false) (hF : (F == 0) = false)
    (HA : Hid (Calls Tryd.prog 9 #[] w fun e w' => e = .returned (.bool true) ∧ Below w.heap.size w w'))
    (H1 : Hid (∀ wx, Below w.heap.size w wx → Calls Tryd.prog 10 #[.int .i64 a, .int .i64 k] wx fun e w' => e = .returned (.tuple #[.string S, .int .i64 E]) ∧ Below w.heap.size w w'))
    (H2 : Hid (∀ wx, Below w.heap.size w wx → Calls Tryd.prog 10 #[.int .i64 b, .int .i64 k] wx fun e w' => e = .returned (.tuple #[.string T, .int .i64 F]) ∧ Below w.heap.size w w'))
    (H4 : Hid (∀ wx, Below w.heap.size w wx → Calls Tryd.prog 12 #[.string s] wx fun e w' => e = .returned (.tuple #[.int .i64 (b0 : Nat), .int .i64 (k0 : Nat), .bool true]) ∧ Below w.heap.size w w'))
    (H5 : Hid (∀ wx, Below w.heap.size w wx → Calls Tryd.prog 10 #[.int .i64 (b0 : Nat), .int .i64 (k0 : Nat)] wx fun e w' => e = .returned (.tuple #[.string s, .int .i64 0]) ∧ Below w.heap.size w w')) :
    Calls Tryd.prog 7 #[.int .i64 a, .int .i64 b, .int .i64 k, .string s] w fun e w' => e = .returned (.bool true) ∧ Below w.heap.size w w' := by
  have c9 := c2
  clear c9
  go_enter Tryd.func7, Tryd.ntmps7
  go_wp2_with (first | (go_at_call 9; refine HA.out.mono ?_; rintro e w1 ⟨rfl, hb1⟩) | (go_at_call 10; with_reducible refine (H1.out _ hb1).mono ?_; rintro e w2 ⟨rfl, hb2⟩) | (go_at_call 10; with_reducible refine (H2.out _ hb2).mono ?_; rintro e w3 ⟨rfl, hb3⟩) | (go_at_call 12; with_reducible refine (H4.out _ hb3).mono ?_; rintro e w5 ⟨rfl, hb5⟩) | (go_at_call 10; with_reducible refine (H5.out _ hb5).mono ?_; rintro e w6 ⟨rfl, hb6⟩))
  go_ret
  exact ⟨rfl, hb6⟩
set_option maxRecDepth 20000 in
set_option maxHeartbeats 4000000 in
theorem bk4yxzs (a b k : Int) (s : ByteArray) (S T : ByteArray) (E F : Int) (w : World) (b0 k0 : Nat) (a0 : 0 ≤ a) (a2 : 4611686018427387904 < a) (b2 : b < 0) (c0 : 0 ≤ k) (c1 : k ≤ 2) (hE : (E == 0) = false) (hF : (F == 0) = false)
    (HA : Hid (Calls Tryd.prog 9 #[] w fun e w' => e = .returned (.bool true) ∧ Below w.heap.size w w'))
    (H1 : Hid (∀ wx, Below w.heap.size w wx → Calls Tryd.prog 10 #[.int .i64 a, .int .i64 k] wx fun e w' => e = .returned (.tuple #[.string S, .int .i64 E]) ∧ Below w.heap.size w w'))
    (H2 : Hid (∀ wx, Below w.heap.size w wx → Calls Tryd.prog 10 #[.int .i64 b, .int .i64 k] wx fun e w' => e = .returned (.tuple #[.string T, .int .i64 F]) ∧ Below w.heap.size w w'))
    (H4 : Hid (∀ wx, Below w.heap.size w wx → Calls Tryd.prog 12 #[.string s] wx fun e w' => e = .returned (.tuple #[.int .i64 (b0 : Nat), .int .i64 (k0 : Nat), .bool true]) ∧ Below w.heap.size w w'))
    (H5 : Hid (∀ wx, Below w.heap.size w wx → Calls Tryd.prog 10 #[.int .i64 (b0 : Nat), .int .i64 (k0 : Nat)] wx fun e w' => e = .returned (.tuple #[.string s, .int .i64 0]) ∧ Below w.heap.size w w')) :
    Calls Tryd.prog 7 #[.int .i64 a, .int .i64 b, .int .i64 k, .string s] w fun e w' => e = .returned (.bool true) ∧ Below w.heap.size w w' := by
  go_enter Tryd.func7, Tryd.ntmps7
  go_wp2_with (first | (go_at_call 9; refine HA.out.mono ?_; rintro e w1 ⟨rfl, hb1⟩) | (go_at_call 10; with_reducible refine (H1.out _ hb1).mono ?_; rintro e w2 ⟨rfl, hb2⟩) | (go_at_call 10; with_reducible refine (H2.out _ hb2).mono ?_; rintro e w3 ⟨rfl, hb3⟩) | (go_at_call 12; with_reducible refine (H4.out _ hb3).mono ?_; rintro e w5 ⟨rfl, hb5⟩) | (go_at_call 10; with_reducible refine (H5.out _ hb5).mono ?_; rintro e w6 ⟨rfl, hb6⟩))
  go_ret
  exact ⟨rfl, hb6⟩
set_option maxRecDepth 20000 in
set_option maxHeartbeats 4000000 in
theorem bk4yyxs (a b k : Int) (s : ByteArray) (S T : ByteArray) (E F : Int) (w : World) (b0 k0 : Nat) (a0 : 0 ≤ a) (a2 : 4611686018427387904 < a) (b0' : 0 ≤ b) (b2 : 4611686018427387904 < b) (c2 : k < 0) (hE : (E == 0) = false) (hF : (F == 0) = false)
    (HA : Hid (Calls Tryd.prog 9 #[] w fun e w' => e = .returned (.bool true) ∧ Below w.heap.size w w'))
    (H1 : Hid (∀ wx, Below w.heap.size w wx → Calls Tryd.prog 10 #[.int .i64 a, .int .i64 k] wx fun e w' => e = .returned (.tuple #[.string S, .int .i64 E]) ∧ Below w.heap.size w w'))
    (H2 : Hid (∀ wx, Below w.heap.size w wx → Calls Tryd.prog 10 #[.int .i64 b, .int .i64 k] wx fun e w' => e = .returned (.tuple #[.string T, .int .i64 F]) ∧ Below w.heap.size w w'))
    (H4 : Hid (∀ wx, Below w.heap.size w wx → Calls Tryd.prog 12 #[.string s] wx fun e w' => e = .returned (.tuple #[.int .i64 (b0 : Nat), .int .i64 (k0 : Nat), .bool true]) ∧ Below w.heap.size w w'))
    (H5 : Hid (∀ wx, Below w.heap.size w wx → Calls Tryd.prog 10 #[.int .i64 (b0 : Nat), .int .i64 (k0 : Nat)] wx fun e w' => e = .returned (.tuple #[.string s, .int .i64 0]) ∧ Below w.heap.size w w')) :
    Calls Tryd.prog 7 #[.int .i64 a, .int .i64 b, .int .i64 k, .string s] w fun e w' => e = .returned (.bool true) ∧ Below w.heap.size w w' := by
  have c9 := c2
  clear c9
  go_enter Tryd.func7, Tryd.ntmps7
  go_wp2_with (first | (go_at_call 9; refine HA.out.mono ?_; rintro e w1 ⟨rfl, hb1⟩) | (go_at_call 10; with_reducible refine (H1.out _ hb1).mono ?_; rintro e w2 ⟨rfl, hb2⟩) | (go_at_call 10; with_reducible refine (H2.out _ hb2).mono ?_; rintro e w3 ⟨rfl, hb3⟩) | (go_at_call 12; with_reducible refine (H4.out _ hb3).mono ?_; rintro e w5 ⟨rfl, hb5⟩) | (go_at_call 10; with_reducible refine (H5.out _ hb5).mono ?_; rintro e w6 ⟨rfl, hb6⟩))
  go_ret
  exact ⟨rfl, hb6⟩
set_option maxRecDepth 20000 in
set_option maxHeartbeats 4000000 in
theorem bk4yyys (a b k : Int) (s : ByteArray) (S T : ByteArray) (E F : Int) (w : World) (b0 k0 : Nat) (a0 : 0 ≤ a) (a2 : 4611686018427387904 < a) (b0' : 0 ≤ b) (b2 : 4611686018427387904 < b) (c0 : 0 ≤ k) (c2 : 2 < k) (hE : (E == 0) = false) (hF : (F == 0) = false)
    (HA : Hid (Calls Tryd.prog 9 #[] w fun e w' => e = .returned (.bool true) ∧ Below w.heap.size w w'))
    (H1 : Hid (∀ wx, Below w.heap.size w wx → Calls Tryd.prog 10 #[.int .i64 a, .int .i64 k] wx fun e w' => e = .returned (.tuple #[.string S, .int .i64 E]) ∧ Below w.heap.size w w'))
    (H2 : Hid (∀ wx, Below w.heap.size w wx → Calls Tryd.prog 10 #[.int .i64 b, .int .i64 k] wx fun e w' => e = .returned (.tuple #[.string T, .int .i64 F]) ∧ Below w.heap.size w w'))
    (H4 : Hid (∀ wx, Below w.heap.size w wx → Calls Tryd.prog 12 #[.string s] wx fun e w' => e = .returned (.tuple #[.int .i64 (b0 : Nat), .int .i64 (k0 : Nat), .bool true]) ∧ Below w.heap.size w w'))
    (H5 : Hid (∀ wx, Below w.heap.size w wx → Calls Tryd.prog 10 #[.int .i64 (b0 : Nat), .int .i64 (k0 : Nat)] wx fun e w' => e = .returned (.tuple #[.string s, .int .i64 0]) ∧ Below w.heap.size w w')) :
    Calls Tryd.prog 7 #[.int .i64 a, .int .i64 b, .int .i64 k, .string s] w fun e w' => e = .returned (.bool true) ∧ Below w.heap.size w w' := by
  have c9 := c2
  clear c9
  go_enter Tryd.func7, Tryd.ntmps7
  go_wp2_with (first | (go_at_call 9; refine HA.out.mono ?_; rintro e w1 ⟨rfl, hb1⟩) | (go_at_call 10; with_reducible refine (H1.out _ hb1).mono ?_; rintro e w2 ⟨rfl, hb2⟩) | (go_at_call 10; with_reducible refine (H2.out _ hb2).mono ?_; rintro e w3 ⟨rfl, hb3⟩) | (go_at_call 12; with_reducible refine (H4.out _ hb3).mono ?_; rintro e w5 ⟨rfl, hb5⟩) | (go_at_call 10; with_reducible refine (H5.out _ hb5).mono ?_; rintro e w6 ⟨rfl, hb6⟩))
  go_ret
  exact ⟨rfl, hb6⟩
set_option maxRecDepth 20000 in
set_option maxHeartbeats 4000000 in
theorem bk4yyzs (a b k : Int) (s : ByteArray) (S T : ByteArray) (E F : Int) (w : World) (b0 k0 : Nat) (a0 : 0 ≤ a) (a2 : 4611686018427387904 < a) (b0' : 0 ≤ b) (b2 : 4611686018427387904 < b) (c0 : 0 ≤ k) (c1 : k ≤ 2) (hE : (E == 0) = false) (hF : (F == 0) = false)
    (HA : Hid (Calls Tryd.prog 9 #[] w fun e w' => e = .returned (.bool true) ∧ Below w.heap.size w w'))
    (H1 : Hid (∀ wx, Below w.heap.size w wx → Calls Tryd.prog 10 #[.int .i64 a, .int .i64 k] wx fun e w' => e = .returned (.tuple #[.string S, .int .i64 E]) ∧ Below w.heap.size w w'))
    (H2 : Hid (∀ wx, Below w.heap.size w wx → Calls Tryd.prog 10 #[.int .i64 b, .int .i64 k] wx fun e w' => e = .returned (.tuple #[.string T, .int .i64 F]) ∧ Below w.heap.size w w'))
    (H4 : Hid (∀ wx, Below w.heap.size w wx → Calls Tryd.prog 12 #[.string s] wx fun e w' => e = .returned (.tuple #[.int .i64 (b0 : Nat), .int .i64 (k0 : Nat), .bool true]) ∧ Below w.heap.size w w'))
    (H5 : Hid (∀ wx, Below w.heap.size w wx → Calls Tryd.prog 10 #[.int .i64 (b0 : Nat), .int .i64 (k0 : Nat)] wx fun e w' => e = .returned (.tuple #[.string s, .int .i64 0]) ∧ Below w.heap.size w w')) :
    Calls Tryd.prog 7 #[.int .i64 a, .int .i64 b, .int .i64 k, .string s] w fun e w' => e = .returned (.bool true) ∧ Below w.heap.size w w' := by
  go_enter Tryd.func7, Tryd.ntmps7
  go_wp2_with (first | (go_at_call 9; refine HA.out.mono ?_; rintro e w1 ⟨rfl, hb1⟩) | (go_at_call 10; with_reducible refine (H1.out _ hb1).mono ?_; rintro e w2 ⟨rfl, hb2⟩) | (go_at_call 10; with_reducible refine (H2.out _ hb2).mono ?_; rintro e w3 ⟨rfl, hb3⟩) | (go_at_call 12; with_reducible refine (H4.out _ hb3).mono ?_; rintro e w5 ⟨rfl, hb5⟩) | (go_at_call 10; with_reducible refine (H5.out _ hb5).mono ?_; rintro e w6 ⟨rfl, hb6⟩))
  go_ret
  exact ⟨rfl, hb6⟩
set_option maxRecDepth 20000 in
set_option maxHeartbeats 4000000 in
theorem bk4yzxs (a b k : Int) (s : ByteArray) (S T : ByteArray) (E F : Int) (w : World) (b0 k0 : Nat) (a0 : 0 ≤ a) (a2 : 4611686018427387904 < a) (b0' : 0 ≤ b) (b1 : b ≤ 4611686018427387904) (c2 : k < 0) (hE : (E == 0) = false) (hF : (F == 0) = false)
    (HA : Hid (Calls Tryd.prog 9 #[] w fun e w' => e = .returned (.bool true) ∧ Below w.heap.size w w'))
    (H1 : Hid (∀ wx, Below w.heap.size w wx → Calls Tryd.prog 10 #[.int .i64 a, .int .i64 k] wx fun e w' => e = .returned (.tuple #[.string S, .int .i64 E]) ∧ Below w.heap.size w w'))
    (H2 : Hid (∀ wx, Below w.heap.size w wx → Calls Tryd.prog 10 #[.int .i64 b, .int .i64 k] wx fun e w' => e = .returned (.tuple #[.string T, .int .i64 F]) ∧ Below w.heap.size w w'))
    (H4 : Hid (∀ wx, Below w.heap.size w wx → Calls Tryd.prog 12 #[.string s] wx fun e w' => e = .returned (.tuple #[.int .i64 (b0 : Nat), .int .i64 (k0 : Nat), .bool true]) ∧ Below w.heap.size w w'))
    (H5 : Hid (∀ wx, Below w.heap.size w wx → Calls Tryd.prog 10 #[.int .i64 (b0 : Nat), .int .i64 (k0 : Nat)] wx fun e w' => e = .returned (.tuple #[.string s, .int .i64 0]) ∧ Below w.heap.size w w')) :
    Calls Tryd.prog 7 #[.int .i64 a, .int .i64 b, .int .i64 k, .string s] w fun e w' => e = .returned (.bool true) ∧ Below w.heap.size w w' := by
  have c9 := c2
  clear c9
  go_enter Tryd.func7, Tryd.ntmps7
  go_wp2_with (first | (go_at_call 9; refine HA.out.mono ?_; rintro e w1 ⟨rfl, hb1⟩) | (go_at_call 10; with_reducible refine (H1.out _ hb1).mono ?_; rintro e w2 ⟨rfl, hb2⟩) | (go_at_call 10; with_reducible refine (H2.out _ hb2).mono ?_; rintro e w3 ⟨rfl, hb3⟩) | (go_at_call 12; with_reducible refine (H4.out _ hb3).mono ?_; rintro e w5 ⟨rfl, hb5⟩) | (go_at_call 10; with_reducible refine (H5.out _ hb5).mono ?_; rintro e w6 ⟨rfl, hb6⟩))
  go_ret
  exact ⟨rfl, hb6⟩
set_option maxRecDepth 20000 in
set_option maxHeartbeats 4000000 in
theorem bk4yzys (a b k : Int) (s : ByteArray) (S T : ByteArray) (E F : Int) (w : World) (b0 k0 : Nat) (a0 : 0 ≤ a) (a2 : 4611686018427387904 < a) (b0' : 0 ≤ b) (b1 : b ≤ 4611686018427387904) (c0 : 0 ≤ k) (c2 : 2 < k) (hE : (E == 0) = false) (hF : (F == 0) = false)
    (HA : Hid (Calls Tryd.prog 9 #[] w fun e w' => e = .returned (.bool true) ∧ Below w.heap.size w w'))
    (H1 : Hid (∀ wx, Below w.heap.size w wx → Calls Tryd.prog 10 #[.int .i64 a, .int .i64 k] wx fun e w' => e = .returned (.tuple #[.string S, .int .i64 E]) ∧ Below w.heap.size w w'))
    (H2 : Hid (∀ wx, Below w.heap.size w wx → Calls Tryd.prog 10 #[.int .i64 b, .int .i64 k] wx fun e w' => e = .returned (.tuple #[.string T, .int .i64 F]) ∧ Below w.heap.size w w'))
    (H4 : Hid (∀ wx, Below w.heap.size w wx → Calls Tryd.prog 12 #[.string s] wx fun e w' => e = .returned (.tuple #[.int .i64 (b0 : Nat), .int .i64 (k0 : Nat), .bool true]) ∧ Below w.heap.size w w'))
    (H5 : Hid (∀ wx, Below w.heap.size w wx → Calls Tryd.prog 10 #[.int .i64 (b0 : Nat), .int .i64 (k0 : Nat)] wx fun e w' => e = .returned (.tuple #[.string s, .int .i64 0]) ∧ Below w.heap.size w w')) :
    Calls Tryd.prog 7 #[.int .i64 a, .int .i64 b, .int .i64 k, .string s] w fun e w' => e = .returned (.bool true) ∧ Below w.heap.size w w' := by
  have c9 := c2
  clear c9
  go_enter Tryd.func7, Tryd.ntmps7
  go_wp2_with (first | (go_at_call 9; refine HA.out.mono ?_; rintro e w1 ⟨rfl, hb1⟩) | (go_at_call 10; with_reducible refine (H1.out _ hb1).mono ?_; rintro e w2 ⟨rfl, hb2⟩) | (go_at_call 10; with_reducible refine (H2.out _ hb2).mono ?_; rintro e w3 ⟨rfl, hb3⟩) | (go_at_call 12; with_reducible refine (H4.out _ hb3).mono ?_; rintro e w5 ⟨rfl, hb5⟩) | (go_at_call 10; with_reducible refine (H5.out _ hb5).mono ?_; rintro e w6 ⟨rfl, hb6⟩))
  go_ret
  exact ⟨rfl, hb6⟩
set_option maxRecDepth 20000 in
set_option maxHeartbeats 4000000 in
theorem bk4yzzs (a b k : Int) (s : ByteArray) (S T : ByteArray) (E F : Int) (w : World) (b0 k0 : Nat) (a0 : 0 ≤ a) (a2 : 4611686018427387904 < a) (b0' : 0 ≤ b) (b1 : b ≤ 4611686018427387904) (c0 : 0 ≤ k) (c1 : k ≤ 2) (hE : (E == 0) = false) (hF : F = 0)
    (HA : Hid (Calls Tryd.prog 9 #[] w fun e w' => e = .returned (.bool true) ∧ Below w.heap.size w w'))
    (H1 : Hid (∀ wx, Below w.heap.size w wx → Calls Tryd.prog 10 #[.int .i64 a, .int .i64 k] wx fun e w' => e = .returned (.tuple #[.string S, .int .i64 E]) ∧ Below w.heap.size w w'))
    (H2 : Hid (∀ wx, Below w.heap.size w wx → Calls Tryd.prog 10 #[.int .i64 b, .int .i64 k] wx fun e w' => e = .returned (.tuple #[.string T, .int .i64 F]) ∧ Below w.heap.size w w'))
    (H4 : Hid (∀ wx, Below w.heap.size w wx → Calls Tryd.prog 12 #[.string s] wx fun e w' => e = .returned (.tuple #[.int .i64 (b0 : Nat), .int .i64 (k0 : Nat), .bool true]) ∧ Below w.heap.size w w'))
    (H5 : Hid (∀ wx, Below w.heap.size w wx → Calls Tryd.prog 10 #[.int .i64 (b0 : Nat), .int .i64 (k0 : Nat)] wx fun e w' => e = .returned (.tuple #[.string s, .int .i64 0]) ∧ Below w.heap.size w w')) :
    Calls Tryd.prog 7 #[.int .i64 a, .int .i64 b, .int .i64 k, .string s] w fun e w' => e = .returned (.bool true) ∧ Below w.heap.size w w' := by
  subst hF
  go_enter Tryd.func7, Tryd.ntmps7
  go_wp2_with (first | (go_at_call 9; refine HA.out.mono ?_; rintro e w1 ⟨rfl, hb1⟩) | (go_at_call 10; with_reducible refine (H1.out _ hb1).mono ?_; rintro e w2 ⟨rfl, hb2⟩) | (go_at_call 10; with_reducible refine (H2.out _ hb2).mono ?_; rintro e w3 ⟨rfl, hb3⟩) | (go_at_call 12; with_reducible refine (H4.out _ hb3).mono ?_; rintro e w5 ⟨rfl, hb5⟩) | (go_at_call 10; with_reducible refine (H5.out _ hb5).mono ?_; rintro e w6 ⟨rfl, hb6⟩))
  go_ret
  exact ⟨rfl, hb6⟩
set_option maxRecDepth 20000 in
set_option maxHeartbeats 4000000 in
theorem bk4zxxs (a b k : Int) (s : ByteArray) (S T : ByteArray) (E F : Int) (w : World) (b0 k0 : Nat) (a0 : 0 ≤ a) (a1 : a ≤ 4611686018427387904) (b2 : b < 0) (c2 : k < 0) (hE : (E == 0) = false) (hF : (F == 0) = false)
    (HA : Hid (Calls Tryd.prog 9 #[] w fun e w' => e = .returned (.bool true) ∧ Below w.heap.size w w'))
    (H1 : Hid (∀ wx, Below w.heap.size w wx → Calls Tryd.prog 10 #[.int .i64 a, .int .i64 k] wx fun e w' => e = .returned (.tuple #[.string S, .int .i64 E]) ∧ Below w.heap.size w w'))
    (H2 : Hid (∀ wx, Below w.heap.size w wx → Calls Tryd.prog 10 #[.int .i64 b, .int .i64 k] wx fun e w' => e = .returned (.tuple #[.string T, .int .i64 F]) ∧ Below w.heap.size w w'))
    (H4 : Hid (∀ wx, Below w.heap.size w wx → Calls Tryd.prog 12 #[.string s] wx fun e w' => e = .returned (.tuple #[.int .i64 (b0 : Nat), .int .i64 (k0 : Nat), .bool true]) ∧ Below w.heap.size w w'))
    (H5 : Hid (∀ wx, Below w.heap.size w wx → Calls Tryd.prog 10 #[.int .i64 (b0 : Nat), .int .i64 (k0 : Nat)] wx fun e w' => e = .returned (.tuple #[.string s, .int .i64 0]) ∧ Below w.heap.size w w')) :
    Calls Tryd.prog 7 #[.int .i64 a, .int .i64 b, .int .i64 k, .string s] w fun e w' => e = .returned (.bool true) ∧ Below w.heap.size w w' := by
  have c9 := c2
  clear c9
  go_enter Tryd.func7, Tryd.ntmps7
  go_wp2_with (first | (go_at_call 9; refine HA.out.mono ?_; rintro e w1 ⟨rfl, hb1⟩) | (go_at_call 10; with_reducible refine (H1.out _ hb1).mono ?_; rintro e w2 ⟨rfl, hb2⟩) | (go_at_call 10; with_reducible refine (H2.out _ hb2).mono ?_; rintro e w3 ⟨rfl, hb3⟩) | (go_at_call 12; with_reducible refine (H4.out _ hb3).mono ?_; rintro e w5 ⟨rfl, hb5⟩) | (go_at_call 10; with_reducible refine (H5.out _ hb5).mono ?_; rintro e w6 ⟨rfl, hb6⟩))
  go_ret
  exact ⟨rfl, hb6⟩
set_option maxRecDepth 20000 in
set_option maxHeartbeats 4000000 in
theorem bk4zxys (a b k : Int) (s : ByteArray) (S T : ByteArray) (E F : Int) (w : World) (b0 k0 : Nat) (a0 : 0 ≤ a) (a1 : a ≤ 4611686018427387904) (b2 : b < 0) (c0 : 0 ≤ k) (c2 : 2 < k) (hE : (E == 0) = false) (hF : (F == 0) = false)
    (HA : Hid (Calls Tryd.prog 9 #[] w fun e w' => e = .returned (.bool true) ∧ Below w.heap.size w w'))
    (H1 : Hid (∀ wx, Below w.heap.size w wx → Calls Tryd.prog 10 #[.int .i64 a, .int .i64 k] wx fun e w' => e = .returned (.tuple #[.string S, .int .i64 E]) ∧ Below w.heap.size w w'))
    (H2 : Hid (∀ wx, Below w.heap.size w wx → Calls Tryd.prog 10 #[.int .i64 b, .int .i64 k] wx fun e w' => e = .returned (.tuple #[.string T, .int .i64 F]) ∧ Below w.heap.size w w'))
    (H4 : Hid (∀ wx, Below w.heap.size w wx → Calls Tryd.prog 12 #[.string s] wx fun e w' => e = .returned (.tuple #[.int .i64 (b0 : Nat), .int .i64 (k0 : Nat), .bool true]) ∧ Below w.heap.size w w'))
    (H5 : Hid (∀ wx, Below w.heap.size w wx → Calls Tryd.prog 10 #[.int .i64 (b0 : Nat), .int .i64 (k0 : Nat)] wx fun e w' => e = .returned (.tuple #[.string s, .int .i64 0]) ∧ Below w.heap.size w w')) :
    Calls Tryd.prog 7 #[.int .i64 a, .int .i64 b, .int .i64 k, .string s] w fun e w' => e = .returned (.bool true) ∧ Below w.heap.size w w' := by
  have c9 := c2
  clear c9
  go_enter Tryd.func7, Tryd.ntmps7
  go_wp2_with (first | (go_at_call 9; refine HA.out.mono ?_; rintro e w1 ⟨rfl, hb1⟩) | (go_at_call 10; with_reducible refine (H1.out _ hb1).mono ?_; rintro e w2 ⟨rfl, hb2⟩) | (go_at_call 10; with_reducible refine (H2.out _ hb2).mono ?_; rintro e w3 ⟨rfl, hb3⟩) | (go_at_call 12; with_reducible refine (H4.out _ hb3).mono ?_; rintro e w5 ⟨rfl, hb5⟩) | (go_at_call 10; with_reducible refine (H5.out _ hb5).mono ?_; rintro e w6 ⟨rfl, hb6⟩))
  go_ret
  exact ⟨rfl, hb6⟩
set_option maxRecDepth 20000 in
set_option maxHeartbeats 4000000 in
theorem bk4zyxs (a b k : Int) (s : ByteArray) (S T : ByteArray) (E F : Int) (w : World) (b0 k0 : Nat) (a0 : 0 ≤ a) (a1 : a ≤ 4611686018427387904) (b0' : 0 ≤ b) (b2 : 4611686018427387904 < b) (c2 : k < 0) (hE : (E == 0) = false) (hF : (F == 0) = false)
    (HA : Hid (Calls Tryd.prog 9 #[] w fun e w' => e = .returned (.bool true) ∧ Below w.heap.size w w'))
    (H1 : Hid (∀ wx, Below w.heap.size w wx → Calls Tryd.prog 10 #[.int .i64 a, .int .i64 k] wx fun e w' => e = .returned (.tuple #[.string S, .int .i64 E]) ∧ Below w.heap.size w w'))
    (H2 : Hid (∀ wx, Below w.heap.size w wx → Calls Tryd.prog 10 #[.int .i64 b, .int .i64 k] wx fun e w' => e = .returned (.tuple #[.string T, .int .i64 F]) ∧ Below w.heap.size w w'))
    (H4 : Hid (∀ wx, Below w.heap.size w wx → Calls Tryd.prog 12 #[.string s] wx fun e w' => e = .returned (.tuple #[.int .i64 (b0 : Nat), .int .i64 (k0 : Nat), .bool true]) ∧ Below w.heap.size w w'))
    (H5 : Hid (∀ wx, Below w.heap.size w wx → Calls Tryd.prog 10 #[.int .i64 (b0 : Nat), .int .i64 (k0 : Nat)] wx fun e w' => e = .returned (.tuple #[.string s, .int .i64 0]) ∧ Below w.heap.size w w')) :
    Calls Tryd.prog 7 #[.int .i64 a, .int .i64 b, .int .i64 k, .string s] w fun e w' => e = .returned (.bool true) ∧ Below w.heap.size w w' := by
  have c9 := c2
  clear c9
  go_enter Tryd.func7, Tryd.ntmps7
  go_wp2_with (first | (go_at_call 9; refine HA.out.mono ?_; rintro e w1 ⟨rfl, hb1⟩) | (go_at_call 10; with_reducible refine (H1.out _ hb1).mono ?_; rintro e w2 ⟨rfl, hb2⟩) | (go_at_call 10; with_reducible refine (H2.out _ hb2).mono ?_; rintro e w3 ⟨rfl, hb3⟩) | (go_at_call 12; with_reducible refine (H4.out _ hb3).mono ?_; rintro e w5 ⟨rfl, hb5⟩) | (go_at_call 10; with_reducible refine (H5.out _ hb5).mono ?_; rintro e w6 ⟨rfl, hb6⟩))
  go_ret
  exact ⟨rfl, hb6⟩
set_option maxRecDepth 20000 in
set_option maxHeartbeats 4000000 in
theorem bk4zyys (a b k : Int) (s : ByteArray) (S T : ByteArray) (E F : Int) (w : World) (b0 k0 : Nat) (a0 : 0 ≤ a) (a1 : a ≤ 4611686018427387904) (b0' : 0 ≤ b) (b2 : 4611686018427387904 < b) (c0 : 0 ≤ k) (c2 : 2 < k) (hE : (E == 0) = false) (hF : (F == 0) = false)
    (HA : Hid (Calls Tryd.prog 9 #[] w fun e w' => e = .returned (.bool true) ∧ Below w.heap.size w w'))
    (H1 : Hid (∀ wx, Below w.heap.size w wx → Calls Tryd.prog 10 #[.int .i64 a, .int .i64 k] wx fun e w' => e = .returned (.tuple #[.string S, .int .i64 E]) ∧ Below w.heap.size w w'))
    (H2 : Hid (∀ wx, Below w.heap.size w wx → Calls Tryd.prog 10 #[.int .i64 b, .int .i64 k] wx fun e w' => e = .returned (.tuple #[.string T, .int .i64 F]) ∧ Below w.heap.size w w'))
    (H4 : Hid (∀ wx, Below w.heap.size w wx → Calls Tryd.prog 12 #[.string s] wx fun e w' => e = .returned (.tuple #[.int .i64 (b0 : Nat), .int .i64 (k0 : Nat), .bool true]) ∧ Below w.heap.size w w'))
    (H5 : Hid (∀ wx, Below w.heap.size w wx → Calls Tryd.prog 10 #[.int .i64 (b0 : Nat), .int .i64 (k0 : Nat)] wx fun e w' => e = .returned (.tuple #[.string s, .int .i64 0]) ∧ Below w.heap.size w w')) :
    Calls Tryd.prog 7 #[.int .i64 a, .int .i64 b, .int .i64 k, .string s] w fun e w' => e = .returned (.bool true) ∧ Below w.heap.size w w' := by
  have c9 := c2
  clear c9
  go_enter Tryd.func7, Tryd.ntmps7
  go_wp2_with (first | (go_at_call 9; refine HA.out.mono ?_; rintro e w1 ⟨rfl, hb1⟩) | (go_at_call 10; with_reducible refine (H1.out _ hb1).mono ?_; rintro e w2 ⟨rfl, hb2⟩) | (go_at_call 10; with_reducible refine (H2.out _ hb2).mono ?_; rintro e w3 ⟨rfl, hb3⟩) | (go_at_call 12; with_reducible refine (H4.out _ hb3).mono ?_; rintro e w5 ⟨rfl, hb5⟩) | (go_at_call 10; with_reducible refine (H5.out _ hb5).mono ?_; rintro e w6 ⟨rfl, hb6⟩))
  go_ret
  exact ⟨rfl, hb6⟩
set_option maxRecDepth 20000 in
set_option maxHeartbeats 4000000 in
theorem bk4zzxs (a b k : Int) (s : ByteArray) (S T : ByteArray) (E F : Int) (w : World) (b0 k0 : Nat) (a0 : 0 ≤ a) (a1 : a ≤ 4611686018427387904) (b0' : 0 ≤ b) (b1 : b ≤ 4611686018427387904) (c2 : k < 0) (hE : (E == 0) = false) (hF : (F == 0) = false)
    (HA : Hid (Calls Tryd.prog 9 #[] w fun e w' => e = .returned (.bool true) ∧ Below w.heap.size w w'))
    (H1 : Hid (∀ wx, Below w.heap.size w wx → Calls Tryd.prog 10 #[.int .i64 a, .int .i64 k] wx fun e w' => e = .returned (.tuple #[.string S, .int .i64 E]) ∧ Below w.heap.size w w'))
    (H2 : Hid (∀ wx, Below w.heap.size w wx → Calls Tryd.prog 10 #[.int .i64 b, .int .i64 k] wx fun e w' => e = .returned (.tuple #[.string T, .int .i64 F]) ∧ Below w.heap.size w w'))
    (H4 : Hid (∀ wx, Below w.heap.size w wx → Calls Tryd.prog 12 #[.string s] wx fun e w' => e = .returned (.tuple #[.int .i64 (b0 : Nat), .int .i64 (k0 : Nat), .bool true]) ∧ Below w.heap.size w w'))
    (H5 : Hid (∀ wx, Below w.heap.size w wx → Calls Tryd.prog 10 #[.int .i64 (b0 : Nat), .int .i64 (k0 : Nat)] wx fun e w' => e = .returned (.tuple #[.string s, .int .i64 0]) ∧ Below w.heap.size w w')) :
    Calls Tryd.prog 7 #[.int .i64 a, .int .i64 b, .int .i64 k, .string s] w fun e w' => e = .returned (.bool true) ∧ Below w.heap.size w w' := by
  have c9 := c2
  clear c9
  go_enter Tryd.func7, Tryd.ntmps7
  go_wp2_with (first | (go_at_call 9; refine HA.out.mono ?_; rintro e w1 ⟨rfl, hb1⟩) | (go_at_call 10; with_reducible refine (H1.out _ hb1).mono ?_; rintro e w2 ⟨rfl, hb2⟩) | (go_at_call 10; with_reducible refine (H2.out _ hb2).mono ?_; rintro e w3 ⟨rfl, hb3⟩) | (go_at_call 12; with_reducible refine (H4.out _ hb3).mono ?_; rintro e w5 ⟨rfl, hb5⟩) | (go_at_call 10; with_reducible refine (H5.out _ hb5).mono ?_; rintro e w6 ⟨rfl, hb6⟩))
  go_ret
  exact ⟨rfl, hb6⟩
set_option maxRecDepth 20000 in
set_option maxHeartbeats 4000000 in
theorem bk4zzys (a b k : Int) (s : ByteArray) (S T : ByteArray) (E F : Int) (w : World) (b0 k0 : Nat) (a0 : 0 ≤ a) (a1 : a ≤ 4611686018427387904) (b0' : 0 ≤ b) (b1 : b ≤ 4611686018427387904) (c0 : 0 ≤ k) (c2 : 2 < k) (hE : (E == 0) = false) (hF : (F == 0) = false)
    (HA : Hid (Calls Tryd.prog 9 #[] w fun e w' => e = .returned (.bool true) ∧ Below w.heap.size w w'))
    (H1 : Hid (∀ wx, Below w.heap.size w wx → Calls Tryd.prog 10 #[.int .i64 a, .int .i64 k] wx fun e w' => e = .returned (.tuple #[.string S, .int .i64 E]) ∧ Below w.heap.size w w'))
    (H2 : Hid (∀ wx, Below w.heap.size w wx → Calls Tryd.prog 10 #[.int .i64 b, .int .i64 k] wx fun e w' => e = .returned (.tuple #[.string T, .int .i64 F]) ∧ Below w.heap.size w w'))
    (H4 : Hid (∀ wx, Below w.heap.size w wx → Calls Tryd.prog 12 #[.string s] wx fun e w' => e = .returned (.tuple #[.int .i64 (b0 : Nat), .int .i64 (k0 : Nat), .bool true]) ∧ Below w.heap.size w w'))
    (H5 : Hid (∀ wx, Below w.heap.size w wx → Calls Tryd.prog 10 #[.int .i64 (b0 : Nat), .int .i64 (k0 : Nat)] wx fun e w' => e = .returned (.tuple #[.string s, .int .i64 0]) ∧ Below w.heap.size w w')) :
    Calls Tryd.prog 7 #[.int .i64 a, .int .i64 b, .int .i64 k, .string s] w fun e w' => e = .returned (.bool true) ∧ Below w.heap.size w w' := by
  have c9 := c2
  clear c9
  go_enter Tryd.func7, Tryd.ntmps7
  go_wp2_with (first | (go_at_call 9; refine HA.out.mono ?_; rintro e w1 ⟨rfl, hb1⟩) | (go_at_call 10; with_reducible refine (H1.out _ hb1).mono ?_; rintro e w2 ⟨rfl, hb2⟩) | (go_at_call 10; with_reducible refine (H2.out _ hb2).mono ?_; rintro e w3 ⟨rfl, hb3⟩) | (go_at_call 12; with_reducible refine (H4.out _ hb3).mono ?_; rintro e w5 ⟨rfl, hb5⟩) | (go_at_call 10; with_reducible refine (H5.out _ hb5).mono ?_; rintro e w6 ⟨rfl, hb6⟩))
  go_ret
  exact ⟨rfl, hb6⟩
theorem back_walk (a b k : Int) (s : ByteArray) (w : World) (G : Gd w) (hs : s.size ≤ 140737488355328) :
    Calls Tryd.prog 7 #[.int .i64 a, .int .i64 b, .int .i64 k, .string s] w fun e w' => e = .returned (.bool true) ∧ Below w.heap.size w w' := by
  have HA := hid (awake_any w G)
  have HN : ∀ (x y : Int) (wx : World), Below w.heap.size w wx → Calls Tryd.prog 10 #[.int .i64 x, .int .i64 y] wx fun e w' => e = .returned (.tuple #[.string (nmV x y).1, .int .i64 (nmV x y).2]) ∧ Below w.heap.size w w' := fun x y wx hx => by
    refine (name_any x y wx (G.kept hx (Nat.le_refl _))).mono ?_
    rintro e w' ⟨rfl, hb⟩
    exact ⟨rfl, hx.trans (hb.mono hx.size)⟩
  have HP : ∀ (t : ByteArray) (wx : World), t.size ≤ 140737488355328 → Below w.heap.size w wx → Calls Tryd.prog 12 #[.string t] wx fun e w' => e = .returned (prV (prs t.data.toList)) ∧ Below w.heap.size w w' := fun t wx ht hx => by
    refine (parse_any t wx ht (G.kept hx (Nat.le_refl _))).mono ?_
    rintro e w' ⟨rfl, hb⟩
    exact ⟨rfl, hx.trans (hb.mono hx.size)⟩
  have H1 := hid (HN a k)
  have H2 := hid (HN b k)
  have H4 := hid (fun wx hx => HP s wx hs hx)
  have nE : ∀ x : Int, (x < 0 ∨ 4611686018427387904 < x ∨ k < 0 ∨ 2 < k) → ((nmV x k).2 == 0) = false := fun x h => beq_false_of_ne (nmV_bad x k h)
  have nZ : ∀ x : Int, 0 ≤ x → x ≤ 4611686018427387904 → 0 ≤ k → k ≤ 2 → (nmV x k) = (ba (nm x.toNat k.toNat), 0) := fun x h1 h2 h3 h4 => by
    unfold nmV
    rw [if_neg (by omega), if_neg (by omega)]
  have h3 : 0 ≤ a → a ≤ 4611686018427387904 → 0 ≤ k → k ≤ 2 → Hid (∀ wx, Below w.heap.size w wx → Calls Tryd.prog 12 #[.string (nmV a k).1] wx fun e w' => e = .returned (.tuple #[.int .i64 a, .int .i64 k, .bool true]) ∧ Below w.heap.size w w') := fun x1 x2 x3 x4 wx hx => by
    rw [nZ a x1 x2 x3 x4]
    have := HP (ba (nm a.toNat k.toNat)) wx (by rw [ba_size, nm_len]; decide) hx
    rw [show (ba (nm a.toNat k.toNat)).data.toList = nm a.toNat k.toNat from rfl, prs_nm (by omega) (by omega)] at this
    refine this.mono ?_
    rintro e w' ⟨rfl, hb⟩
    refine ⟨?_, hb⟩
    simp only [prV]
    rw [Int.toNat_of_nonneg x1, Int.toNat_of_nonneg x3]
  have hl : 0 ≤ a → a ≤ 4611686018427387904 → 0 ≤ k → k ≤ 2 → (nmV a k).1.size = 24 := fun x1 x2 x3 x4 => by rw [nZ a x1 x2 x3 x4, ba_size, nm_len]
  have hq : 0 ≤ a → a ≤ 4611686018427387904 → 0 ≤ b → b ≤ 4611686018427387904 → 0 ≤ k → k ≤ 2 → Op.bytesLess (nmV a k).1.toList (nmV b k).1.toList = decide (a < b) := fun x1 x2 y1 y2 x3 x4 => by
    rw [nZ a x1 x2 x3 x4, nZ b y1 y2 x3 x4, bl_nm (by omega) (by omega)]
    apply decide_eq_decide.2
    omega
  cases hP : prs s.data.toList with
  | none =>
    rw [hP] at H4
    simp only [prV] at H4
    rcases Int.lt_or_le k 0 with c2 | c0
    · rcases Int.lt_or_le a 0 with a2 | a0
      · rcases Int.lt_or_le b 0 with b2 | b0p
        · exact bk4xxxn a b k s _ _ _ _ w a2 b2 c2 (nE a (by omega)) (nE b (by omega)) HA H1 H2 H4
        · rcases Int.lt_or_le 4611686018427387904 b with b2 | b1
          · exact bk4xyxn a b k s _ _ _ _ w a2 b0p b2 c2 (nE a (by omega)) (nE b (by omega)) HA H1 H2 H4
          · exact bk4xzxn a b k s _ _ _ _ w a2 b0p b1 c2 (nE a (by omega)) (nE b (by omega)) HA H1 H2 H4
      · rcases Int.lt_or_le 4611686018427387904 a with a2 | a1
        · rcases Int.lt_or_le b 0 with b2 | b0p
          · exact bk4yxxn a b k s _ _ _ _ w a0 a2 b2 c2 (nE a (by omega)) (nE b (by omega)) HA H1 H2 H4
          · rcases Int.lt_or_le 4611686018427387904 b with b2 | b1
            · exact bk4yyxn a b k s _ _ _ _ w a0 a2 b0p b2 c2 (nE a (by omega)) (nE b (by omega)) HA H1 H2 H4
            · exact bk4yzxn a b k s _ _ _ _ w a0 a2 b0p b1 c2 (nE a (by omega)) (nE b (by omega)) HA H1 H2 H4
        · rcases Int.lt_or_le b 0 with b2 | b0p
          · exact bk4zxxn a b k s _ _ _ _ w a0 a1 b2 c2 (nE a (by omega)) (nE b (by omega)) HA H1 H2 H4
          · rcases Int.lt_or_le 4611686018427387904 b with b2 | b1
            · exact bk4zyxn a b k s _ _ _ _ w a0 a1 b0p b2 c2 (nE a (by omega)) (nE b (by omega)) HA H1 H2 H4
            · exact bk4zzxn a b k s _ _ _ _ w a0 a1 b0p b1 c2 (nE a (by omega)) (nE b (by omega)) HA H1 H2 H4
    · rcases Int.lt_or_le 2 k with c2 | c1
      · rcases Int.lt_or_le a 0 with a2 | a0
        · rcases Int.lt_or_le b 0 with b2 | b0p
          · exact bk4xxyn a b k s _ _ _ _ w a2 b2 c0 c2 (nE a (by omega)) (nE b (by omega)) HA H1 H2 H4
          · rcases Int.lt_or_le 4611686018427387904 b with b2 | b1
            · exact bk4xyyn a b k s _ _ _ _ w a2 b0p b2 c0 c2 (nE a (by omega)) (nE b (by omega)) HA H1 H2 H4
            · exact bk4xzyn a b k s _ _ _ _ w a2 b0p b1 c0 c2 (nE a (by omega)) (nE b (by omega)) HA H1 H2 H4
        · rcases Int.lt_or_le 4611686018427387904 a with a2 | a1
          · rcases Int.lt_or_le b 0 with b2 | b0p
            · exact bk4yxyn a b k s _ _ _ _ w a0 a2 b2 c0 c2 (nE a (by omega)) (nE b (by omega)) HA H1 H2 H4
            · rcases Int.lt_or_le 4611686018427387904 b with b2 | b1
              · exact bk4yyyn a b k s _ _ _ _ w a0 a2 b0p b2 c0 c2 (nE a (by omega)) (nE b (by omega)) HA H1 H2 H4
              · exact bk4yzyn a b k s _ _ _ _ w a0 a2 b0p b1 c0 c2 (nE a (by omega)) (nE b (by omega)) HA H1 H2 H4
          · rcases Int.lt_or_le b 0 with b2 | b0p
            · exact bk4zxyn a b k s _ _ _ _ w a0 a1 b2 c0 c2 (nE a (by omega)) (nE b (by omega)) HA H1 H2 H4
            · rcases Int.lt_or_le 4611686018427387904 b with b2 | b1
              · exact bk4zyyn a b k s _ _ _ _ w a0 a1 b0p b2 c0 c2 (nE a (by omega)) (nE b (by omega)) HA H1 H2 H4
              · exact bk4zzyn a b k s _ _ _ _ w a0 a1 b0p b1 c0 c2 (nE a (by omega)) (nE b (by omega)) HA H1 H2 H4
      · rcases Int.lt_or_le a 0 with a2 | a0
        · rcases Int.lt_or_le b 0 with b2 | b0p
          · exact bk4xxzn a b k s _ _ _ _ w a2 b2 c0 c1 (nE a (by omega)) (nE b (by omega)) HA H1 H2 H4
          · rcases Int.lt_or_le 4611686018427387904 b with b2 | b1
            · exact bk4xyzn a b k s _ _ _ _ w a2 b0p b2 c0 c1 (nE a (by omega)) (nE b (by omega)) HA H1 H2 H4
            · exact bk4xzzn a b k s _ _ _ _ w a2 b0p b1 c0 c1 (nE a (by omega)) (by rw [nZ b b0p b1 c0 c1]) HA H1 H2 H4
        · rcases Int.lt_or_le 4611686018427387904 a with a2 | a1
          · rcases Int.lt_or_le b 0 with b2 | b0p
            · exact bk4yxzn a b k s _ _ _ _ w a0 a2 b2 c0 c1 (nE a (by omega)) (nE b (by omega)) HA H1 H2 H4
            · rcases Int.lt_or_le 4611686018427387904 b with b2 | b1
              · exact bk4yyzn a b k s _ _ _ _ w a0 a2 b0p b2 c0 c1 (nE a (by omega)) (nE b (by omega)) HA H1 H2 H4
              · exact bk4yzzn a b k s _ _ _ _ w a0 a2 b0p b1 c0 c1 (nE a (by omega)) (by rw [nZ b b0p b1 c0 c1]) HA H1 H2 H4
          · rcases Int.lt_or_le b 0 with b2 | b0p
            · exact bk2an a b k s _ _ _ _ w a0 a1 b2 c0 c1 (by rw [nZ a a0 a1 c0 c1]) (nE b (by omega)) (h3 a0 a1 c0 c1) (hl a0 a1 c0 c1) HA H1 H2 H4
            · rcases Int.lt_or_le 4611686018427387904 b with b2 | b1
              · exact bk2bn a b k s _ _ _ _ w a0 a1 b0p b2 c0 c1 (by rw [nZ a a0 a1 c0 c1]) (nE b (by omega)) (h3 a0 a1 c0 c1) (hl a0 a1 c0 c1) HA H1 H2 H4
              · exact bk1n a b k s _ _ _ _ w a0 a1 b0p b1 c0 c1 (by rw [nZ a a0 a1 c0 c1]) (by rw [nZ b b0p b1 c0 c1]) (hq a0 a1 b0p b1 c0 c1) (h3 a0 a1 c0 c1) (hl a0 a1 c0 c1) HA H1 H2 H4
  | some bk =>
    obtain ⟨b0, k0⟩ := bk
    obtain ⟨y1, y2, y3⟩ := prs_some hP
    rw [hP] at H4
    simp only [prV] at H4
    have hsn : s = ba (nm b0 k0) := by rw [← y3, ba_of]
    have H5 : Hid (∀ wx, Below w.heap.size w wx → Calls Tryd.prog 10 #[.int .i64 (b0 : Nat), .int .i64 (k0 : Nat)] wx fun e w' => e = .returned (.tuple #[.string s, .int .i64 0]) ∧ Below w.heap.size w w') := fun wx hx => by
      have := HN b0 k0 wx hx
      rw [nmV_good b0 k0 y1 y2, ← hsn] at this
      exact this
    rcases Int.lt_or_le k 0 with c2 | c0
    · rcases Int.lt_or_le a 0 with a2 | a0
      · rcases Int.lt_or_le b 0 with b2 | b0p
        · exact bk4xxxs a b k s _ _ _ _ w b0 k0 a2 b2 c2 (nE a (by omega)) (nE b (by omega)) HA H1 H2 H4 H5
        · rcases Int.lt_or_le 4611686018427387904 b with b2 | b1
          · exact bk4xyxs a b k s _ _ _ _ w b0 k0 a2 b0p b2 c2 (nE a (by omega)) (nE b (by omega)) HA H1 H2 H4 H5
          · exact bk4xzxs a b k s _ _ _ _ w b0 k0 a2 b0p b1 c2 (nE a (by omega)) (nE b (by omega)) HA H1 H2 H4 H5
      · rcases Int.lt_or_le 4611686018427387904 a with a2 | a1
        · rcases Int.lt_or_le b 0 with b2 | b0p
          · exact bk4yxxs a b k s _ _ _ _ w b0 k0 a0 a2 b2 c2 (nE a (by omega)) (nE b (by omega)) HA H1 H2 H4 H5
          · rcases Int.lt_or_le 4611686018427387904 b with b2 | b1
            · exact bk4yyxs a b k s _ _ _ _ w b0 k0 a0 a2 b0p b2 c2 (nE a (by omega)) (nE b (by omega)) HA H1 H2 H4 H5
            · exact bk4yzxs a b k s _ _ _ _ w b0 k0 a0 a2 b0p b1 c2 (nE a (by omega)) (nE b (by omega)) HA H1 H2 H4 H5
        · rcases Int.lt_or_le b 0 with b2 | b0p
          · exact bk4zxxs a b k s _ _ _ _ w b0 k0 a0 a1 b2 c2 (nE a (by omega)) (nE b (by omega)) HA H1 H2 H4 H5
          · rcases Int.lt_or_le 4611686018427387904 b with b2 | b1
            · exact bk4zyxs a b k s _ _ _ _ w b0 k0 a0 a1 b0p b2 c2 (nE a (by omega)) (nE b (by omega)) HA H1 H2 H4 H5
            · exact bk4zzxs a b k s _ _ _ _ w b0 k0 a0 a1 b0p b1 c2 (nE a (by omega)) (nE b (by omega)) HA H1 H2 H4 H5
    · rcases Int.lt_or_le 2 k with c2 | c1
      · rcases Int.lt_or_le a 0 with a2 | a0
        · rcases Int.lt_or_le b 0 with b2 | b0p
          · exact bk4xxys a b k s _ _ _ _ w b0 k0 a2 b2 c0 c2 (nE a (by omega)) (nE b (by omega)) HA H1 H2 H4 H5
          · rcases Int.lt_or_le 4611686018427387904 b with b2 | b1
            · exact bk4xyys a b k s _ _ _ _ w b0 k0 a2 b0p b2 c0 c2 (nE a (by omega)) (nE b (by omega)) HA H1 H2 H4 H5
            · exact bk4xzys a b k s _ _ _ _ w b0 k0 a2 b0p b1 c0 c2 (nE a (by omega)) (nE b (by omega)) HA H1 H2 H4 H5
        · rcases Int.lt_or_le 4611686018427387904 a with a2 | a1
          · rcases Int.lt_or_le b 0 with b2 | b0p
            · exact bk4yxys a b k s _ _ _ _ w b0 k0 a0 a2 b2 c0 c2 (nE a (by omega)) (nE b (by omega)) HA H1 H2 H4 H5
            · rcases Int.lt_or_le 4611686018427387904 b with b2 | b1
              · exact bk4yyys a b k s _ _ _ _ w b0 k0 a0 a2 b0p b2 c0 c2 (nE a (by omega)) (nE b (by omega)) HA H1 H2 H4 H5
              · exact bk4yzys a b k s _ _ _ _ w b0 k0 a0 a2 b0p b1 c0 c2 (nE a (by omega)) (nE b (by omega)) HA H1 H2 H4 H5
          · rcases Int.lt_or_le b 0 with b2 | b0p
            · exact bk4zxys a b k s _ _ _ _ w b0 k0 a0 a1 b2 c0 c2 (nE a (by omega)) (nE b (by omega)) HA H1 H2 H4 H5
            · rcases Int.lt_or_le 4611686018427387904 b with b2 | b1
              · exact bk4zyys a b k s _ _ _ _ w b0 k0 a0 a1 b0p b2 c0 c2 (nE a (by omega)) (nE b (by omega)) HA H1 H2 H4 H5
              · exact bk4zzys a b k s _ _ _ _ w b0 k0 a0 a1 b0p b1 c0 c2 (nE a (by omega)) (nE b (by omega)) HA H1 H2 H4 H5
      · rcases Int.lt_or_le a 0 with a2 | a0
        · rcases Int.lt_or_le b 0 with b2 | b0p
          · exact bk4xxzs a b k s _ _ _ _ w b0 k0 a2 b2 c0 c1 (nE a (by omega)) (nE b (by omega)) HA H1 H2 H4 H5
          · rcases Int.lt_or_le 4611686018427387904 b with b2 | b1
            · exact bk4xyzs a b k s _ _ _ _ w b0 k0 a2 b0p b2 c0 c1 (nE a (by omega)) (nE b (by omega)) HA H1 H2 H4 H5
            · exact bk4xzzs a b k s _ _ _ _ w b0 k0 a2 b0p b1 c0 c1 (nE a (by omega)) (by rw [nZ b b0p b1 c0 c1]) HA H1 H2 H4 H5
        · rcases Int.lt_or_le 4611686018427387904 a with a2 | a1
          · rcases Int.lt_or_le b 0 with b2 | b0p
            · exact bk4yxzs a b k s _ _ _ _ w b0 k0 a0 a2 b2 c0 c1 (nE a (by omega)) (nE b (by omega)) HA H1 H2 H4 H5
            · rcases Int.lt_or_le 4611686018427387904 b with b2 | b1
              · exact bk4yyzs a b k s _ _ _ _ w b0 k0 a0 a2 b0p b2 c0 c1 (nE a (by omega)) (nE b (by omega)) HA H1 H2 H4 H5
              · exact bk4yzzs a b k s _ _ _ _ w b0 k0 a0 a2 b0p b1 c0 c1 (nE a (by omega)) (by rw [nZ b b0p b1 c0 c1]) HA H1 H2 H4 H5
          · rcases Int.lt_or_le b 0 with b2 | b0p
            · exact bk2as a b k s _ _ _ _ w b0 k0 a0 a1 b2 c0 c1 (by rw [nZ a a0 a1 c0 c1]) (nE b (by omega)) (h3 a0 a1 c0 c1) (hl a0 a1 c0 c1) HA H1 H2 H4 H5
            · rcases Int.lt_or_le 4611686018427387904 b with b2 | b1
              · exact bk2bs a b k s _ _ _ _ w b0 k0 a0 a1 b0p b2 c0 c1 (by rw [nZ a a0 a1 c0 c1]) (nE b (by omega)) (h3 a0 a1 c0 c1) (hl a0 a1 c0 c1) HA H1 H2 H4 H5
              · exact bk1s a b k s _ _ _ _ w b0 k0 a0 a1 b0p b1 c0 c1 (by rw [nZ a a0 a1 c0 c1]) (by rw [nZ b b0p b1 c0 c1]) (hq a0 a1 b0p b1 c0 c1) (h3 a0 a1 c0 c1) (hl a0 a1 c0 c1) HA H1 H2 H4 H5
end Go.Proofs.YtgffipkbbenddaaDoor
