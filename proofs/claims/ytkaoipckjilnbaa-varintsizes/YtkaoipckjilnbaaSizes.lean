/- The walk of VarintSizes: it answers true at all numbers; nothing that was there before is turned. -/
import Derived.Test.YtkaoipckjilnbaaFixed
namespace Go.Proofs.Ytkaoipckjilnbaa
open Go.RowKit
theorem size_up {v : Nat} : v < 128 ^ M.size v ∨ M.size v = 10 := by
  by_cases h : M.size v = 10
  · exact Or.inr h
  · left
    have h1 := M.form_le v
    by_cases hlt : v < 128 ^ M.size v
    · exact hlt
    · have := M.size_ge (k := M.size v) (v := v) (by omega) 9 (by unfold M.size at h ⊢; omega)
      unfold M.size M.form at this; omega
theorem size_dn {v : Nat} (h : 1 < M.size v) : 128 ^ (M.size v - 1) ≤ v := by
  by_cases hlt : v < 128 ^ (M.size v - 1)
  · have := M.size_lt (k := M.size v - 1) (v := v) (by omega) hlt 9
    unfold M.size M.form at this h; omega
  · omega
theorem size_mono {a b : Nat} (h : a ≤ b) : M.size a ≤ M.size b := by
  have h1 := M.form_le b
  have h0 := M.form_pos b
  rcases size_up (v := b) with hb | hb
  · exact M.size_lt (k := M.size b) (by unfold M.size; omega) (by omega) 9
  · rw [hb]; exact M.form_le a
theorem sh_up {a : Int} {n : Nat} (h0 : 0 ≤ a) (hn : M.size a.toNat = n) (h : n < 10) : a / 2 ^ (7 * n) = 0 := by
  rcases size_up (v := a.toNat) with hb | hb
  · rw [hn] at hb
    rw [p7]
    exact Int.ediv_eq_zero_of_lt h0 (by omega)
  · omega
theorem sh_dn {a : Int} {n : Nat} (h0 : 0 ≤ a) (hn : M.size a.toNat = n) (h : 1 < n) : (a / 2 ^ (7 * (n - 1)) == 0) = false := by
  have hd := size_dn (v := a.toNat) (by omega)
  rw [hn] at hd
  have hp : 0 < 128 ^ (n - 1) := Nat.pow_pos (by omega)
  rw [p7, beq_eq_false_iff_ne]
  intro e
  have h3 := Int.lt_ediv_add_one_mul_self a (b := ((128 ^ (n - 1) : Nat) : Int)) (by omega)
  rw [e] at h3
  omega
theorem par_pos {v : Int} (h : 0 ≤ v) : (M.zz v % 2 == 1) = false := by rw [beq_eq_false_iff_ne]; unfold M.zz; rw [if_pos h]; omega
theorem par_neg {v : Int} (h : v < 0) : (M.zz v % 2 == 1) = true := by rw [beq_iff_eq]; unfold M.zz; rw [if_neg (by omega)]; omega
theorem zz_next {v : Int} (h : v < 0) : M.zz v = M.zz (-(v + 1)) + 1 := by unfold M.zz; rw [if_neg (by omega), if_pos (by omega)]; omega
set_option maxHeartbeats 2000000 in
set_option maxRecDepth 20000 in
theorem sizes_mid0 (a b v : Int) (w : World) (ha1 : 0 ≤ a) (ha2 : a ≤ 18446744073709551615) (hb1 : 0 ≤ b) (hb2 : b ≤ 18446744073709551615) (hv1 : -9223372036854775808 ≤ v) (hv2 : v ≤ 9223372036854775807) (hab : a ≤ b)
    (n m : Nat) (hn : M.size a.toNat = n) (hm : M.size b.toNat = m) (hnm : n ≤ m) (hn1 : 1 < n) (hn10 : n < 10) (hd1 : a / 2 ^ (7 * n) = 0) (hd2 : (a / 2 ^ (7 * (n - 1)) == 0) = false) :
    Calls Try.prog 8 #[.int .u64 a, .int .u64 b, .int .i64 v] w fun e w' => e = .returned (.bool true) ∧ Below w.heap.size w w' := by
  have hz := M.zz_bd hv1 hv2
  have hu := M.uz_bd ha1 ha2
  have e1 := M.uz_zz v
  have e2 := M.zz_uz a ha1
  by_cases hv : 0 ≤ v
  · have hp := par_pos hv
    go_enter Try.func8, Try.ntmps8
    go_wp2_with (first | (go_at_call 9; refine (fixed_any _).mono ?_; rintro e w' ⟨rfl, hbel⟩) | (go_at_call 17; refine (size_any _ _ (by assumption) (by assumption)).mono ?_; rintro e w' ⟨rfl, rfl⟩) | (go_at_call 22; refine (zz_any _ _ (by omega) (by omega)).mono ?_; rintro e w' ⟨rfl, rfl⟩) | (go_at_call 19; refine (uz_any _ _ (by omega) (by omega)).mono ?_; rintro e w' ⟨rfl, rfl⟩))
    go_ret
    exact ⟨rfl, by assumption⟩
  · have hv' : v < 0 := by omega
    have hp := par_neg hv'
    have hx := (zz_next hv').symm
    have hz3 := M.zz_bd (v := -(v + 1)) (by omega) (by omega)
    have hz4 : M.zz (-(v + 1)) + 1 ≤ 18446744073709551615 := by rw [hx]; exact hz.2
    go_enter Try.func8, Try.ntmps8
    go_wp2_with (first | (go_at_call 9; refine (fixed_any _).mono ?_; rintro e w' ⟨rfl, hbel⟩) | (go_at_call 17; refine (size_any _ _ (by assumption) (by assumption)).mono ?_; rintro e w' ⟨rfl, rfl⟩) | (go_at_call 22; refine (zz_any _ _ (by omega) (by omega)).mono ?_; rintro e w' ⟨rfl, rfl⟩) | (go_at_call 19; refine (uz_any _ _ (by omega) (by omega)).mono ?_; rintro e w' ⟨rfl, rfl⟩))
    go_ret
    exact ⟨rfl, by assumption⟩
set_option maxHeartbeats 2000000 in
set_option maxRecDepth 20000 in
theorem sizes_one0 (a b v : Int) (w : World) (ha1 : 0 ≤ a) (ha2 : a ≤ 18446744073709551615) (hb1 : 0 ≤ b) (hb2 : b ≤ 18446744073709551615) (hv1 : -9223372036854775808 ≤ v) (hv2 : v ≤ 9223372036854775807) (hab : a ≤ b)
    (m : Nat) (hn : M.size a.toNat = 1) (hm : M.size b.toNat = m) (hnm : 1 ≤ m) (hd1 : a < 128) :
    Calls Try.prog 8 #[.int .u64 a, .int .u64 b, .int .i64 v] w fun e w' => e = .returned (.bool true) ∧ Below w.heap.size w w' := by
  have hz := M.zz_bd hv1 hv2
  have hu := M.uz_bd ha1 ha2
  have e1 := M.uz_zz v
  have e2 := M.zz_uz a ha1
  by_cases hv : 0 ≤ v
  · have hp := par_pos hv
    go_enter Try.func8, Try.ntmps8
    go_wp2_with (first | (go_at_call 9; refine (fixed_any _).mono ?_; rintro e w' ⟨rfl, hbel⟩) | (go_at_call 17; refine (size_any _ _ (by assumption) (by assumption)).mono ?_; rintro e w' ⟨rfl, rfl⟩) | (go_at_call 22; refine (zz_any _ _ (by omega) (by omega)).mono ?_; rintro e w' ⟨rfl, rfl⟩) | (go_at_call 19; refine (uz_any _ _ (by omega) (by omega)).mono ?_; rintro e w' ⟨rfl, rfl⟩))
    go_ret
    exact ⟨rfl, by assumption⟩
  · have hv' : v < 0 := by omega
    have hp := par_neg hv'
    have hx := (zz_next hv').symm
    have hz3 := M.zz_bd (v := -(v + 1)) (by omega) (by omega)
    have hz4 : M.zz (-(v + 1)) + 1 ≤ 18446744073709551615 := by rw [hx]; exact hz.2
    go_enter Try.func8, Try.ntmps8
    go_wp2_with (first | (go_at_call 9; refine (fixed_any _).mono ?_; rintro e w' ⟨rfl, hbel⟩) | (go_at_call 17; refine (size_any _ _ (by assumption) (by assumption)).mono ?_; rintro e w' ⟨rfl, rfl⟩) | (go_at_call 22; refine (zz_any _ _ (by omega) (by omega)).mono ?_; rintro e w' ⟨rfl, rfl⟩) | (go_at_call 19; refine (uz_any _ _ (by omega) (by omega)).mono ?_; rintro e w' ⟨rfl, rfl⟩))
    go_ret
    exact ⟨rfl, by assumption⟩
set_option maxHeartbeats 2000000 in
set_option maxRecDepth 20000 in
theorem sizes_ten0 (a b v : Int) (w : World) (ha1 : 0 ≤ a) (ha2 : a ≤ 18446744073709551615) (hb1 : 0 ≤ b) (hb2 : b ≤ 18446744073709551615) (hv1 : -9223372036854775808 ≤ v) (hv2 : v ≤ 9223372036854775807) (hab : a ≤ b)
    (m : Nat) (hn : M.size a.toNat = 10) (hm : M.size b.toNat = m) (hnm : 10 ≤ m) (hd2 : (a / 9223372036854775808 == 0) = false) :
    Calls Try.prog 8 #[.int .u64 a, .int .u64 b, .int .i64 v] w fun e w' => e = .returned (.bool true) ∧ Below w.heap.size w w' := by
  have hz := M.zz_bd hv1 hv2
  have hu := M.uz_bd ha1 ha2
  have e1 := M.uz_zz v
  have e2 := M.zz_uz a ha1
  by_cases hv : 0 ≤ v
  · have hp := par_pos hv
    go_enter Try.func8, Try.ntmps8
    go_wp2_with (first | (go_at_call 9; refine (fixed_any _).mono ?_; rintro e w' ⟨rfl, hbel⟩) | (go_at_call 17; refine (size_any _ _ (by assumption) (by assumption)).mono ?_; rintro e w' ⟨rfl, rfl⟩) | (go_at_call 22; refine (zz_any _ _ (by omega) (by omega)).mono ?_; rintro e w' ⟨rfl, rfl⟩) | (go_at_call 19; refine (uz_any _ _ (by omega) (by omega)).mono ?_; rintro e w' ⟨rfl, rfl⟩))
    go_ret
    exact ⟨rfl, by assumption⟩
  · have hv' : v < 0 := by omega
    have hp := par_neg hv'
    have hx := (zz_next hv').symm
    have hz3 := M.zz_bd (v := -(v + 1)) (by omega) (by omega)
    have hz4 : M.zz (-(v + 1)) + 1 ≤ 18446744073709551615 := by rw [hx]; exact hz.2
    go_enter Try.func8, Try.ntmps8
    go_wp2_with (first | (go_at_call 9; refine (fixed_any _).mono ?_; rintro e w' ⟨rfl, hbel⟩) | (go_at_call 17; refine (size_any _ _ (by assumption) (by assumption)).mono ?_; rintro e w' ⟨rfl, rfl⟩) | (go_at_call 22; refine (zz_any _ _ (by omega) (by omega)).mono ?_; rintro e w' ⟨rfl, rfl⟩) | (go_at_call 19; refine (uz_any _ _ (by omega) (by omega)).mono ?_; rintro e w' ⟨rfl, rfl⟩))
    go_ret
    exact ⟨rfl, by assumption⟩
set_option maxHeartbeats 2000000 in
set_option maxRecDepth 20000 in
theorem sizes_mid1 (a b v : Int) (w : World) (ha1 : 0 ≤ a) (ha2 : a ≤ 18446744073709551615) (hb1 : 0 ≤ b) (hb2 : b ≤ 18446744073709551615) (hv1 : -9223372036854775808 ≤ v) (hv2 : v ≤ 9223372036854775807) (hab : a < b)
    (n m : Nat) (hn : M.size a.toNat = n) (hm : M.size b.toNat = m) (hnm : n ≤ m) (hn1 : 1 < n) (hn10 : n < 10) (hd1 : a / 2 ^ (7 * n) = 0) (hd2 : (a / 2 ^ (7 * (n - 1)) == 0) = false) :
    Calls Try.prog 8 #[.int .u64 b, .int .u64 a, .int .i64 v] w fun e w' => e = .returned (.bool true) ∧ Below w.heap.size w w' := by
  have hz := M.zz_bd hv1 hv2
  have hu := M.uz_bd ha1 ha2
  have e1 := M.uz_zz v
  have e2 := M.zz_uz a ha1
  by_cases hv : 0 ≤ v
  · have hp := par_pos hv
    go_enter Try.func8, Try.ntmps8
    go_wp2_with (first | (go_at_call 9; refine (fixed_any _).mono ?_; rintro e w' ⟨rfl, hbel⟩) | (go_at_call 17; refine (size_any _ _ (by assumption) (by assumption)).mono ?_; rintro e w' ⟨rfl, rfl⟩) | (go_at_call 22; refine (zz_any _ _ (by omega) (by omega)).mono ?_; rintro e w' ⟨rfl, rfl⟩) | (go_at_call 19; refine (uz_any _ _ (by omega) (by omega)).mono ?_; rintro e w' ⟨rfl, rfl⟩))
    go_ret
    exact ⟨rfl, by assumption⟩
  · have hv' : v < 0 := by omega
    have hp := par_neg hv'
    have hx := (zz_next hv').symm
    have hz3 := M.zz_bd (v := -(v + 1)) (by omega) (by omega)
    have hz4 : M.zz (-(v + 1)) + 1 ≤ 18446744073709551615 := by rw [hx]; exact hz.2
    go_enter Try.func8, Try.ntmps8
    go_wp2_with (first | (go_at_call 9; refine (fixed_any _).mono ?_; rintro e w' ⟨rfl, hbel⟩) | (go_at_call 17; refine (size_any _ _ (by assumption) (by assumption)).mono ?_; rintro e w' ⟨rfl, rfl⟩) | (go_at_call 22; refine (zz_any _ _ (by omega) (by omega)).mono ?_; rintro e w' ⟨rfl, rfl⟩) | (go_at_call 19; refine (uz_any _ _ (by omega) (by omega)).mono ?_; rintro e w' ⟨rfl, rfl⟩))
    go_ret
    exact ⟨rfl, by assumption⟩
set_option maxHeartbeats 2000000 in
set_option maxRecDepth 20000 in
theorem sizes_one1 (a b v : Int) (w : World) (ha1 : 0 ≤ a) (ha2 : a ≤ 18446744073709551615) (hb1 : 0 ≤ b) (hb2 : b ≤ 18446744073709551615) (hv1 : -9223372036854775808 ≤ v) (hv2 : v ≤ 9223372036854775807) (hab : a < b)
    (m : Nat) (hn : M.size a.toNat = 1) (hm : M.size b.toNat = m) (hnm : 1 ≤ m) (hd1 : a < 128) :
    Calls Try.prog 8 #[.int .u64 b, .int .u64 a, .int .i64 v] w fun e w' => e = .returned (.bool true) ∧ Below w.heap.size w w' := by
  have hz := M.zz_bd hv1 hv2
  have hu := M.uz_bd ha1 ha2
  have e1 := M.uz_zz v
  have e2 := M.zz_uz a ha1
  by_cases hv : 0 ≤ v
  · have hp := par_pos hv
    go_enter Try.func8, Try.ntmps8
    go_wp2_with (first | (go_at_call 9; refine (fixed_any _).mono ?_; rintro e w' ⟨rfl, hbel⟩) | (go_at_call 17; refine (size_any _ _ (by assumption) (by assumption)).mono ?_; rintro e w' ⟨rfl, rfl⟩) | (go_at_call 22; refine (zz_any _ _ (by omega) (by omega)).mono ?_; rintro e w' ⟨rfl, rfl⟩) | (go_at_call 19; refine (uz_any _ _ (by omega) (by omega)).mono ?_; rintro e w' ⟨rfl, rfl⟩))
    go_ret
    exact ⟨rfl, by assumption⟩
  · have hv' : v < 0 := by omega
    have hp := par_neg hv'
    have hx := (zz_next hv').symm
    have hz3 := M.zz_bd (v := -(v + 1)) (by omega) (by omega)
    have hz4 : M.zz (-(v + 1)) + 1 ≤ 18446744073709551615 := by rw [hx]; exact hz.2
    go_enter Try.func8, Try.ntmps8
    go_wp2_with (first | (go_at_call 9; refine (fixed_any _).mono ?_; rintro e w' ⟨rfl, hbel⟩) | (go_at_call 17; refine (size_any _ _ (by assumption) (by assumption)).mono ?_; rintro e w' ⟨rfl, rfl⟩) | (go_at_call 22; refine (zz_any _ _ (by omega) (by omega)).mono ?_; rintro e w' ⟨rfl, rfl⟩) | (go_at_call 19; refine (uz_any _ _ (by omega) (by omega)).mono ?_; rintro e w' ⟨rfl, rfl⟩))
    go_ret
    exact ⟨rfl, by assumption⟩
set_option maxHeartbeats 2000000 in
set_option maxRecDepth 20000 in
theorem sizes_ten1 (a b v : Int) (w : World) (ha1 : 0 ≤ a) (ha2 : a ≤ 18446744073709551615) (hb1 : 0 ≤ b) (hb2 : b ≤ 18446744073709551615) (hv1 : -9223372036854775808 ≤ v) (hv2 : v ≤ 9223372036854775807) (hab : a < b)
    (m : Nat) (hn : M.size a.toNat = 10) (hm : M.size b.toNat = m) (hnm : 10 ≤ m) (hd2 : (a / 9223372036854775808 == 0) = false) :
    Calls Try.prog 8 #[.int .u64 b, .int .u64 a, .int .i64 v] w fun e w' => e = .returned (.bool true) ∧ Below w.heap.size w w' := by
  have hz := M.zz_bd hv1 hv2
  have hu := M.uz_bd ha1 ha2
  have e1 := M.uz_zz v
  have e2 := M.zz_uz a ha1
  by_cases hv : 0 ≤ v
  · have hp := par_pos hv
    go_enter Try.func8, Try.ntmps8
    go_wp2_with (first | (go_at_call 9; refine (fixed_any _).mono ?_; rintro e w' ⟨rfl, hbel⟩) | (go_at_call 17; refine (size_any _ _ (by assumption) (by assumption)).mono ?_; rintro e w' ⟨rfl, rfl⟩) | (go_at_call 22; refine (zz_any _ _ (by omega) (by omega)).mono ?_; rintro e w' ⟨rfl, rfl⟩) | (go_at_call 19; refine (uz_any _ _ (by omega) (by omega)).mono ?_; rintro e w' ⟨rfl, rfl⟩))
    go_ret
    exact ⟨rfl, by assumption⟩
  · have hv' : v < 0 := by omega
    have hp := par_neg hv'
    have hx := (zz_next hv').symm
    have hz3 := M.zz_bd (v := -(v + 1)) (by omega) (by omega)
    have hz4 : M.zz (-(v + 1)) + 1 ≤ 18446744073709551615 := by rw [hx]; exact hz.2
    go_enter Try.func8, Try.ntmps8
    go_wp2_with (first | (go_at_call 9; refine (fixed_any _).mono ?_; rintro e w' ⟨rfl, hbel⟩) | (go_at_call 17; refine (size_any _ _ (by assumption) (by assumption)).mono ?_; rintro e w' ⟨rfl, rfl⟩) | (go_at_call 22; refine (zz_any _ _ (by omega) (by omega)).mono ?_; rintro e w' ⟨rfl, rfl⟩) | (go_at_call 19; refine (uz_any _ _ (by omega) (by omega)).mono ?_; rintro e w' ⟨rfl, rfl⟩))
    go_ret
    exact ⟨rfl, by assumption⟩
theorem sizes_walk (a b v : Int) (w : World) (ha1 : 0 ≤ a) (ha2 : a ≤ 18446744073709551615) (hb1 : 0 ≤ b) (hb2 : b ≤ 18446744073709551615) (hv1 : -9223372036854775808 ≤ v) (hv2 : v ≤ 9223372036854775807) :
    Calls Try.prog 8 #[.int .u64 a, .int .u64 b, .int .i64 v] w fun e w' => e = .returned (.bool true) ∧ Below w.heap.size w w' := by
  by_cases hab : a ≤ b
  · have hm := size_mono (a := a.toNat) (b := b.toNat) (by omega)
    have h1 : 1 ≤ M.size a.toNat := M.form_pos _
    have h2 : M.size a.toNat ≤ 10 := M.form_le _
    by_cases e1 : M.size a.toNat = 1
    · have := sh_up ha1 e1 (by omega)
      exact sizes_one0 a b v w ha1 ha2 hb1 hb2 hv1 hv2 hab _ e1 rfl (by omega) (by omega)
    · by_cases e2 : M.size a.toNat = 10
      · exact sizes_ten0 a b v w ha1 ha2 hb1 hb2 hv1 hv2 hab _ e2 rfl (by omega) (sh_dn ha1 e2 (by omega))
      · exact sizes_mid0 a b v w ha1 ha2 hb1 hb2 hv1 hv2 hab _ _ rfl rfl hm (by omega) (by omega) (sh_up ha1 rfl (by omega)) (sh_dn ha1 rfl (by omega))
  · have hm := size_mono (a := b.toNat) (b := a.toNat) (by omega)
    have h1 : 1 ≤ M.size b.toNat := M.form_pos _
    have h2 : M.size b.toNat ≤ 10 := M.form_le _
    by_cases e1 : M.size b.toNat = 1
    · have := sh_up hb1 e1 (by omega)
      exact sizes_one1 b a v w hb1 hb2 ha1 ha2 hv1 hv2 (by omega) _ e1 rfl (by omega) (by omega)
    · by_cases e2 : M.size b.toNat = 10
      · exact sizes_ten1 b a v w hb1 hb2 ha1 ha2 hv1 hv2 (by omega) _ e2 rfl (by omega) (sh_dn hb1 e2 (by omega))
      · exact sizes_mid1 b a v w hb1 hb2 ha1 ha2 hv1 hv2 (by omega) _ _ rfl rfl hm (by omega) (by omega) (sh_up hb1 rfl (by omega)) (sh_dn hb1 rfl (by omega))
end Go.Proofs.Ytkaoipckjilnbaa
