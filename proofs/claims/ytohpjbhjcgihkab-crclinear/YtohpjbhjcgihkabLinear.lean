/- CrcLinear's walk: Join by its numbers alone; nothing that was there before is turned. -/
import Derived.Test.YtohpjbhjcgihkabAwake
namespace Go.Proofs.Ytohpjbhjcgihkab
open Go.RowKit
theorem hid {p : Prop} (h : p) : Hid p := h
set_option maxHeartbeats 4000000 in
set_option maxRecDepth 20000 in
theorem linear_walk (a b n : Nat) (w : World) (ha : a < 4294967296) (hb : b < 4294967296) (hn : n < 65536) :
    Calls Try.prog 5 #[.int .u32 a, .int .u32 b, .int .u16 n] w fun e w' => e = .returned (.bool true) ∧ Below w.heap.size w w' := by
  have x0 := xor_nat ha hb
  have xl := xlt ha hb
  have c1 := fun v => join_any 0 b n v (by omega) hb (by omega) (by omega)
  have c2 := fun v => join_any a b 0 v ha hb (by omega) (by omega)
  have c3 := fun v => join_any a b (-n) v ha hb (by omega) (by omega)
  have c4 := fun v => behind_any a b 0 v ha hb (by omega) (by omega)
  have lh : M.join a 0 (n / 2) < 4294967296 := M.join_lt ha (by omega)
  have c5 := fun v => join_any a 0 ((n / 2 : Nat) : Int) v ha (by omega) (by omega) (by omega)
  have c6 := fun v => join_any (M.join a 0 (n / 2)) b ((n - n / 2 : Nat) : Int) v lh hb (by omega) (by omega)
  have c7 := fun v => join_any a b n v ha hb (by omega) (by omega)
  have lj : M.join a b n < 4294967296 := M.join_lt ha hb
  have c8 := fun v => behind_any a (M.join a b n) n v ha lj (by omega) (by omega)
  have e1 : M.join 0 b (n : Int).toNat = b := by unfold M.join; rw [M.zer_nul, Nat.zero_xor]
  have e2 : M.join a b (0 : Int).toNat = a ^^^ b := rfl
  have e3 : M.join a b (-(n : Int)).toNat = a ^^^ b := by rw [show (-(n : Int)).toNat = 0 by omega]; rfl
  have e6 : M.join (M.join a 0 (n / 2)) b ((n - n / 2 : Nat) : Int).toNat = M.join a b n := by
    rw [Int.toNat_natCast]
    unfold M.join
    rw [Nat.xor_zero, ← M.zer_add, show n / 2 + (n - n / 2) = n by omega]
  have e8 : M.join a (M.join a b n) (n : Int).toNat = b := by
    rw [Int.toNat_natCast]; unfold M.join; exact M.xor_left _ _
  rw [e1] at c1
  rw [e2] at c2 c4
  rw [e3] at c3
  rw [Int.toNat_natCast] at c5 c7
  rw [e6] at c6
  rw [e8] at c8
  clear e1 e2 e3 e6 e8
  have hq : (n : Int).tdiv 2 = ((n / 2 : Nat) : Int) := by rw [Int.tdiv_eq_ediv_of_nonneg (by omega)]; omega
  have hd : ((n : Int) - ((n / 2 : Nat) : Int)) = ((n - n / 2 : Nat) : Int) := by omega
  have hh : n / 2 ≤ n := by omega
  generalize M.join a b n = J at *
  generalize M.join a 0 (n / 2) = H at *
  generalize a ^^^ b = X at *
  generalize n - n / 2 = m at *
  generalize n / 2 = h at *
  have C1 := hid c1; have C2 := hid c2; have C3 := hid c3; have C4 := hid c4; have C5 := hid c5; have C6 := hid c6; have C7 := hid c7; have C8 := hid c8
  clear c1 c2 c3 c4 c5 c6 c7 c8
  go_enter Try.func5, Try.ntmps5
  go_wp2_with fail
  refine (awake_any w).mono ?_
  rintro e w1 ⟨rfl, hb1⟩
  go_wp2_with fail
  refine (C1.out w1).mono ?_
  rintro e w2 ⟨rfl, k2⟩
  have hb2 := bel_bel hb1 k2 hb1.size
  clear k2 hb1
  go_wp2_with fail
  refine (C2.out w2).mono ?_
  rintro e w3 ⟨rfl, k3⟩
  have hb3 := bel_bel hb2 k3 hb2.size
  clear k3 hb2
  go_wp2_with fail
  refine (C3.out w3).mono ?_
  rintro e w4 ⟨rfl, k4⟩
  have hb4 := bel_bel hb3 k4 hb3.size
  clear k4 hb3
  go_wp2_with fail
  refine (C4.out w4).mono ?_
  rintro e w5 ⟨rfl, k5⟩
  have hb5 := bel_bel hb4 k5 hb4.size
  clear k5 hb4
  go_wp2_with fail
  refine (C5.out w5).mono ?_
  rintro e w6 ⟨rfl, k6⟩
  have hb6 := bel_bel hb5 k6 hb5.size
  clear k6 hb5
  go_wp2_with fail
  refine (C6.out w6).mono ?_
  rintro e w7 ⟨rfl, k7⟩
  have hb7 := bel_bel hb6 k7 hb6.size
  clear k7 hb6
  go_wp2_with fail
  refine (C7.out w7).mono ?_
  rintro e w8 ⟨rfl, k8⟩
  have hb8 := bel_bel hb7 k8 hb7.size
  clear k8 hb7
  go_wp2_with fail
  refine (C7.out w8).mono ?_
  rintro e w9 ⟨rfl, k9⟩
  have hb9 := bel_bel hb8 k9 hb8.size
  clear k9 hb8
  go_wp2_with fail
  refine (C8.out w9).mono ?_
  rintro e w10 ⟨rfl, k10⟩
  have hb10 := bel_bel hb9 k10 hb9.size
  clear k10 hb9
  go_wp2_with fail
  go_ret
  exact ⟨rfl, hb10⟩
theorem linear_walkZ (a b n : Int) (w : World) (h1 : 0 ≤ a) (h2 : a ≤ 4294967295) (h3 : 0 ≤ b) (h4 : b ≤ 4294967295) (h5 : 0 ≤ n) (h6 : n ≤ 65535) :
    Calls Try.prog 5 #[.int .u32 a, .int .u32 b, .int .u16 n] w fun e w' => e = .returned (.bool true) ∧ Below w.heap.size w w' := by
  obtain ⟨A, rfl⟩ := Int.eq_ofNat_of_zero_le h1
  obtain ⟨B, rfl⟩ := Int.eq_ofNat_of_zero_le h3
  obtain ⟨N, rfl⟩ := Int.eq_ofNat_of_zero_le h5
  exact linear_walk A B N w (by omega) (by omega) (by omega)
end Go.Proofs.Ytohpjbhjcgihkab
