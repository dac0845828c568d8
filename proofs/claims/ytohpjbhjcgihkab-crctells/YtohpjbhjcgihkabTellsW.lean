/- CrcTells' walk: a text in which up to 32 bits that stand together are turned has another sum; nothing that was there before is turned. -/
import Derived.Test.YtohpjbhjcgihkabTells
namespace Go.Proofs.Ytohpjbhjcgihkab
open Go.RowKit Go.WideShapes
set_option maxHeartbeats 4000000 in
set_option maxRecDepth 20000 in
theorem tells_walk (s : ByteArray) (n : Int) (m : Nat) (w : World) (hs : s.size ≤ 4611686018427387904) (h1 : -9223372036854775808 ≤ n) (h2 : n ≤ 9223372036854775807) (hm : m < 4294967296) :
    Calls Try.prog 3 #[.string s, .int .i64 n, .int .u32 m] w fun e w' => e = .returned (.bool true) ∧ Below w.heap.size w w' := by
  by_cases hs4 : s.size < 4
  · have hs4' : (s.size : Int) < 4 := by omega
    go_enter Try.func3, Try.ntmps3
    go_wp2_with fail
    refine (awake_any w).mono ?_
    rintro e w1 ⟨rfl, hb1⟩
    go_wp2_with fail
    go_ret
    exact ⟨rfl, hb1⟩
  have hs4' : ¬ (s.size : Int) < 4 := by omega
  by_cases hm0 : m = 0
  · subst hm0
    go_enter Try.func3, Try.ntmps3
    go_wp2_with fail
    refine (awake_any w).mono ?_
    rintro e w1 ⟨rfl, hb1⟩
    go_wp2_with fail
    go_ret
    exact ⟨rfl, hb1⟩
  have hm0' : ((m : Int) == 0) = false := by rw [beq_eq_false_iff_ne]; omega
  obtain ⟨A, hA⟩ : ∃ A : Nat, (A : Int) = if n < 0 then -(n + 1) else n := ⟨(if n < 0 then -(n + 1) else n).toNat, by split <;> omega⟩
  obtain ⟨a, ha⟩ : ∃ a : Nat, a = A % (s.size - 3) := ⟨_, rfl⟩
  have hal : a + 4 ≤ s.size := by have := Nat.mod_lt A (show 0 < s.size - 3 by omega); omega
  have hrem : (A : Int).tmod ((s.size : Int) - 3) = (a : Int) := by
    rw [Int.tmod_eq_emod_of_nonneg (by omega), ha]
    have : ((s.size : Int) - 3) = ((s.size - 3 : Nat) : Int) := by omega
    rw [this]; exact (Int.natCast_emod _ _).symm
  have hne := t4_sum s a m hal hm hm0
  have hts : (tn (tn (tn (tn s a (m % 256)) (a + 1) (m / 256 % 256)) (a + 2) (m / 65536 % 256)) (a + 3) (m / 16777216)).size = s.size := t4_size s a m
  have hq : ((t4 s a m).toList == s.toList) = false := by
    rw [beq_eq_false_iff_ne, ByteArray.toList_eq, ByteArray.toList_eq]
    intro e; exact hne (by rw [e])
  have c1 := fun v => turned_any s a (m % 256) v (by omega) (by omega)
  have c2 := fun v => turned_any (tn s a (m % 256)) (a + 1) (m / 256 % 256) v (by rw [tn_size]; omega) (by omega)
  have c3 := fun v => turned_any (tn (tn s a (m % 256)) (a + 1) (m / 256 % 256)) (a + 2) (m / 65536 % 256) v (by rw [tn_size, tn_size]; omega) (by omega)
  have c4 := fun v => turned_any (tn (tn (tn s a (m % 256)) (a + 1) (m / 256 % 256)) (a + 2) (m / 65536 % 256)) (a + 3) (m / 16777216) v (by rw [tn_size, tn_size, tn_size]; omega) (by omega)
  unfold t4 at hne hq
  generalize tn (tn (tn (tn s a (m % 256)) (a + 1) (m / 256 % 256)) (a + 2) (m / 65536 % 256)) (a + 3) (m / 16777216) = T4 at *
  generalize tn (tn (tn s a (m % 256)) (a + 1) (m / 256 % 256)) (a + 2) (m / 65536 % 256) = T3 at *
  generalize tn (tn s a (m % 256)) (a + 1) (m / 256 % 256) = T2 at *
  generalize tn s a (m % 256) = T1 at *
  have cS := fun v => sum_any s v (by omega)
  have cT := fun v => sum_any T4 v (by omega)
  generalize M.more 0 s.data.toList = S at *
  generalize M.more 0 T4.data.toList = Z at *
  have hzs : ((Z : Int) != (S : Int)) = true := by rw [bne_iff_ne]; omega
  have m0 : (m : Int) % 256 = ((m % 256 : Nat) : Int) := by omega
  have m1 : (m : Int) / 256 % 256 = ((m / 256 % 256 : Nat) : Int) := by omega
  have m2 : (m : Int) / 65536 % 256 = ((m / 65536 % 256 : Nat) : Int) := by omega
  have m3 : (m : Int) / 16777216 = ((m / 16777216 : Nat) : Int) := by omega
  generalize m % 256 = d0 at *
  generalize m / 256 % 256 = d1 at *
  generalize m / 65536 % 256 = d2 at *
  generalize m / 16777216 = d3 at *
  have a1 : (a : Int) + 1 = ((a + 1 : Nat) : Int) := rfl
  have C1 := hid c1; have C2 := hid c2; have C3 := hid c3; have C4 := hid c4; have CS := hid cS; have CT := hid cT
  clear c1 c2 c3 c4 cS cT hne hts ha a1
  by_cases hn : n < 0
  · rw [if_pos hn] at hA
    have hA' : -(n + 1) = (A : Int) := hA.symm
    clear hA
    go_enter Try.func3, Try.ntmps3
    go_wp2_with fail
    refine (awake_any w).mono ?_
    rintro e w1 ⟨rfl, hb1⟩
    go_wp2_with fail
    go_loopg [7, 8] 4 (fun k u v wr => ∃ (i : Nat) (T : ByteArray), i + k = 4 ∧ v = .int .i64 i ∧ u = .string T ∧ Hid ((i = 0 → T = s) ∧ (i = 1 → T = T1) ∧ (i = 2 → T = T2) ∧ (i = 3 → T = T3) ∧ (i = 4 → T = T4)) ∧ Below w.heap.size w wr)
    case atStart => exact ⟨0, s, by omega, rfl, rfl, ⟨fun _ => rfl, by omega, by omega, by omega, by omega⟩, hb1⟩
    case round =>
      clear hb1
      obtain ⟨i, T, hk, rfl, rfl, HT, hb⟩ := hrel
      rcases (show i = 0 ∨ i = 1 ∨ i = 2 ∨ i = 3 ∨ i = 4 by omega) with rfl | rfl | rfl | rfl | rfl
      · obtain rfl : gk = 4 := by omega
        obtain rfl : s = T := (HT.out.1 rfl).symm
        clear HT
        go_wp2_with fail
        refine (C1.out wr).mono ?_
        rintro e w2 ⟨rfl, k2⟩
        have hb2 := bel_bel hb k2 hb.size
        go_wp2_with fail
        go_roundg 3
        case measure => omega
        case rel => exact ⟨1, T1, by omega, by first | rfl | simp, rfl, ⟨by omega, fun _ => rfl, by omega, by omega, by omega⟩, hb2⟩
      · obtain rfl : gk = 3 := by omega
        obtain rfl : T1 = T := (HT.out.2.1 rfl).symm
        clear HT
        go_wp2_with fail
        refine (C2.out wr).mono ?_
        rintro e w2 ⟨rfl, k2⟩
        have hb2 := bel_bel hb k2 hb.size
        go_wp2_with fail
        go_roundg 2
        case measure => omega
        case rel => exact ⟨2, T2, by omega, by first | rfl | simp, rfl, ⟨by omega, by omega, fun _ => rfl, by omega, by omega⟩, hb2⟩
      · obtain rfl : gk = 2 := by omega
        obtain rfl : T2 = T := (HT.out.2.2.1 rfl).symm
        clear HT
        go_wp2_with fail
        refine (C3.out wr).mono ?_
        rintro e w2 ⟨rfl, k2⟩
        have hb2 := bel_bel hb k2 hb.size
        go_wp2_with fail
        go_roundg 1
        case measure => omega
        case rel => exact ⟨3, T3, by omega, by first | rfl | simp, rfl, ⟨by omega, by omega, by omega, fun _ => rfl, by omega⟩, hb2⟩
      · obtain rfl : gk = 1 := by omega
        obtain rfl : T3 = T := (HT.out.2.2.2.1 rfl).symm
        clear HT
        go_wp2_with fail
        refine (C4.out wr).mono ?_
        rintro e w2 ⟨rfl, k2⟩
        have hb2 := bel_bel hb k2 hb.size
        go_wp2_with fail
        go_roundg 0
        case measure => omega
        case rel => exact ⟨4, T4, by omega, by first | rfl | simp, rfl, ⟨by omega, by omega, by omega, by omega, fun _ => rfl⟩, hb2⟩
      · obtain rfl : T4 = T := (HT.out.2.2.2.2 rfl).symm
        clear HT
        go_wp2_with fail
        refine (CT.out wr).mono ?_
        rintro e w2 ⟨rfl, k2⟩
        have hb2 := bel_bel hb k2 hb.size
        clear k2 hb
        go_wp2_with fail
        refine (CS.out w2).mono ?_
        rintro e w3 ⟨rfl, k3⟩
        have hb3 := bel_bel hb2 k3 hb2.size
        clear k3 hb2
        go_wp2_with fail
        go_ret
        exact ⟨rfl, hb3⟩
  · rw [if_neg hn] at hA
    subst hA
    go_enter Try.func3, Try.ntmps3
    go_wp2_with fail
    refine (awake_any w).mono ?_
    rintro e w1 ⟨rfl, hb1⟩
    go_wp2_with fail
    go_loopg [7, 8] 4 (fun k u v wr => ∃ (i : Nat) (T : ByteArray), i + k = 4 ∧ v = .int .i64 i ∧ u = .string T ∧ Hid ((i = 0 → T = s) ∧ (i = 1 → T = T1) ∧ (i = 2 → T = T2) ∧ (i = 3 → T = T3) ∧ (i = 4 → T = T4)) ∧ Below w.heap.size w wr)
    case atStart => exact ⟨0, s, by omega, rfl, rfl, ⟨fun _ => rfl, by omega, by omega, by omega, by omega⟩, hb1⟩
    case round =>
      clear hb1
      obtain ⟨i, T, hk, rfl, rfl, HT, hb⟩ := hrel
      rcases (show i = 0 ∨ i = 1 ∨ i = 2 ∨ i = 3 ∨ i = 4 by omega) with rfl | rfl | rfl | rfl | rfl
      · obtain rfl : gk = 4 := by omega
        obtain rfl : s = T := (HT.out.1 rfl).symm
        clear HT
        go_wp2_with fail
        refine (C1.out wr).mono ?_
        rintro e w2 ⟨rfl, k2⟩
        have hb2 := bel_bel hb k2 hb.size
        go_wp2_with fail
        go_roundg 3
        case measure => omega
        case rel => exact ⟨1, T1, by omega, by first | rfl | simp, rfl, ⟨by omega, fun _ => rfl, by omega, by omega, by omega⟩, hb2⟩
      · obtain rfl : gk = 3 := by omega
        obtain rfl : T1 = T := (HT.out.2.1 rfl).symm
        clear HT
        go_wp2_with fail
        refine (C2.out wr).mono ?_
        rintro e w2 ⟨rfl, k2⟩
        have hb2 := bel_bel hb k2 hb.size
        go_wp2_with fail
        go_roundg 2
        case measure => omega
        case rel => exact ⟨2, T2, by omega, by first | rfl | simp, rfl, ⟨by omega, by omega, fun _ => rfl, by omega, by omega⟩, hb2⟩
      · obtain rfl : gk = 2 := by omega
        obtain rfl : T2 = T := (HT.out.2.2.1 rfl).symm
        clear HT
        go_wp2_with fail
        refine (C3.out wr).mono ?_
        rintro e w2 ⟨rfl, k2⟩
        have hb2 := bel_bel hb k2 hb.size
        go_wp2_with fail
        go_roundg 1
        case measure => omega
        case rel => exact ⟨3, T3, by omega, by first | rfl | simp, rfl, ⟨by omega, by omega, by omega, fun _ => rfl, by omega⟩, hb2⟩
      · obtain rfl : gk = 1 := by omega
        obtain rfl : T3 = T := (HT.out.2.2.2.1 rfl).symm
        clear HT
        go_wp2_with fail
        refine (C4.out wr).mono ?_
        rintro e w2 ⟨rfl, k2⟩
        have hb2 := bel_bel hb k2 hb.size
        go_wp2_with fail
        go_roundg 0
        case measure => omega
        case rel => exact ⟨4, T4, by omega, by first | rfl | simp, rfl, ⟨by omega, by omega, by omega, by omega, fun _ => rfl⟩, hb2⟩
      · obtain rfl : T4 = T := (HT.out.2.2.2.2 rfl).symm
        clear HT
        go_wp2_with fail
        refine (CT.out wr).mono ?_
        rintro e w2 ⟨rfl, k2⟩
        have hb2 := bel_bel hb k2 hb.size
        clear k2 hb
        go_wp2_with fail
        refine (CS.out w2).mono ?_
        rintro e w3 ⟨rfl, k3⟩
        have hb3 := bel_bel hb2 k3 hb2.size
        clear k3 hb2
        go_wp2_with fail
        go_ret
        exact ⟨rfl, hb3⟩
theorem tells_walkZ (s : ByteArray) (n m : Int) (w : World) (hs : s.size ≤ 4611686018427387904) (h1 : -9223372036854775808 ≤ n) (h2 : n ≤ 9223372036854775807) (h3 : 0 ≤ m) (h4 : m ≤ 4294967295) :
    Calls Try.prog 3 #[.string s, .int .i64 n, .int .u32 m] w fun e w' => e = .returned (.bool true) ∧ Below w.heap.size w w' := by
  obtain ⟨M, rfl⟩ := Int.eq_ofNat_of_zero_le h3
  exact tells_walk s n M w hs h1 h2 (by omega)
end Go.Proofs.Ytohpjbhjcgihkab
