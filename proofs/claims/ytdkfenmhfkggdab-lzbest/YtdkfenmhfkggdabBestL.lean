/- LzBest's walk, put together. -/
import Derived.Test.YtdkfenmhfkggdabMat
namespace Go.Proofs.Ytdkfenmhfkggdab
open Go.RowKit
theorem mt_some {l : List UInt8} {p n : Nat} {d : Int} (h : mt l p n d = true) (hn : n ≤ 131) : n ≤ max (M.best l p).1 3 ∧ ∃ D : Nat, d = D ∧ 1 ≤ D ∧ n ≤ M.alk l (M.most l p) (p - D) p := by
  unfold mt at h
  rw [decide_eq_true_iff] at h
  obtain ⟨h1, h2, h3, h4, h5⟩ := h
  obtain ⟨D, rfl⟩ := Int.eq_ofNat_of_zero_le (show 0 ≤ d by omega)
  rw [Int.toNat_natCast] at h5
  have hm : n ≤ M.most l p := by unfold M.most; omega
  have h6 := (alk_iff hm).1 h5
  have h7 := M.bs_ge l 3 p (M.most l p) (min p 8192) D (by omega) (by omega)
  exact ⟨Nat.le_trans h6 h7, D, rfl, by omega, h6⟩
theorem mt_none {l : List UInt8} {p : Nat} {d : Int} (h : (M.best l p).1 = 0) : mt l p 4 d = false := by
  cases hm : mt l p 4 d with
  | false => rfl
  | true => have := (mt_some hm (by omega)).1; rw [h] at this; omega
theorem mt_is {l : List UInt8} {p : Nat} (hp : p ≤ l.length) (h : (M.best l p).1 ≠ 0) : mt l p (M.best l p).1 ((M.best l p).2 : Nat) = true := by
  have h1 := M.best_some h
  have h2 := M.best_le l p
  unfold mt
  rw [decide_eq_true_iff, Int.toNat_natCast]
  refine ⟨by omega, by omega, by omega, by omega, (alk_iff (m := M.most l p) ?_).2 (by omega)⟩
  rw [← h1.2.2]
  exact M.alk_le _ _ _ _
theorem mt_longer {l : List UInt8} {p : Nat} {d : Int} (h : (M.best l p).1 ≠ 0) (hn : (M.best l p).1 < 131) : mt l p ((M.best l p).1 + 1) d = false := by
  have h1 := M.best_some h
  cases hm : mt l p ((M.best l p).1 + 1) d with
  | false => rfl
  | true => have := (mt_some hm (by omega)).1; omega
theorem mt_nearer {l : List UInt8} {p : Nat} {d : Int} (h : (M.best l p).1 ≠ 0) (hd : d < (M.best l p).2) : mt l p (M.best l p).1 d = false := by
  have h1 := M.best_some h
  have h2 := M.best_le l p
  cases hm : mt l p (M.best l p).1 d with
  | false => rfl
  | true =>
    obtain ⟨_, D, rfl, h3, h4⟩ := mt_some hm h2.2.1
    have := M.bs_near l 3 p (M.most l p) (min p 8192) D h3 (by show D < (M.best l p).2; omega)
    have h5 : M.alk l (M.most l p) (p - D) p < (M.best l p).1 := this
    omega
set_option maxHeartbeats 4000000 in
set_option maxRecDepth 20000 in
theorem best_walk (s : ByteArray) (z d : Int) (w : World) (hs : s.size ≤ 9223372036854775807) (hz : -9223372036854775808 ≤ z) (hz2 : z ≤ 9223372036854775807) :
    Calls Try.prog 3 #[.string s, .int .i64 z, .int .i64 d] w fun e w' => e = .returned (.bool true) ∧ Below w.heap.size w w' := by
  by_cases hin : 0 ≤ z ∧ z < s.size
  · obtain ⟨p, rfl⟩ := Int.eq_ofNat_of_zero_le hin.1
    have hp : p < s.size := by omega
    have cb := fun w => best_in s p w hs hp
    have cm := fun (n : Nat) (ni d : Int) w => matches_any s p n ni d w hs hp
    have hpl : p ≤ s.data.toList.length := by rw [len_]; omega
    generalize s.data.toList = l at *
    have g1 : ¬ (p : Int) < 0 := by omega
    have g2 : ¬ (s.size : Int) ≤ p := by omega
    by_cases h0 : (M.best l p).1 = 0
    · have c4 := fun w => cm 4 4 d w rfl (by omega)
      rw [mt_none h0] at c4
      have hk : (M.best l p).2 = 0 := by
        rcases M.best_is l p with h | h
        · rw [h]
        · omega
      rw [h0, hk] at cb
      have CB := hid cb; have C4 := hid c4
      clear cb cm c4 h0 hk hpl hin
      go_enter Try.func3, Try.ntmps3
      go_wp2_with fail
      refine (fixed_any _).mono ?_
      rintro e w1 ⟨rfl, hb1⟩
      go_wp2_with fail
      refine (CB.out _).mono ?_
      rintro e w2 ⟨rfl, hb2⟩
      have HB2 := hid (bel_bel hb1 hb2 hb1.size)
      clear hb1 hb2
      go_wp2_with fail
      refine (C4.out _).mono ?_
      rintro e w3 ⟨rfl, hq3⟩
      go_wp2_with fail
      go_ret
      exact ⟨rfl, below_qt HB2.out hq3⟩
    · have h1 := M.best_some h0
      have h2 := M.best_le l p
      have t1 := mt_is hpl h0
      have t2 := fun d hn => mt_longer (d := d) h0 hn
      have t3 := fun hd => mt_nearer (d := d) h0 hd
      generalize (M.best l p).1 = n at *
      generalize (M.best l p).2 = k at *
      have c1 := fun w => cm n n k w rfl (by omega)
      rw [t1] at c1
      have c2 := fun (hn : n < 131) d w => cm (n + 1) ((n : Int) + 1) d w (by omega) (by omega)
      have c2' : ∀ (hn : n < 131) (d : Int) (w : World), Calls Try.prog 8 #[.string s, .int .i64 p, .int .i64 ((n : Int) + 1), .int .i64 d] w fun e w' => e = .returned (.bool false) ∧ Qt w w' := fun hn d w => by have := c2 hn d w; rw [t2 d hn] at this; exact this
      have c3' : ∀ (hd : d < k) (w : World), Calls Try.prog 8 #[.string s, .int .i64 p, .int .i64 n, .int .i64 d] w fun e w' => e = .returned (.bool false) ∧ Qt w w' := fun hd w => by have := cm n n d w rfl (by omega); rw [t3 hd] at this; exact this
      have CB := hid cb; have C1 := hid c1; have C2 := hid c2'; have C3 := hid c3'
      have hn0 : ((n : Int) == 0) = false := by rw [beq_eq_false_iff_ne]; omega
      have hn4 : 4 ≤ n := h1.1
      have hn5 : n ≤ 131 := h2.2.1
      clear cb cm c1 c2 c2' c3' h0 h1 h2 hpl hin t1 t2 t3
      by_cases hn : n < 131
      · by_cases hd : d < k
        · go_enter Try.func3, Try.ntmps3
          go_wp2_with fail
          refine (fixed_any _).mono ?_
          rintro e w1 ⟨rfl, hb1⟩
          go_wp2_with fail
          refine (CB.out _).mono ?_
          rintro e w2 ⟨rfl, hb2⟩
          have HB2 := hid (bel_bel hb1 hb2 hb1.size)
          clear hb1 hb2
          go_wp2_with fail
          refine (C1.out _).mono ?_
          rintro e w3 ⟨rfl, hq3⟩
          have HB3 := hid (below_qt HB2.out hq3)
          go_wp2_with fail
          refine (C2.out hn _ _).mono ?_
          rintro e w4 ⟨rfl, hq4⟩
          have HB4 := hid (below_qt HB3.out hq4)
          go_wp2_with fail
          refine (C2.out hn _ _).mono ?_
          rintro e w5 ⟨rfl, hq5⟩
          have HB5 := hid (below_qt HB4.out hq5)
          go_wp2_with fail
          refine (C3.out hd _).mono ?_
          rintro e w6 ⟨rfl, hq6⟩
          have HB6 := hid (below_qt HB5.out hq6)
          go_wp2_with fail
          go_ret
          exact ⟨rfl, HB6.out⟩
        · go_enter Try.func3, Try.ntmps3
          go_wp2_with fail
          refine (fixed_any _).mono ?_
          rintro e w1 ⟨rfl, hb1⟩
          go_wp2_with fail
          refine (CB.out _).mono ?_
          rintro e w2 ⟨rfl, hb2⟩
          have HB2 := hid (bel_bel hb1 hb2 hb1.size)
          clear hb1 hb2
          go_wp2_with fail
          refine (C1.out _).mono ?_
          rintro e w3 ⟨rfl, hq3⟩
          have HB3 := hid (below_qt HB2.out hq3)
          go_wp2_with fail
          refine (C2.out hn _ _).mono ?_
          rintro e w4 ⟨rfl, hq4⟩
          have HB4 := hid (below_qt HB3.out hq4)
          go_wp2_with fail
          refine (C2.out hn _ _).mono ?_
          rintro e w5 ⟨rfl, hq5⟩
          have HB5 := hid (below_qt HB4.out hq5)
          go_wp2_with fail
          go_ret
          exact ⟨rfl, HB5.out⟩
      · by_cases hd : d < k
        · go_enter Try.func3, Try.ntmps3
          go_wp2_with fail
          refine (fixed_any _).mono ?_
          rintro e w1 ⟨rfl, hb1⟩
          go_wp2_with fail
          refine (CB.out _).mono ?_
          rintro e w2 ⟨rfl, hb2⟩
          have HB2 := hid (bel_bel hb1 hb2 hb1.size)
          clear hb1 hb2
          go_wp2_with fail
          refine (C1.out _).mono ?_
          rintro e w3 ⟨rfl, hq3⟩
          have HB3 := hid (below_qt HB2.out hq3)
          go_wp2_with fail
          refine (C3.out hd _).mono ?_
          rintro e w6 ⟨rfl, hq6⟩
          have HB6 := hid (below_qt HB3.out hq6)
          go_wp2_with fail
          go_ret
          exact ⟨rfl, HB6.out⟩
        · go_enter Try.func3, Try.ntmps3
          go_wp2_with fail
          refine (fixed_any _).mono ?_
          rintro e w1 ⟨rfl, hb1⟩
          go_wp2_with fail
          refine (CB.out _).mono ?_
          rintro e w2 ⟨rfl, hb2⟩
          have HB2 := hid (bel_bel hb1 hb2 hb1.size)
          clear hb1 hb2
          go_wp2_with fail
          refine (C1.out _).mono ?_
          rintro e w3 ⟨rfl, hq3⟩
          have HB3 := hid (below_qt HB2.out hq3)
          go_wp2_with fail
          go_ret
          exact ⟨rfl, HB3.out⟩
  · have cb := fun w => best_any s z w hs hz hz2
    have e : bestZ s.data.toList z = (0, 0) := by
      unfold bestZ
      rw [if_neg (by rw [len_]; exact hin)]
    rw [e] at cb
    have CB := hid cb
    by_cases h0 : z < 0
    · clear cb e hin
      go_enter Try.func3, Try.ntmps3
      go_wp2_with fail
      refine (fixed_any _).mono ?_
      rintro e w1 ⟨rfl, hb1⟩
      go_wp2_with fail
      refine (CB.out _).mono ?_
      rintro e w2 ⟨rfl, hb2⟩
      have HB2 := hid (bel_bel hb1 hb2 hb1.size)
      clear hb1 hb2
      go_wp2_with fail
      go_ret
      exact ⟨rfl, HB2.out⟩
    · have h1 : (s.size : Int) ≤ z := by omega
      clear cb e hin
      go_enter Try.func3, Try.ntmps3
      go_wp2_with fail
      refine (fixed_any _).mono ?_
      rintro e w1 ⟨rfl, hb1⟩
      go_wp2_with fail
      refine (CB.out _).mono ?_
      rintro e w2 ⟨rfl, hb2⟩
      have HB2 := hid (bel_bel hb1 hb2 hb1.size)
      clear hb1 hb2
      go_wp2_with fail
      go_ret
      exact ⟨rfl, HB2.out⟩
end Go.Proofs.Ytdkfenmhfkggdab
