/- The program's Pack answers the packed form; nothing that was there before is turned. -/
import Derived.Test.YtdkfenmhfkggdaaBst
import Derived.Test.YtdkfenmhfkggdaaApp
namespace Go.Proofs.Ytdkfenmhfkggdaa
open Go.RowKit
theorem Chn.below {w w' : World} {g lo p B : Nat} {l : List UInt8} (h : Chn w g l lo p) (hb : Below B w w') (hg : g < B) : Chn w' g l lo p := by
  obtain ⟨c, k, r⟩ := h
  exact ⟨c, (hb.block g hg).trans k, r⟩
theorem Own.qt {w w' : World} {B : Nat} {v : Value} {l : List UInt8} (h : Own w B v l) (hq : Qt w w') : Own w' B v l := by
  obtain ⟨n, rfl⟩ := hq
  exact own_ch (S := fun _ => False) h ((Ch.refl _ w).drewN n) (fun _ _ k => k)
theorem Own.ch {S : Nat → Prop} {w w' : World} {B : Nat} {v : Value} {l : List UInt8} (h : Own w B v l) (hc : Ch S w w') (hS : ∀ i, B ≤ i → ¬ S i) : Own w' B v l := own_ch h hc hS
theorem ext_all (s : ByteArray) : s.extract 0 s.size = s := by
  rw [ext_ba, List.drop_zero, List.take_of_length_le (by rw [len_]; omega)]
  rfl
set_option maxHeartbeats 4000000 in
set_option maxRecDepth 20000 in
theorem pack_any (s : ByteArray) (w : World) (hs : s.size ≤ 139000000000000) :
    Calls Try.prog 10 #[.string s] w fun e w' => e = .returned (.string (ba (M.pack s.data.toList))) ∧ Below w.heap.size w w' := by
  have hv := (zero_of_info Try.infoChn).1
  have hz := ChnC.zero s.data.toList 0
  have hadd := fun (g q : Nat) (wr : World) (h1 : q < s.size) => add_any s g 0 q wr (by omega) h1 (Nat.zero_le _)
  have hbst := fun (g q : Nat) (wr : World) (h1 : q < s.size) => cbest_any s g 0 q wr (by omega) h1 (Or.inl rfl)
  have hlen := len_ s
  have hpl := M.pack_size s.data.toList
  have hpk : M.bytesOf (M.pk s.data.toList 0 0) = M.pack s.data.toList := rfl
  have hext := len_ext s
  generalize Array.replicate 16384 (Value.int .i64 0) = z at *
  generalize M.pack s.data.toList = P at *
  generalize s.data.toList = l at *
  have hPl : P.length ≤ 140500000000000 := by omega
  obtain ⟨H, hH⟩ : ∃ H, H = w.heap.size := ⟨_, rfl⟩
  have HZ := hid hz
  have HA := hid hadd
  have HB := hid hbst
  have HK := hid hpk
  have HL := hid hlen
  have HE := hid hext
  clear hz hadd hbst hpk hlen hext hpl
  go_enter Try.func10, Try.ntmps10
  go_wp2_with fail
  clear hv
  have C0 := hid (⟨z, heap_new w _, HZ.out⟩ : Chn (w.alloc (.cells z 56)) w.heap.size l 0 0)
  have B0 := hid ((Below.refl _ w).alloc (Nat.le_refl _) (.cells z 56))
  have O0 : Hid (Own (w.alloc (.cells z 56)) (w.heap.size + 1) (.slice none 0 0) []) := World.ownsRow_nil _ _ _ _
  have Z0 : Hid (w.heap.size + 1 ≤ (w.alloc (.cells z 56)).heap.size) := by show _ ≤ _; simp
  generalize w.alloc (.cells z 56) = w0 at *
  have HH := hid hH
  rw [← hH] at C0 B0 O0 Z0 ⊢
  clear hH
  go_loopg [4, 5, 6, 7, 8, 36] s.size (fun k o t a n d i wr => ∃ (p fr : Nat) (pre : List UInt8), p + k = s.size ∧ fr ≤ p ∧ t = .int .i64 fr ∧ a = .int .i64 p ∧ Hid (Own wr (H + 1) o pre) ∧ Hid (pre ++ M.bytesOf (M.pk l fr p) = P) ∧ Hid (Chn wr H l 0 p) ∧ Hid (Below H w wr) ∧ Hid (H + 1 ≤ wr.heap.size))
  case atStart => exact ⟨0, 0, [], by omega, by omega, rfl, rfl, O0, HK, C0, B0, Z0⟩
  case round =>
    clear C0 B0 O0 Z0 HK HZ
    obtain ⟨p, fr, pre, hk, hfr, rfl, rfl, HO, HP, HC, HW, HS⟩ := hrel
    by_cases hlt : p < s.size
    · obtain ⟨k, rfl⟩ : ∃ k, gk = k + 1 := ⟨gk - 1, by omega⟩
      have cb := HB.out H p wr hlt HC.out
      have hbl := M.best_le l p
      by_cases h0 : (M.best l p).1 = 0
      · have HP2 := hid (HP.out)
        rw [M.pk_lit (by rw [HL.out]; exact hlt) h0] at HP2
        rw [h0] at cb
        generalize (M.best l p).2 = D at *
        have CB := hid cb
        clear cb h0 hbl HP
        go_wp2_with fail
        refine CB.out.mono ?_
        rintro e w1 ⟨rfl, hq⟩
        have HC1 := hid (HC.out.qt hq)
        have HO1 := hid (HO.out.qt hq)
        have HW1 := hid (below_qt HW.out hq)
        have HS1 : Hid (H + 1 ≤ w1.heap.size) := by show _ ≤ _; rw [hq.heap]; exact HS.out
        clear hq CB HC HO HW HS
        go_wp2_with fail
        refine (HA.out H p w1 hlt HC1.out).mono ?_
        rintro e w2 ⟨rfl, hc2, hch⟩
        have HC2 := hid hc2
        have HO2 := hid (HO1.out.ch hch (fun i hi => by omega))
        have HW2 := hid (bel_ch HW1.out hch (by have := HS1.out; omega) (fun i hi => by omega))
        have HS2 : Hid (H + 1 ≤ w2.heap.size) := Nat.le_trans HS1.out hch.size
        clear hc2 hch HC1 HO1 HW1 HS1
        go_wp2_with fail
        go_roundg k
        case measure => omega
        case rel => exact ⟨p + 1, fr, pre, by omega, by omega, rfl, by go_num, HO2, HP2, HC2, HW2, HS2⟩
      · have hbs := M.best_some h0
        have HP2 := hid (HP.out)
        rw [M.pk_mat (by rw [HL.out]; exact hlt) h0, M.bytesOf_append, M.bytesOf_cons] at HP2
        have HFR : Hid (M.runs ((l.take p).drop fr) = M.runs (s.extract fr p).data.toList) := by
          show M.runs _ = M.runs _
          rw [HE.out, List.drop_take]
        rw [HFR.out] at HP2
        generalize (M.best l p).2 = D at *
        generalize (M.best l p).1 = N at *
        have hN : p + N ≤ s.size := by have := HL.out; omega
        have heq : ((N : Int) == 0) = false := by rw [beq_eq_false_iff_ne]; omega
        have h4 := hbs.1
        have CB := hid cb
        have hb131 := hbl.2.1
        have hbD := hbl.2.2.2
        clear cb h0 hbl HP hbs HFR
        go_wp2_with fail
        refine CB.out.mono ?_
        rintro e w1 ⟨rfl, hq⟩
        have HC1 := hid (HC.out.qt hq)
        have HO1 := hid (HO.out.qt hq)
        have HW1 := hid (below_qt HW.out hq)
        have HS1 : Hid (H + 1 ≤ w1.heap.size) := by show _ ≤ _; rw [hq.heap]; exact HS.out
        have HLE : Hid (pre.length + (M.bytesOf (M.runs (s.extract fr p).data.toList)).length ≤ 140500000000000) := by
          have := congrArg List.length HP2.out
          simp only [List.length_append] at this
          show _ ≤ _
          omega
        clear hq CB HC HO HW HS
        go_wp2_with fail
        refine (alit_any (H + 1) pre _ (s.extract fr p) w1 HO1.out HS1.out (by have := HLE.out; omega)).mono ?_
        rintro e w2 ⟨v2, rfl, ho2, hb2⟩
        have HC2 := hid (HC1.out.below hb2 (by omega))
        have HO2 := hid ho2
        have HW2 := hid (HW1.out.trans (hb2.mono (by omega)))
        have HS2 : Hid (H + 1 ≤ w2.heap.size) := Nat.le_trans HS1.out hb2.size
        clear ho2 hb2 HC1 HO1 HW1 HS1
        go_wp2_with fail
        refine (amat_any (H + 1) _ _ N D w2 HO2.out HS2.out h4 hb131 hbD (by rw [List.length_append]; have := HLE.out; omega)).mono ?_
        rintro e w3 ⟨v3, rfl, ho3, hb3⟩
        have HC3 := hid (HC2.out.below hb3 (by omega))
        have HO3 := hid ho3
        have HW3 := hid (HW2.out.trans (hb3.mono (by omega)))
        have HS3 : Hid (H + 1 ≤ w3.heap.size) := Nat.le_trans HS2.out hb3.size
        have HP3 : Hid (pre ++ M.bytesOf (M.runs (s.extract fr p).data.toList) ++ (M.Tok.mat N D).bytes ++ M.bytesOf (M.pk l (p + N) (p + N)) = P) := by
          show _ = P
          rw [← HP2.out]
          simp only [List.append_assoc]
        generalize pre ++ M.bytesOf (M.runs (s.extract fr p).data.toList) ++ (M.Tok.mat N D).bytes = pre3 at *
        clear ho3 hb3 HC2 HO2 HW2 HS2 HP2 HLE
        go_wp2_with fail
        go_loopg [6, 36] N (fun k a i wr => ∃ j : Nat, j + k = N ∧ a = .int .i64 (p + j : Nat) ∧ i = .int .i64 j ∧ Hid (Own wr (H + 1) v3 pre3) ∧ Hid (Chn wr H l 0 (p + j)) ∧ Hid (Below H w wr) ∧ Hid (H + 1 ≤ wr.heap.size))
        case atStart => exact ⟨0, by omega, rfl, rfl, HO3, HC3, HW3, HS3⟩
        case round =>
          clear HO3 HC3 HW3 HS3
          obtain ⟨j, hj, rfl, rfl, HO, HC, HW, HS⟩ := hrel
          by_cases hjl : j < N
          · obtain ⟨k', rfl⟩ : ∃ k', gk = k' + 1 := ⟨gk - 1, by omega⟩
            have ca := HA.out H (p + j) wr (by omega) HC.out
            obtain ⟨q, hq⟩ : ∃ q, q = p + j := ⟨_, rfl⟩
            rw [← hq] at ca
            rw [← hq]
            have hql : q < s.size := by omega
            have HQ := hid hq
            have CA := hid ca
            clear ca hq HC
            go_wp2_with fail
            refine CA.out.mono ?_
            rintro e w4 ⟨rfl, hc4, hch⟩
            have HC4 := hid hc4
            have HO4 := hid (HO.out.ch hch (fun i hi => by omega))
            have HW4 := hid (bel_ch HW.out hch (by have := HS.out; omega) (fun i hi => by omega))
            have HS4 : Hid (H + 1 ≤ w4.heap.size) := Nat.le_trans HS.out hch.size
            clear hc4 hch HO HW HS CA
            go_wp2_with fail
            go_roundg k'
            case measure => omega
            case rel => exact ⟨j + 1, by omega, by rw [← Nat.add_assoc, ← HQ.out]; go_num, by go_num, HO4, by rw [← Nat.add_assoc, ← HQ.out]; exact HC4, HW4, HS4⟩
          · obtain rfl : j = N := by omega
            obtain ⟨q, hq⟩ : ∃ q, q = p + j := ⟨_, rfl⟩
            rw [← hq] at HC HP3
            rw [← hq]
            go_wp2_with fail
            go_roundg (s.size - q)
            case measure => omega
            case rel => exact ⟨q, q, pre3, by omega, by omega, rfl, rfl, HO, HP3, HC, HW, HS⟩
    · obtain ⟨Z, hZ⟩ : ∃ Z, Z = s.size := ⟨_, rfl⟩
      obtain rfl : p = Z := by omega
      have HFR : Hid (l.drop fr = (s.extract fr s.size).data.toList) := by
        show l.drop fr = _
        rw [HE.out, List.take_of_length_le (by rw [List.length_drop, HL.out]; exact Nat.le_refl _)]
      have HP2 := hid (HP.out)
      rw [M.pk_end (by rw [HL.out]; omega), HFR.out] at HP2
      have HLE : Hid (pre.length + (M.bytesOf (M.runs (s.extract fr s.size).data.toList)).length ≤ 140500000000000) := by
          have := congrArg List.length HP2.out
          simp only [List.length_append] at this
          show _ ≤ _
          omega
      clear HP HFR HC HA HB HE HL
      by_cases hf0 : fr = 0
      · subst hf0
        rw [ext_all] at HP2 HLE
        go_wp2_with fail
        refine (alit_any (H + 1) pre _ s _ HO.out HS.out (by have := HLE.out; omega)).mono ?_
        rintro e w2 ⟨v2, rfl, ho2, hb2⟩
        have HW2 := hid (HW.out.trans (hb2.mono (by omega)))
        have hcv := conv_own ho2
        rw [HP2.out] at hcv
        clear ho2 hb2
        go_wp2_with fail
        go_ret
        exact ⟨rfl, by rw [← HH.out]; exact HW2.out⟩
      · go_wp2_with fail
        refine (alit_any (H + 1) pre _ (s.extract fr s.size) _ HO.out HS.out (by have := HLE.out; omega)).mono ?_
        rintro e w2 ⟨v2, rfl, ho2, hb2⟩
        have HW2 := hid (HW.out.trans (hb2.mono (by omega)))
        have hcv := conv_own ho2
        rw [HP2.out] at hcv
        clear ho2 hb2
        go_wp2_with fail
        go_ret
        exact ⟨rfl, by rw [← HH.out]; exact HW2.out⟩
end Go.Proofs.Ytdkfenmhfkggdaa
