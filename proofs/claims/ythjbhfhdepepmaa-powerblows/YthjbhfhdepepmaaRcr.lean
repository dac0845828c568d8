/- The document's disk: Create. -/
import Derived.Test.YthjbhfhdepepmaaRpt
namespace Go.Proofs.Ythjbhfhdepepmaa
open Go.RowKit
theorem Rk.len {w : World} {d : Nat} {fl : Value} {rm : Nat} {cl cb : Int} {V : Vw} (h : Rk w d fl rm cl cb V) : ∃ a cap, fl = .slice a V.length cap := own_form h.row
set_option maxHeartbeats 2000000 in
set_option maxRecDepth 20000 in
theorem rcreate_any (d : Nat) (fl : Value) (rm : Nat) (cl cb : Int) (V : Vw) (nm : ByteArray) (w : World) (h : Rk w d fl rm cl cb V) (hs : SV rm V) (hn : nm.size ≤ maxLen) :
    Calls Try.prog 29 #[.pointer (some ⟨d, 0, none⟩), .string nm] w fun e w' => e = .returned (.int .i64 (crE nm V)) ∧ RAft w (Rt d fl) d rm cl cb (crV nm V) w' := by
  have c1 := h.c1
  have HS := hid' (fun n => RAft.same h n)
  have hc := hs.cnt
  unfold maxLen at hn
  unfold crV
  cases hv : vl nm V with
  | some x =>
    have e3 : crE nm V = 3 := by unfold crE; rw [hv]; split <;> rfl
    rw [e3, if_neg (by omega)]
    obtain ⟨l, r, g, cap, _, _, _, rfl, _, _, _, _, _, HA⟩ := h.at_some hs hv
    have HA := hid' HA
    clear h hs hv e3
    go_enter Try.func29, Try.ntmps29
    go_wp2_with (go_at_call 68; refine HA.out.mono ?_; rintro e w' ⟨rfl, k, rfl⟩)
    go_ret
    exact ⟨rfl, HS.out _⟩
  | none =>
    obtain ⟨l, r, hV, k1, k2, HA⟩ := h.at_none hs hv
    have HA := hid' HA
    by_cases hg : 1 ≤ nm.size ∧ nm.size ≤ 255
    · have g1 : decide ((nm.size : Int) < 1) = false := by rw [decide_eq_false_iff_not]; omega
      have g2 : decide ((255 : Int) < (nm.size : Int)) = false := by rw [decide_eq_false_iff_not]; omega
      obtain ⟨a0, cap0, rfl⟩ := h.len
      by_cases hm : 65536 ≤ V.length
      · have e3 : crE nm V = 5 := by unfold crE; rw [hv, if_pos hg, if_neg (by simp), if_pos hm]
        rw [e3, if_neg (by omega)]
        have g3 : decide ((65536 : Int) ≤ (V.length : Int)) = true := by rw [decide_eq_true_eq]; omega
        clear h hs hv e3 hV k1 k2
        generalize V.length = N at *
        go_enter Try.func29, Try.ntmps29
        go_wp2_with (go_at_call 68; refine HA.out.mono ?_; rintro e w' ⟨rfl, k, rfl⟩)
        all_goals first | (exfalso; omega) | skip
        go_ret
        exact ⟨rfl, HS.out _⟩
      · have e3 : crE nm V = 0 := by unfold crE; rw [hv, if_pos hg, if_neg (by simp), if_neg hm]
        rw [e3, if_pos rfl]
        have g3 : decide ((65536 : Int) ≤ (V.length : Int)) = false := by rw [decide_eq_false_iff_not]; omega
        have e4 : vins nm V = l ++ (nm, [], 0) :: r := by rw [hV]; exact vins_mid k1 k2
        rw [e4]
        have HP := hid' (fun k => rput_any d _ rm cl cb l r nm (w.drewN k) (by rw [← hV]; exact h.ch ((Ch.refl (fun _ => False) w).drewN k) (fun _ _ e => e)) (by rw [← hV]; exact hc))
        have HT : Hid (∀ k w', RAft (w.drewN k) (Rt d (.slice a0 V.length cap0)) d rm cl cb (l ++ (nm, [], 0) :: r) w' → RAft w (Rt d (.slice a0 V.length cap0)) d rm cl cb (l ++ (nm, [], 0) :: r) w') := by
          intro k w' ⟨f, q1, q2, q3⟩
          exact ⟨f, q1, ((Ch.refl _ w).drewN k).trans q2, q3⟩
        clear h hs hv e3 hV k1 k2 e4 HS
        generalize l ++ (nm, [], 0) :: r = V' at *
        generalize V.length = N at *
        generalize l.length = L at *
        go_enter Try.func29, Try.ntmps29
        go_wp2_with (go_at_call 68; refine HA.out.mono ?_; rintro e w' ⟨rfl, k, rfl⟩)
        all_goals first | (exfalso; omega) | skip
        go_wp2_with (go_at_call 69; refine (HP.out _).mono ?_; rintro e w' ⟨rfl, hr⟩)
        go_ret
        exact ⟨rfl, HT.out _ _ hr⟩
    · have e3 : crE nm V = 3 := by unfold crE; rw [if_neg hg]
      rw [e3, if_neg (by omega)]
      clear h hs hv e3 hV k1 k2
      by_cases h1 : nm.size < 1
      · have g1 : decide ((nm.size : Int) < 1) = true := by rw [decide_eq_true_eq]; omega
        go_enter Try.func29, Try.ntmps29
        go_wp2_with (go_at_call 68; refine HA.out.mono ?_; rintro e w' ⟨rfl, k, rfl⟩)
        all_goals first | (exfalso; omega) | skip
        go_ret
        exact ⟨rfl, HS.out _⟩
      · have g1 : decide ((nm.size : Int) < 1) = false := by rw [decide_eq_false_iff_not]; omega
        have g2 : decide ((255 : Int) < (nm.size : Int)) = true := by rw [decide_eq_true_eq]; omega
        go_enter Try.func29, Try.ntmps29
        go_wp2_with (go_at_call 68; refine HA.out.mono ?_; rintro e w' ⟨rfl, k, rfl⟩)
        all_goals first | (exfalso; omega) | skip
        go_ret
        exact ⟨rfl, HS.out _⟩
end Go.Proofs.Ythjbhfhdepepmaa
