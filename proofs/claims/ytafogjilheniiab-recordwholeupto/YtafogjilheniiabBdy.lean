/- What Body answers of any records. -/
import Derived.Test.YtafogjilheniiabFitB
namespace Go.Proofs.Ytafogjilheniiab
open Go.RowKit
theorem iscount_any (n : Int) (w : World) : Calls Try.prog 21 #[.int .i64 n] w fun e w' => e = .returned (.bool (decide (1 ≤ n ∧ n ≤ 65536))) ∧ w' = w := by
  by_cases h1 : 1 ≤ n
  · by_cases h2 : n ≤ 65536
    · rw [decide_eq_true ⟨h1, h2⟩]
      go_enter Try.func21, Try.ntmps21
      go_wp2
      go_ret
      exact ⟨rfl, rfl⟩
    · rw [decide_eq_false (fun h => h2 h.2)]
      go_enter Try.func21, Try.ntmps21
      go_wp2
      go_ret
      exact ⟨rfl, rfl⟩
  · rw [decide_eq_false (fun h => h1 h.1)]
    go_enter Try.func21, Try.ntmps21
    go_wp2
    go_ret
    exact ⟨rfl, rfl⟩
theorem iscount_yes (n : Int) (w : World) (h : 1 ≤ n ∧ n ≤ 65536) : Calls Try.prog 21 #[.int .i64 n] w fun e w' => e = .returned (.bool true) ∧ w' = w := by
  have := iscount_any n w
  rw [decide_eq_true h] at this
  exact this
theorem iscount_no (n : Int) (w : World) (h : ¬ (1 ≤ n ∧ n ≤ 65536)) : Calls Try.prog 21 #[.int .i64 n] w fun e w' => e = .returned (.bool false) ∧ w' = w := by
  have := iscount_any n w
  rw [decide_eq_false h] at this
  exact this
/-- Why records have no body, or 0, with the count. -/
def BodyE (l : List RI) (E : Nat) : Prop := (¬ (1 ≤ l.length ∧ l.length ≤ 65536) ∧ E = 28) ∨ ((1 ≤ l.length ∧ l.length ≤ 65536) ∧ FitE l (l.getD 0 dri).r.t E)
def BodyP (l : List RI) (E : Nat) (S : ByteArray) : Prop := BodyE l E ∧ (E ≠ 0 → S = ⟨#[]⟩) ∧ (E = 0 → S = bs (bdy (l.getD 0 dri).r.t 0 (l.map RI.r)))
set_option maxHeartbeats 1000000 in
set_option maxRecDepth 20000 in
theorem body_no (l : List RI) (a : Option Addr) (cap : Nat) (w : World) (hn : ¬ (1 ≤ l.length ∧ l.length ≤ 65536)) :
    Calls Try.prog 7 #[.slice a l.length cap] w fun e w' => (∃ (E : Nat) (S : ByteArray), e = .returned (.tuple #[.string S, .int .i64 E]) ∧ BodyP l E S) ∧ Below w.heap.size w w' := by
  have CI := hid (fun w => iscount_no l.length w (by omega))
  have HP : Hid (BodyP l 28 ⟨#[]⟩) := ⟨Or.inl ⟨hn, rfl⟩, fun _ => rfl, fun h => absurd h (by decide)⟩
  clear hn
  go_enter Try.func7, Try.ntmps7
  go_wp2_with (go_at_call 21; refine (CI.out _).mono ?_; rintro e w' ⟨rfl, rfl⟩)
  go_ret2
  exact ⟨⟨28, _, rfl, HP.out⟩, Below.refl _ _⟩
set_option maxHeartbeats 1000000 in
set_option maxRecDepth 20000 in
theorem body_yes (l : List RI) (a : Option Addr) (cap : Nat) (w : World) (V : Rcs w a l) (hT : ∀ x ∈ l, I64 x.r.t) (hM : ∀ x ∈ l, Mod x.r) (hL : 1 ≤ l.length ∧ l.length ≤ 65536) :
    Calls Try.prog 7 #[.slice a l.length cap] w fun e w' => (∃ (E : Nat) (S : ByteArray), e = .returned (.tuple #[.string S, .int .i64 E]) ∧ BodyP l E S) ∧ Below w.heap.size w w' := by
  have CI := hid (fun w => iscount_yes l.length w (by omega))
  have HL := hid hL
  have hl0 : 0 < l.length := by omega
  have CFt := hid (fitbody_any l a cap (l.getD 0 dri).r.t w V (hT _ (riD_mem hl0)) hT hM hL.2)
  have HVV := hid V
  have HT := hid hT
  have HM := hid hM
  rcases V.2 with h | ⟨b, off, rfl, hbl, hc⟩
  · rw [h] at hl0; simp at hl0
  have q0 : w.cell? ⟨b, off, none⟩ = some (.int .i64 (l.getD 0 dri).r.t) := by simpa using (hc 0 hl0).1
  have b1 : (0 : Int) < l.length := by omega
  generalize hfi : (l.getD 0 dri).r.t = first at *
  clear V hT hM hL hc
  go_enter Try.func7, Try.ntmps7
  go_wp2_with (go_at_call 21; refine (CI.out _).mono ?_; rintro e w' ⟨rfl, rfl⟩)
  refine CFt.out.mono ?_
  rintro e w1 ⟨⟨E, rfl, hE⟩, hb1⟩
  have HB1 := hid hb1
  have HV1 := hid (HVV.out.below hb1)
  clear hb1 q0
  by_cases hz : E = 0
  · subst hz
    obtain ⟨h1, h2⟩ := (fit_zero hE).1 rfl
    have HP : Hid (BodyP l 0 (bs (bdy first 0 (l.map RI.r)))) := ⟨Or.inr ⟨HL.out, by rw [hfi]; exact hE⟩, fun h => absurd rfl h, fun _ => by rw [hfi]⟩
    have H1 := hid h1
    clear hE h1
    go_wp2_with fail
    have hw0 : Wr (w1.alloc (.cells #[.int .i64 0, .slice none 0 0] 64)) w1.heap.size (w1.heap.size + 1) [] := wr_new (heap_new _ _) (Nat.lt_succ_self _) (by simp)
    have hbW : Below w1.heap.size w1 (w1.alloc (.cells #[.int .i64 0, .slice none 0 0] 64)) := (Below.refl _ _).alloc (Nat.le_refl _) _
    generalize w1.alloc (.cells #[.int .i64 0, .slice none 0 0] 64) = W at *
    have HBW := hid hbW
    have HSW := hid hbW.size
    go_loopg [25] l.length (fun k i wr => ∃ j : Nat, j + k = l.length ∧ i = .int .i64 j ∧ Hid (Wr wr w1.heap.size (w1.heap.size + 1) (bdy first 0 ((l.take j).map RI.r))) ∧ Hid (Ch (WU w1.heap.size (w1.heap.size + 1) W) W wr))
    case atStart => exact ⟨0, by omega, rfl, hw0, Ch.refl _ _⟩
    case round =>
      clear hw0 hbW
      obtain ⟨j, hk, rfl, HWR, HCH⟩ := hrel
      have hb1w : Below w1.heap.size w1 wr := HBW.out.trans (HCH.out.below HSW.out (fun i hi hs => by rcases hs with rfl | ⟨h, _⟩ <;> omega))
      by_cases hlt : j < l.length
      · obtain ⟨k, rfl⟩ : ∃ k, gk = k + 1 := ⟨gk - 1, by omega⟩
        have HTK := hid (bdy_take first hlt)
        have htl2 := bdy_take_le first l (j + 1)
        rw [HTK.out, List.length_append] at htl2
        obtain ⟨_, hi, _, _⟩ := sze_ok (H1.out j hlt)
        have hm := HM.out _ (riD_mem hlt)
        have hH := HV1.out.1 _ (riD_mem hlt)
        have c1 := fun x h0 h => wrec_any w1.heap.size (w1.heap.size + 1) (bdy first 0 ((l.take j).map RI.r)) (l.getD j dri).r (l.getD j dri).a (l.getD j dri).cap first j w1 x hH h0 (Nat.le_refl _) h hi (by omega) hm (by omega)
        rcases (HV1.out.below hb1w).2 with h | ⟨b', off', e', hbl', hc⟩
        · rw [h] at hlt; simp at hlt
        injection e' with e'
        injection e' with e1 e2
        subst e1 e2
        obtain ⟨q0, q1, q2, q3, q4, q5⟩ := hc j hlt
        have i1 : (0 : Int) ≤ (j : Int) := by omega
        have i2 : (j : Int) < l.length := by omega
        have CW := hid c1
        have HB2 := hid hb1w
        rw [← HTK.out] at CW
        clear c1 hc hm hH HTK htl2 hi hb1w
        generalize l.getD j dri = x at *
        obtain ⟨⟨t, kh, kd, vh, vd, hs⟩, xa, xc⟩ := x
        simp only [recV] at *
        go_wp2_with fail
        refine (CW.out _ (HB2.out.alloc HB2.out.size _) (HWR.out.alloc _)).mono ?_
        rintro e w2 ⟨rfl, hw2, hc2⟩
        have HW2 := hid hw2
        have HC2 : Hid (Ch (WU w1.heap.size (w1.heap.size + 1) W) W w2) := (HCH.out.alloc _).tu hc2
        clear hw2 hc2 q0 q1 q2 q3 q4 q5 CW
        go_wp2_with fail
        go_roundg k
        case measure => omega
        case rel => exact ⟨j + 1, by omega, by go_num, HW2, HC2⟩
      · have hj : j = l.length := by omega
        subst hj
        have hwr := HWR.out
        rw [List.take_length] at hwr
        have CY := hid (wbytes_any _ _ _ _ hwr)
        have HBF := hid (HB1.out.trans (hb1w.mono HB1.out.size))
        clear hwr hb1w
        go_wp2_with (go_at_call 17; refine CY.out.mono ?_; rintro e y6 ⟨rfl, rfl⟩)
        go_ret2
        exact ⟨⟨0, _, rfl, HP.out⟩, HBF.out⟩
  · have hne : ((E : Int) != 0) = true := by rw [bne_iff_ne]; omega
    have HP : Hid (BodyP l E ⟨#[]⟩) := ⟨Or.inr ⟨HL.out, by rw [hfi]; exact hE⟩, fun _ => rfl, fun h => absurd h hz⟩
    clear hz hE
    go_wp2_with fail
    go_ret2
    exact ⟨⟨E, _, rfl, HP.out⟩, HB1.out⟩
theorem body_any (l : List RI) (a : Option Addr) (cap : Nat) (w : World) (V : Rcs w a l) (hT : ∀ x ∈ l, I64 x.r.t) (hM : ∀ x ∈ l, Mod x.r) :
    Calls Try.prog 7 #[.slice a l.length cap] w fun e w' => (∃ (E : Nat) (S : ByteArray), e = .returned (.tuple #[.string S, .int .i64 E]) ∧ BodyP l E S) ∧ Below w.heap.size w w' := by
  by_cases h : 1 ≤ l.length ∧ l.length ≤ 65536
  · exact body_yes l a cap w V hT hM h
  · exact body_no l a cap w h
end Go.Proofs.Ytafogjilheniiab
