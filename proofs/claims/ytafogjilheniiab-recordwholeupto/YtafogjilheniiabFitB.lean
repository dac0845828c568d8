/- What fitBody answers of any records. -/
import Derived.Test.YtafogjilheniiabRecL
namespace Go.Proofs.Ytafogjilheniiab
open Go.RowKit
set_option maxHeartbeats 1000000 in
set_option maxRecDepth 20000 in
theorem fitbody_any (l : List RI) (a : Option Addr) (cap : Nat) (first : Int) (w : World) (V : Rcs w a l) (hf : I64 first) (hT : ∀ x ∈ l, I64 x.r.t) (hM : ∀ x ∈ l, Mod x.r) (hL : l.length ≤ 65536) :
    Calls Try.prog 22 #[.slice a l.length cap, .int .i64 first] w fun e w' => (∃ E : Nat, e = .returned (.int .i64 E) ∧ FitE l first E) ∧ Below w.heap.size w w' := by
  have HVV := hid V
  have HT := hid hT
  have HM := hid hM
  have HF := hid hf
  clear V hT hM hf
  go_enter Try.func22, Try.ntmps22
  go_wp2_with fail
  go_loopg [5, 12] l.length (fun k v i wr => ∃ j : Nat, j + k = l.length ∧ v = .int .i64 (bdy first 0 ((l.take j).map RI.r)).length ∧ i = .int .i64 j ∧ Hid (∀ i, i < j → sze (l.getD i dri).r first i = 0) ∧ Hid (Below w.heap.size w wr))
  case atStart => exact ⟨0, by omega, rfl, rfl, fun i hi => by omega, Below.refl _ _⟩
  case round =>
    obtain ⟨j, hk, rfl, rfl, HZ, HB⟩ := hrel
    have hsm := bdy_small first l j (by omega) HZ.out
    by_cases hlt : j < l.length
    · obtain ⟨k, rfl⟩ : ∃ k, gk = k + 1 := ⟨gk - 1, by omega⟩
      have HTK := hid (bdy_take first hlt)
      have hV := HVV.out.below HB.out
      have hH := hV.1 _ (riD_mem hlt)
      rcases hV.2 with h | ⟨b, off, rfl, hbl, hc⟩
      · rw [h] at hlt; simp at hlt
      have c1 := fun x V => size5_any (l.getD j dri).r (l.getD j dri).a (l.getD j dri).cap first j x V (HT.out _ (riD_mem hlt)) HF.out (HM.out _ (riD_mem hlt))
      obtain ⟨q0, q1, q2, q3, q4, q5⟩ := hc j hlt
      have b1 : (0 : Int) ≤ (j : Int) := by omega
      have b2 : (j : Int) < l.length := by omega
      have HH := hid hH
      have HLT := hid hlt
      by_cases hz : sze (l.getD j dri).r first j = 0
      · have hsn : szn (l.getD j dri).r first j = (fm ((l.getD j dri).r.t - first) j (l.getD j dri).r).length := by unfold szn; rw [if_pos hz, Int.toNat_natCast]
        have hf4 := (sze_ok hz).2.2.2
        rw [Int.toNat_natCast] at hf4
        have HZ2 : Hid (∀ i, i < j + 1 → sze (l.getD i dri).r first i = 0) := fun i hi => by
          by_cases h : i < j
          · exact HZ.out i h
          · have : i = j := by omega
            subst this; exact hz
        simp only [hsn, hz] at c1
        have hla : (bdy first 0 ((l.take (j + 1)).map RI.r)).length = (bdy first 0 ((l.take j).map RI.r)).length + (fm ((l.getD j dri).r.t - first) j (l.getD j dri).r).length := by rw [HTK.out, List.length_append]
        have HLA := hid hla
        generalize (fm ((l.getD j dri).r.t - first) j (l.getD j dri).r).length = F at *
        generalize (bdy first 0 ((l.take j).map RI.r)).length = L0 at *
        have hwr : wrap64 ((L0 : Int) + (F : Int)) = ((L0 + F : Nat) : Int) := by unfold wrap64; omega
        have CS := hid c1
        clear c1 hV hH hc hz hsn hla HTK HZ
        generalize l.getD j dri = x at *
        obtain ⟨⟨t, kh, kd, vh, vd, hs⟩, xa, xc⟩ := x
        simp only [recV] at *
        go_wp2_with fail
        refine (CS.out _ (HH.out.below ((Below.refl _ wr).alloc (Nat.le_refl _) _))).mono ?_
        rintro e w1 ⟨rfl, hb1⟩
        have HB1 := hid (bel_next HB.out (Nat.le_refl _) (bel_al hb1))
        clear hb1 q0 q1 q2 q3 q4 q5
        go_wp2_with fail
        go_roundg k
        case measure => omega
        case rel => exact ⟨j + 1, by omega, by rw [HLA.out]; go_num, by go_num, HZ2, HB1⟩
      · have hne : (((sze (l.getD j dri).r first j : Nat) : Int) != 0) = true := by rw [bne_iff_ne]; omega
        have HE : Hid (FitE l first (sze (l.getD j dri).r first j)) := Or.inl ⟨j, hlt, HZ.out, hz, rfl⟩
        generalize sze (l.getD j dri).r first j = E at *
        generalize szn (l.getD j dri).r first j = L at *
        have CS := hid c1
        clear c1 hV hH hc hz HTK HZ
        generalize l.getD j dri = x at *
        obtain ⟨⟨t, kh, kd, vh, vd, hs⟩, xa, xc⟩ := x
        simp only [recV] at *
        go_wp2_with fail
        refine (CS.out _ (HH.out.below ((Below.refl _ wr).alloc (Nat.le_refl _) _))).mono ?_
        rintro e w1 ⟨rfl, hb1⟩
        have HB1 := hid (bel_next HB.out (Nat.le_refl _) (bel_al hb1))
        clear hb1 q0 q1 q2 q3 q4 q5
        go_wp2_with fail
        go_ret
        exact ⟨⟨E, rfl, HE.out⟩, HB1.out⟩
    · have hj : j = l.length := by omega
      subst hj
      rw [List.take_length] at hsm ⊢
      have HZZ := HZ
      by_cases hbig : 16777216 < (bdy first 0 (l.map RI.r)).length
      · have HE : Hid (FitE l first 66) := Or.inr ⟨HZ.out, by rw [if_pos hbig]⟩
        have hd : decide ((16777216 : Int) < ((bdy first 0 (l.map RI.r)).length : Int)) = true := decide_eq_true (by omega)
        clear hbig hsm
        go_wp2_with fail
        go_ret
        exact ⟨⟨66, rfl, HE.out⟩, HB.out⟩
      · have HE : Hid (FitE l first 0) := Or.inr ⟨HZ.out, by rw [if_neg hbig]⟩
        have hd : decide ((16777216 : Int) < ((bdy first 0 (l.map RI.r)).length : Int)) = false := decide_eq_false (by omega)
        clear hbig hsm
        go_wp2_with fail
        go_ret
        exact ⟨⟨0, rfl, HE.out⟩, HB.out⟩
end Go.Proofs.Ytafogjilheniiab
