/- RecordWhole's walk: records, their body, and records again. -/
import Derived.Test.YtafogjilheniiabRecW
import Derived.Test.YtafogjilheniiabFm5
import Derived.Test.YtafogjilheniiabRecsOpen
import Derived.Deep.RegionHeld3
namespace Go.Proofs.Ytafogjilheniiab
open Go.RowKit
set_option maxHeartbeats 2000000 in
set_option maxRecDepth 20000 in
theorem whole_walk (l : List RI) (a : Option Addr) (cap : Nat) (s : ByteArray) (first count : Int) (w : World) (V : Rcs w a l) (hT : ∀ x ∈ l, I64 x.r.t) (hM : ∀ x ∈ l, Mod x.r) (hf : I64 first) (hL : l.length ≤ 1048576) :
    Calls Try.prog 3 #[.slice a l.length cap, .string s, .int .i64 first, .int .i64 count] w fun e w' => e = .returned (.bool true) ∧ Below w.heap.size w w' := by
  have CFm := hid (fun x => forms_any x)
  have CRB := hid (fun x => rbody_any s first count x hf)
  have CBd := hid (fun x V => body_any l a cap x V hT hM)
  have HVV := hid V
  have HT := hid hT
  have HM := hid hM
  have HL := hid hL
  clear V hT hM hf hL
  go_enter Try.func3, Try.ntmps3
  go_wp2_with fail
  refine (CFm.out _).mono ?_
  rintro e w1 ⟨rfl, hb1⟩
  have HB1 := hid hb1
  have HV1 := hid (HVV.out.below hb1)
  clear hb1 HVV
  go_wp2_with fail
  refine (CBd.out _ HV1.out).mono ?_
  rintro e w2 ⟨⟨E, S, rfl, hP⟩, hb2⟩
  have HB2 := hid (bel_next HB1.out (Nat.le_refl _) hb2)
  have HV2 := hid (HV1.out.below hb2)
  clear hb2 HV1
  by_cases hz : E = 0
  · subst hz
    obtain ⟨hLL, hSz, hzz, hbl, hrb, x9, hrb9⟩ := body_back HT.out HM.out hP
    have hl0 : 0 < l.length := by omega
    have hT0 := HT.out _ (riD_mem hl0)
    have crb := fun x => rbody_any S (l.getD 0 dri).r.t l.length x hT0
    have crb9 := fun x => rbody_any S (l.getD 0 dri).r.t (l.length + 1 : Nat) x hT0
    simp only [hrb] at crb
    simp only [hrb9] at crb9
    have CR1 := hid crb
    have CR9 := hid crb9
    have HZZ := hid hzz
    have HSB : Hid (bs (bdy (l.getD 0 dri).r.t 0 (l.map RI.r)) = S) := by show _ = _; rw [← hbl, bs_bl]
    have HSZ := hid hSz
    have HLL := hid hLL
    clear crb crb9 hrb hrb9 hzz hbl hSz hP hLL
    have hT0' := hid hT0
    rcases HV2.out.2 with h | ⟨b, off, rfl, hblk, hc⟩
    · rw [h] at hl0; simp at hl0
    have q0 : w2.cell? ⟨b, off, none⟩ = some (.int .i64 (l.getD 0 dri).r.t) := by simpa using (hc 0 hl0).1
    have i0 : (0 : Int) < l.length := by omega
    have HC := hid hc
    clear hc hT0
    generalize hfi : (l.getD 0 dri).r.t = f0 at *
    go_wp2_with fail
    refine (CR1.out _).mono ?_
    rintro e w3 ⟨hb3, v2, l2, rfl, hH2, hl2⟩
    obtain ⟨a2, cap2, rfl, hR2⟩ := hH2.slice
    have hll : l2.length = l.length := by have := congrArg List.length hl2; simpa using this
    have hge : ∀ j, j < l.length → (l2.getD j dri).r = cln (l.getD j dri).r := fun j hj => by
      have := congrArg (fun z => z[j]?) hl2
      simp only [List.getElem?_map] at this
      rw [List.getElem?_eq_getElem (by omega), List.getElem?_eq_getElem hj] at this
      rw [List.getD_eq_getElem?_getD, List.getD_eq_getElem?_getD, List.getElem?_eq_getElem (show j < l2.length by omega), List.getElem?_eq_getElem hj]
      injection this
    have HR2 := hid hR2
    have HGE := hid hge
    have HB3 := hid (bel_next HB2.out (Nat.le_refl _) hb3)
    have HV3 := hid (HV2.out.below hb3)
    have HB3' := hid hb3.size
    rw [hll]
    have HLL2 := hid hll
    clear hb3 hH2 hl2 hR2 hge hll q0
    go_wp2_with fail
    have hn1 : wrap64 ((l.length : Int) + 1) = ((l.length + 1 : Nat) : Int) := by have := HLL.out; unfold wrap64; omega
    go_loopg [13, 54] l.length (fun k al i wr => ∃ j : Nat, j + k = l.length ∧ al = .string (bs (bdy f0 0 ((l.take j).map RI.r))) ∧ i = .int .i64 j ∧ Hid (Below w3.heap.size w3 wr))
    case atStart => exact ⟨0, by omega, rfl, rfl, Below.refl _ _⟩
    case round =>
      obtain ⟨j, hk, rfl, rfl, HB⟩ := hrel
      have hVr := HV3.out.below HB.out
      rcases hVr.2 with h | ⟨b', off', e', _, hc⟩
      · rw [h] at hl0; simp at hl0
      injection e' with e'
      injection e' with e1 e2
      subst e1 e2
      have q0 : wr.cell? ⟨b, off, none⟩ = some (.int .i64 f0) := by
        have := (hc 0 hl0).1
        rw [hfi] at this
        simpa using this
      by_cases hlt : j < l.length
      · obtain ⟨k, rfl⟩ : ∃ k, gk = k + 1 := ⟨gk - 1, by omega⟩
        have HTK := hid (bdy_take f0 hlt)
        have htl := bdy_take_le f0 l (j + 1)
        have hsb : (bdy f0 0 (l.map RI.r)).length ≤ 16777216 := by have h1 := HSZ.out; rw [← HSB.out, bs_size] at h1; exact h1
        rw [HTK.out, List.length_append] at htl
        have hH := hVr.1 _ (riD_mem hlt)
        have hx0 := HZZ.out j hlt
        have c1 := fun x V => bytes_ok (l.getD j dri).r (l.getD j dri).a (l.getD j dri).cap f0 j x V (HT.out _ (riD_mem hlt)) hT0'.out (HM.out _ (riD_mem hlt)) hx0
        simp only [Int.toNat_natCast] at c1
        obtain ⟨q10, q11, q12, q13, q14, q15⟩ := hc j hlt
        have hmn := (HM.out _ (riD_mem hlt)).n
        have hR := HR2.out.below HB.out
        have hH2 := hR.1 _ (riD_mem (show j < l2.length by have := HLL2.out; omega))
        rcases hR.2 with h | ⟨b2, off2, rfl, hbl2, hc2⟩
        · have := HLL2.out; rw [h] at this; simp at this; omega
        obtain ⟨p0, p1, p2, p3, p4, p5⟩ := hc2 j (by have := HLL2.out; omega)
        have hge := HGE.out j hlt
        have hca : ¬ 9223372036854775807 < (bs (bdy f0 0 ((l.take j).map RI.r))).size + (bs (fm ((l.getD j dri).r.t - f0) j (l.getD j dri).r)).size := by rw [bs_size, bs_size]; omega
        have HAC : Hid (bs (bdy f0 0 ((l.take (j + 1)).map RI.r)) = bs (bdy f0 0 ((l.take j).map RI.r)) ++ bs (fm ((l.getD j dri).r.t - f0) j (l.getD j dri).r)) := by show _ = _; rw [HTK.out, bs_cat]
        have i1 : (0 : Int) ≤ (j : Int) := by omega
        have i2 : (j : Int) < l.length := by omega
        generalize bs (fm ((l.getD j dri).r.t - f0) j (l.getD j dri).r) = FB at *
        generalize bs (bdy f0 0 ((l.take j).map RI.r)) = AL at *
        generalize l.getD j dri = x at *
        generalize l2.getD j dri = y at *
        obtain ⟨yr, ya, yc⟩ := y
        dsimp only at hge
        subst hge
        have c2 := fun z V1 V2 => same_cln x.r x.a ya x.cap yc z V1 V2 hmn
        obtain ⟨⟨t, kh, kd, vh, vd, hs⟩, xa, xc⟩ := x
        have hlen2 : (cln ⟨t, kh, kd, vh, vd, hs⟩).hs.length = hs.length := List.length_map _
        simp only [recV, hlen2] at p5 c1 c2
        simp only [cln] at p0 p1 p2 p3 p4 c2
        dsimp only at q10 q11 q12 q13 q14 q15 hH hH2
        have hbw : b < wr.heap.size := Nat.lt_of_lt_of_le hblk (Nat.le_trans HB3'.out HB.out.size)
        have HS : Hid (∀ x, Below wr.heap.size wr x → ((fun x => ((x.cell? ⟨b, off, none⟩ = some (.int .i64 f0) ∧ x.cell? ⟨b, off + j * 6, none⟩ = some (.int .i64 t) ∧ x.cell? ⟨b, off + j * 6 + 1, none⟩ = some (.bool kh) ∧ x.cell? ⟨b, off + j * 6 + 2, none⟩ = some (.string kd) ∧ x.cell? ⟨b, off + j * 6 + 3, none⟩ = some (.bool vh) ∧ x.cell? ⟨b, off + j * 6 + 4, none⟩ = some (.string vd) ∧ x.cell? ⟨b, off + j * 6 + 5, none⟩ = some (.slice xa hs.length xc)) ∧ (x.cell? ⟨b2, off2 + j * 6, none⟩ = some (.int .i64 t) ∧ x.cell? ⟨b2, off2 + j * 6 + 1, none⟩ = some (.bool kh) ∧ x.cell? ⟨b2, off2 + j * 6 + 2, none⟩ = some (.string (bd kh kd)) ∧ x.cell? ⟨b2, off2 + j * 6 + 3, none⟩ = some (.bool vh) ∧ x.cell? ⟨b2, off2 + j * 6 + 4, none⟩ = some (.string (bd vh vd)) ∧ x.cell? ⟨b2, off2 + j * 6 + 5, none⟩ = some (.slice ya hs.length yc))) ∧ Below wr.heap.size wr x)) x) := fun x hx => ⟨⟨⟨(hx.cell (p := ⟨b, off, none⟩) (by first | exact hbw | exact hbl2)).trans q0, (hx.cell (p := ⟨b, off + j * 6, none⟩) (by first | exact hbw | exact hbl2)).trans q10, (hx.cell (p := ⟨b, off + j * 6 + 1, none⟩) (by first | exact hbw | exact hbl2)).trans q11, (hx.cell (p := ⟨b, off + j * 6 + 2, none⟩) (by first | exact hbw | exact hbl2)).trans q12, (hx.cell (p := ⟨b, off + j * 6 + 3, none⟩) (by first | exact hbw | exact hbl2)).trans q13, (hx.cell (p := ⟨b, off + j * 6 + 4, none⟩) (by first | exact hbw | exact hbl2)).trans q14, (hx.cell (p := ⟨b, off + j * 6 + 5, none⟩) (by first | exact hbw | exact hbl2)).trans q15⟩, ⟨(hx.cell (p := ⟨b2, off2 + j * 6, none⟩) (by first | exact hbw | exact hbl2)).trans p0, (hx.cell (p := ⟨b2, off2 + j * 6 + 1, none⟩) (by first | exact hbw | exact hbl2)).trans p1, (hx.cell (p := ⟨b2, off2 + j * 6 + 2, none⟩) (by first | exact hbw | exact hbl2)).trans p2, (hx.cell (p := ⟨b2, off2 + j * 6 + 3, none⟩) (by first | exact hbw | exact hbl2)).trans p3, (hx.cell (p := ⟨b2, off2 + j * 6 + 4, none⟩) (by first | exact hbw | exact hbl2)).trans p4, (hx.cell (p := ⟨b2, off2 + j * 6 + 5, none⟩) (by first | exact hbw | exact hbl2)).trans p5⟩⟩, hx⟩
        have CB1 := hid (fun x (hx : Below wr.heap.size wr x) => (c1 x (hH.below hx)).mono (fun _ _ h => And.intro h.1 (bel_next hx (Nat.le_refl _) h.2)))
        have CS1 := hid (fun x (hx : Below wr.heap.size wr x) => (c2 x (hH2.below hx) (hH.below hx)).mono (fun _ _ h => And.intro h.1 (bel_next hx (Nat.le_refl _) h.2)))
        have h0 : Below wr.heap.size wr wr := Below.refl _ _
        clear c1 c2 hc hc2 hVr hR HTK htl hsb hx0 hH hH2 p0 p1 p2 p3 p4 p5 q0 q10 q11 q12 q13 q14 q15 hbw hbl2
        go_wp2_with fail
        go_region_held3 (fun x => ((x.cell? ⟨b, off, none⟩ = some (.int .i64 f0) ∧ x.cell? ⟨b, off + j * 6, none⟩ = some (.int .i64 t) ∧ x.cell? ⟨b, off + j * 6 + 1, none⟩ = some (.bool kh) ∧ x.cell? ⟨b, off + j * 6 + 2, none⟩ = some (.string kd) ∧ x.cell? ⟨b, off + j * 6 + 3, none⟩ = some (.bool vh) ∧ x.cell? ⟨b, off + j * 6 + 4, none⟩ = some (.string vd) ∧ x.cell? ⟨b, off + j * 6 + 5, none⟩ = some (.slice xa hs.length xc)) ∧ (x.cell? ⟨b2, off2 + j * 6, none⟩ = some (.int .i64 t) ∧ x.cell? ⟨b2, off2 + j * 6 + 1, none⟩ = some (.bool kh) ∧ x.cell? ⟨b2, off2 + j * 6 + 2, none⟩ = some (.string (bd kh kd)) ∧ x.cell? ⟨b2, off2 + j * 6 + 3, none⟩ = some (.bool vh) ∧ x.cell? ⟨b2, off2 + j * 6 + 4, none⟩ = some (.string (bd vh vd)) ∧ x.cell? ⟨b2, off2 + j * 6 + 5, none⟩ = some (.slice ya hs.length yc))) ∧ Below wr.heap.size wr x) (first | with_reducible exact HS.out _ (by assumption) | with_reducible exact HS.out _ (Below.drew (by assumption))) (first | (go_at_call 9; refine (CB1.out _ ?_).mono ?_; (first | assumption | exact Below.drew (by assumption)); rintro e w' ⟨rfl, hbel⟩))
        all_goals
          go_wp2_with fail
          go_region_held3 (fun x => ((x.cell? ⟨b, off, none⟩ = some (.int .i64 f0) ∧ x.cell? ⟨b, off + j * 6, none⟩ = some (.int .i64 t) ∧ x.cell? ⟨b, off + j * 6 + 1, none⟩ = some (.bool kh) ∧ x.cell? ⟨b, off + j * 6 + 2, none⟩ = some (.string kd) ∧ x.cell? ⟨b, off + j * 6 + 3, none⟩ = some (.bool vh) ∧ x.cell? ⟨b, off + j * 6 + 4, none⟩ = some (.string vd) ∧ x.cell? ⟨b, off + j * 6 + 5, none⟩ = some (.slice xa hs.length xc)) ∧ (x.cell? ⟨b2, off2 + j * 6, none⟩ = some (.int .i64 t) ∧ x.cell? ⟨b2, off2 + j * 6 + 1, none⟩ = some (.bool kh) ∧ x.cell? ⟨b2, off2 + j * 6 + 2, none⟩ = some (.string (bd kh kd)) ∧ x.cell? ⟨b2, off2 + j * 6 + 3, none⟩ = some (.bool vh) ∧ x.cell? ⟨b2, off2 + j * 6 + 4, none⟩ = some (.string (bd vh vd)) ∧ x.cell? ⟨b2, off2 + j * 6 + 5, none⟩ = some (.slice ya hs.length yc))) ∧ Below wr.heap.size wr x) (first | with_reducible exact HS.out _ (by assumption) | with_reducible exact HS.out _ (Below.drew (by assumption))) (first | (go_at_call 10; refine (CS1.out _ ?_).mono ?_; (first | assumption | exact Below.drew (by assumption)); rintro e w' ⟨rfl, hbel2⟩))
          all_goals
            rename_i hH9
            have HB2y := hid (bel_next HB.out (Nat.le_refl _) hH9.2)
            clear hH9
            go_wp2_with fail
            go_roundg k
            case measure => omega
            case rel => have hCC := HLL.out; have ew : wrap64 ((j : Int) + 1) = ((j + 1 : Nat) : Int) := by { unfold wrap64; omega }; exact ⟨j + 1, by omega, by rw [HAC.out], congrArg (Value.int .i64) ew, HB2y⟩
      · have hj : j = l.length := by omega
        subst hj
        rw [List.take_length, HSB.out]
        have HB9 := hid (bel_next HB3.out (Nat.le_refl _) HB.out)
        clear hc hVr
        go_wp2_with fail
        refine (CR9.out _).mono ?_
        rintro e w9 ⟨hb9, rfl, hx9⟩
        have hne9 : ((x9 : Int) == 0) = false := by rw [beq_eq_false_iff_ne]; omega
        have HBT := hid (bel_next HB9.out (Nat.le_refl _) hb9)
        clear hb9 hx9 q0 HSB
        go_wp2_with fail
        refine (CRB.out _).mono ?_
        rintro e wA ⟨hbA, hmA⟩
        have HBA := hid (bel_next HBT.out (Nat.le_refl _) hbA)
        clear hbA
        cases hr : rbd s first count with
        | error x =>
          rw [hr] at hmA
          obtain ⟨rfl, hx⟩ := hmA
          have hne : ((x : Int) != 0) = true := by rw [bne_iff_ne]; omega
          clear hr hx CRB
          go_wp2_with fail
          go_ret
          exact ⟨rfl, HBA.out⟩
        | ok y =>
          rw [hr] at hmA
          obtain ⟨v3, l3, rfl, hH3, rfl⟩ := hmA
          obtain ⟨a3, cap3, rfl, hV3⟩ := hH3.slice
          obtain ⟨hG3, hlen3, hpos3, ht3, _, hP3⟩ := body_again hr
          have CB3 := hid (body_any l3 a3 cap3 wA hV3 (fun x hx => (hG3 x hx).1) (fun x hx => (hG3 x hx).2))
          have HP3 := hid hP3
          have HV3 := hid hV3
          have HPOS := hid hpos3
          have HT3 := hid ht3
          have HL3 := hid hlen3
          clear hr hH3 hV3 hG3 hlen3 hpos3 ht3 hP3 CRB
          go_wp2_with fail
          refine CB3.out.mono ?_
          rintro e wB ⟨⟨E3, S3, rfl, hP⟩, hbB⟩
          obtain ⟨rfl, rfl⟩ := HP3.out _ _ hP
          have HBB := hid (bel_next HBA.out (Nat.le_refl _) hbB)
          have hV4 := HV3.out.below hbB
          clear hP hbB CB3
          rcases hV4.2 with h | ⟨b3, off3, rfl, hbl3, hc3⟩
          · have := HPOS.out; rw [h] at this; simp at this
          have q3 : wB.cell? ⟨b3, off3, none⟩ = some (.int .i64 first) := by
            have := (hc3 0 HPOS.out).1
            rw [HT3.out] at this
            simpa using this
          have i3 : (0 : Int) < l3.length := by have := HPOS.out; omega
          have e3 : ((l3.length : Int) == count) = true := by rw [beq_iff_eq]; exact HL3.out
          clear hV4 hc3
          go_wp2_with fail
          go_ret
          exact ⟨rfl, HBB.out⟩
  · have hne : ((E : Int) == 0) = false := by rw [beq_eq_false_iff_ne]; omega
    have HBT := HB2
    clear hP hz
    go_wp2_with fail
    refine (CRB.out _).mono ?_
    rintro e wA ⟨hbA, hmA⟩
    have HBA := hid (bel_next HBT.out (Nat.le_refl _) hbA)
    clear hbA
    cases hr : rbd s first count with
    | error x =>
      rw [hr] at hmA
      obtain ⟨rfl, hx⟩ := hmA
      have hne : ((x : Int) != 0) = true := by rw [bne_iff_ne]; omega
      clear hr hx CRB
      go_wp2_with fail
      go_ret
      exact ⟨rfl, HBA.out⟩
    | ok y =>
      rw [hr] at hmA
      obtain ⟨v3, l3, rfl, hH3, rfl⟩ := hmA
      obtain ⟨a3, cap3, rfl, hV3⟩ := hH3.slice
      obtain ⟨hG3, hlen3, hpos3, ht3, _, hP3⟩ := body_again hr
      have CB3 := hid (body_any l3 a3 cap3 wA hV3 (fun x hx => (hG3 x hx).1) (fun x hx => (hG3 x hx).2))
      have HP3 := hid hP3
      have HV3 := hid hV3
      have HPOS := hid hpos3
      have HT3 := hid ht3
      have HL3 := hid hlen3
      clear hr hH3 hV3 hG3 hlen3 hpos3 ht3 hP3 CRB
      go_wp2_with fail
      refine CB3.out.mono ?_
      rintro e wB ⟨⟨E3, S3, rfl, hP⟩, hbB⟩
      obtain ⟨rfl, rfl⟩ := HP3.out _ _ hP
      have HBB := hid (bel_next HBA.out (Nat.le_refl _) hbB)
      have hV4 := HV3.out.below hbB
      clear hP hbB CB3
      rcases hV4.2 with h | ⟨b3, off3, rfl, hbl3, hc3⟩
      · have := HPOS.out; rw [h] at this; simp at this
      have q3 : wB.cell? ⟨b3, off3, none⟩ = some (.int .i64 first) := by
        have := (hc3 0 HPOS.out).1
        rw [HT3.out] at this
        simpa using this
      have i3 : (0 : Int) < l3.length := by have := HPOS.out; omega
      have e3 : ((l3.length : Int) == count) = true := by rw [beq_iff_eq]; exact HL3.out
      clear hV4 hc3
      go_wp2_with fail
      go_ret
      exact ⟨rfl, HBB.out⟩
end Go.Proofs.Ytafogjilheniiab
