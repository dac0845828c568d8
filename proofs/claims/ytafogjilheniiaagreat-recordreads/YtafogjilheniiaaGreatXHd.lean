/- The document's reader of a record: its headers. -/
import Derived.Test.YtafogjilheniiaaGreatXRd
namespace Go.Proofs.YtafogjilheniiaaGreat
open Go.RowKit
def hd4 (p : ByteArray) (k : Nat) : Except Nat (List Hdr × Nat) := match uq p k 0 with
  | (c, k1, e1) => if e1 ≠ 0 then .error e1 else if 1024 < c then .error 5 else hdq p c k1
theorem r6_hd (p : ByteArray) (t : Int) (kh : Bool) (kd : ByteArray) (vh : Bool) (vd : ByteArray) (k : Nat) : r6 p t kh kd vh vd k = match hd4 p k with
    | .error e => .error e
    | .ok y => if y.2 < p.size then .error 26 else .ok ⟨t, kh, kd, vh, vd, y.1⟩ := by
  unfold r6 hd4
  obtain ⟨c, k1, e1, hC⟩ : ∃ c k1 e1, uq p k 0 = (c, k1, e1) := ⟨_, _, _, rfl⟩
  rw [hC]
  dsimp only
  by_cases h1 : e1 = 0
  · rw [if_neg (show ¬ (e1 ≠ 0) by simpa using h1), if_neg (show ¬ (e1 ≠ 0) by simpa using h1)]
    by_cases h2 : 1024 < c
    · rw [if_pos h2, if_pos h2]
    · rw [if_neg h2, if_neg h2]
      unfold r7
      cases hdq p c k1 with
      | error e => rfl
      | ok y => rfl
  · rw [if_pos (show e1 ≠ 0 from h1), if_pos (show e1 ≠ 0 from h1)]
def HXPost (b : Nat) (p : ByteArray) (B : Nat) (R : Except Nat (List Hdr × Nat)) (w : World) (r : Ending) (w' : World) : Prop :=
  Ch (fun i => i = b) w w' ∧ match R with
    | .error x => r = .returned (.tuple #[.slice none 0 0, .int .i64 x]) ∧ x ≠ 0
    | .ok y => ∃ v, r = .returned (.tuple #[v, .int .i64 0]) ∧ OwnH w' B v y.1 ∧ RX w' b p y.2 0 ∧ y.2 ≤ p.size
set_option maxHeartbeats 1000000 in
set_option maxRecDepth 20000 in
theorem xheaders_any (b : Nat) (p : ByteArray) (k : Nat) (w : World) (h : RX w b p k 0) (hk : k ≤ p.size) (hs : p.size ≤ 9223372036854775807) :
    Calls Tryz.prog 28 #[.pointer (some ⟨b, 0, none⟩)] w (HXPost b p w.heap.size (hd4 p k) w) := by
  generalize HT : hd4 p k = T
  unfold hd4 at HT
  obtain ⟨c, k1, e1, hA⟩ : ∃ c k1 e1, uq p k 0 = (c, k1, e1) := ⟨_, _, _, rfl⟩
  have c1 := xuvarint_any b p k 0 w h hk hs
  have hk1 := uq_le (e := 0) hk
  rw [hA] at c1 hk1 HT
  dsimp only at c1 hk1 HT
  have C1 := hid c1
  have hlb := h.lt
  clear c1 hA h
  by_cases h1 : e1 = 0
  · subst h1
    rw [if_neg (by simp)] at HT
    by_cases h2 : 1024 < c
    · rw [if_pos h2] at HT
      subst HT
      have hne : decide ((1024 : Int) < (c : Int)) = true := decide_eq_true (by omega)
      clear h2 hk1 hs
      go_enter Tryz.func28, Tryz.ntmps28
      go_wp2_with fail
      refine C1.out.mono ?_
      rintro r w1 ⟨rfl, h1, hc1⟩
      go_wp2_with fail
      go_ret2
      exact ⟨hc1, rfl, by decide⟩
    · rw [if_neg h2] at HT
      subst HT
      have hne : decide ((1024 : Int) < (c : Int)) = false := decide_eq_false (by omega)
      have H2 := hid h2
      have HK1 := hid hk1
      have HS := hid hs
      have hcv : IntKind.i64.wrap (c : Int) = c := wrap_in (by omega) (by omega)
      obtain ⟨i0, hi, hz0, hz1, hz2⟩ := info_parts Tryz.infoHdr
      clear h2 hk1 hs
      go_enter Tryz.func28, Tryz.ntmps28
      go_wp2_with fail
      refine C1.out.mono ?_
      rintro r w1 ⟨rfl, h1, hc1⟩
      have HC1 := hid hc1
      have H1 := hid h1
      clear hc1 h1
      go_wp2_with fail
      go_loopg [4, 7] c (fun g o i wr => ∃ (j kk : Nat) (acc : List Hdr), j + g = c ∧ i = .int .i64 j ∧ Hid (acc.length = j) ∧ Hid (kk ≤ p.size) ∧ Hid (hdq p c k1 = pre acc (hdq p g kk)) ∧ Hid (OwnH wr w.heap.size o acc) ∧ Hid (RX wr b p kk 0) ∧ Hid (Ch (fun i => i = b) w wr))
      case atStart => exact ⟨0, k1, [], by omega, rfl, rfl, HK1.out, (pre_nil _).symm, ownH_nil _ _, H1, HC1⟩
      case round =>
        clear HC1 H1
        obtain ⟨j, kk, acc, hk, rfl, HA, HKK, HP, HO, HR, HCH⟩ := hrel
        have h2 := H2.out
        by_cases hlt : j < c
        · obtain ⟨g, rfl⟩ : ∃ g, gk = g + 1 := ⟨gk - 1, by omega⟩
          obtain ⟨T, kt, et, hT⟩ : ∃ T kt et, tq MX p kk 0 = (T, kt, et) := ⟨_, _, _, rfl⟩
          obtain ⟨O, D, ko, eo, hO⟩ : ∃ O D ko eo, oq MX p kt et = (O, D, ko, eo) := ⟨_, _, _, _, rfl⟩
          have HST2 := hid (hdq_step p g kk T kt et O D ko eo hT hO)
          have hs := HS.out
          have hkk := HKK.out
          have ct := fun x h => xtext_any b p kk 0 ((p.size : Int) - kk) x h hkk hs (by omega) (by omega)
          have hkt := tq_le (m := MX) (e := 0) hkk
          simp only [tq_left hs, hT] at ct
          rw [hT] at hkt
          dsimp only at hkt
          have cl1 := fun x h => xleft_any b p kk 0 x h hkk hs
          have cl2 := fun x h => xleft_any b p kt 0 x h hkt hs
          have CT := hid ct
          have CL1 := hid cl1
          have CL2 := hid cl2
          have hlt' : (j : Int) < c := by omega
          have HLT := hid hlt
          clear ct cl1 cl2 hkk
          by_cases het : et = 0
          · subst het
            have hko := oq_le (m := MX) (e := 0) hkt
            rw [hO] at hko
            dsimp only at hko
            have co := fun x h => xopt_any b p kt 0 ((p.size : Int) - kt) x h hkt hs (by omega) (by omega)
            simp only [oq_left hs, hO] at co
            have CO := hid co
            have HKO := hid hko
            clear co hT hO hkt hko hs
            go_wp2_with fail
            refine (CL1.out _ HR.out).mono ?_
            rintro r w4 ⟨rfl, n4, rfl⟩
            go_wp2_with fail
            refine (CT.out _ (HR.out.drewN n4)).mono ?_
            rintro r w5 ⟨rfl, hr5, hc5⟩
            have HC5 := hid ((HCH.out.drewN n4).trans hc5)
            have HO5 : Hid (OwnH w5 w.heap.size u4 acc) := own_apart HO.out (fun x hx => by
              have hb := World.ownsRow.lt HO.out x hx
              exact hc5.block x hb.2 (by omega))
            have HR5 := hid hr5
            clear hr5 hc5
            go_wp2_with fail
            refine (CL2.out _ HR5.out).mono ?_
            rintro r w6 ⟨rfl, n6, rfl⟩
            go_wp2_with fail
            refine (CO.out _ (HR5.out.drewN n6)).mono ?_
            rintro r w7 ⟨rfl, hr7, hc7⟩
            have HC7 := hid ((HC5.out.drewN n6).trans hc7)
            have HO7 : Hid (OwnH w7 w.heap.size u4 acc) := own_apart HO5.out (fun x hx => by
              have hb := World.ownsRow.lt HO5.out x hx
              exact hc7.block x hb.2 (by omega))
            have HR7 := hid hr7
            have hsz7 := HC7.out.size
            clear hr7 hc7
            by_cases he : eo = 0
            · subst he
              have HN := hid (HST2.out.2 rfl)
              have ho6 : w7.ownsRow w.heap.size 81 3 u4 acc.length (hcs acc) := HO7.out
              have hal := HA.out
              rw [hal] at ho6
              clear HST2
              go_wp2_with (at_builtin; refine wpList_append_own _ rfl _ _ 25 rfl w.heap.size 81 i0 (.agg #[.string ⟨#[]⟩, .bool false, .string ⟨#[]⟩]) 3 40 Tryz.underHdrs hi hz0 hz1 hz2 rfl (by decide) _ _ _ rfl ((ho6.alloc _).alloc _) ⟨w7.heap.size + 1, 0, none⟩ 1 1 (hc1 (T, O, D)) rfl rfl ?c1 ?c2 ?c3 ?c4 ?c5 ?_)
              case c1 => first | exact fun j u h => h | exact cells_newN _ (hc1 (T, O, D)) _ _ (by simp)
              case c2 => exact hc1_one _
              case c3 => unfold maxLen; omega
              case c4 => omega
              case c5 => first | omega | (simp; omega)
              intro v' w9 hown9 hgrow9 _
              have hb9 : Below w.heap.size (w7.alloc (.cells #[.bool O, .string D] 24)) w9 := bel_step (Below.refl _ _) (ho6.alloc _) (by simp; omega) hgrow9
              have hc9 : Ch (fun i => i = b) w w9 := ⟨hb9.os.trans HC7.out.os, hb9.tape.trans HC7.out.tape, hb9.output.trans HC7.out.output, Nat.le_trans hsz7 (Nat.le_trans (by simp) hb9.size), fun i hi hs => ((hb9.block i hi).trans (Below.heap_alloc _ _ _ (by omega))).trans (HC7.out.block i hi hs)⟩
              have HR9 : Hid (RX w9 b p ko 0) := ((hb9.block b hlb).trans (Below.heap_alloc _ _ _ (by omega))).trans HR7.out
              have HC9 := hid hc9
              have HO9 : Hid (OwnH w9 w.heap.size v' (acc ++ [(T, O, D)])) := ownH_snoc hown9 HA.out
              clear hown9 hgrow9 ho6 hb9 hc9
              go_wp2_with fail
              go_roundg g
              case measure => omega
              case rel =>
                exact ⟨j + 1, ko, acc ++ [(T, O, D)], by omega, by go_num, by show _ = _; rw [List.length_append, HA.out]; rfl, HKO, by show _ = _; rw [HP.out, HN.out, pre_pre], HO9, HR9, HC9⟩
            · have hne2 : ((eo : Int) != 0) = true := by rw [bne_iff_ne]; omega
              have HN := hid (HST2.out.1 he)
              have HF : Hid (hdq p c k1 = .error eo) := by show _ = _; rw [HP.out, HN.out]; rfl
              have HE := hid he
              clear he HST2
              go_wp2_with fail
              go_ret2
              show HXPost _ _ _ _ _ _ _
              rw [HF.out]
              exact ⟨by first | exact HC7.out | exact HC7.out.alloc _, rfl, HE.out⟩
          · have hne2 : ((et : Int) != 0) = true := by rw [bne_iff_ne]; omega
            have hoe : eo = et := by rw [oq_stale het] at hO; injection hO with _ hO; injection hO with _ hO; injection hO with _ hO; exact hO.symm
            have HN := hid (HST2.out.1 (by rw [hoe]; exact het))
            have HF : Hid (hdq p c k1 = .error et) := by show _ = _; rw [HP.out, HN.out, hoe]; rfl
            have HE := hid het
            clear het HST2 hT hO hoe hkt hs CL2
            go_wp2_with fail
            refine (CL1.out _ HR.out).mono ?_
            rintro r w4 ⟨rfl, n4, rfl⟩
            go_wp2_with fail
            refine (CT.out _ (HR.out.drewN n4)).mono ?_
            rintro r w5 ⟨rfl, hr5, hc5⟩
            have HC5 := hid ((HCH.out.drewN n4).trans hc5)
            clear hr5 hc5
            go_wp2_with fail
            go_ret2
            show HXPost _ _ _ _ _ _ _
            rw [HF.out]
            exact ⟨by first | exact HC5.out | exact HC5.out.alloc _, rfl, HE.out⟩
        · have hj : gk = 0 := by omega
          subst hj
          have HF : Hid (hdq p c k1 = .ok (acc, kk)) := by show _ = _; rw [HP.out]; simp [hdq, pre]
          have hge : ¬ (j : Int) < c := by omega
          go_wp2_with fail
          go_ret2
          show HXPost _ _ _ _ _ _ _
          rw [HF.out]
          exact ⟨HCH.out, _, rfl, HO.out, HR.out, HKK.out⟩
  · rw [if_pos h1] at HT
    subst HT
    have hne : ((e1 : Int) != 0) = true := by rw [bne_iff_ne]; omega
    have HX := hid h1
    clear h1 hk1 hs
    go_enter Tryz.func28, Tryz.ntmps28
    go_wp2_with fail
    refine C1.out.mono ?_
    rintro r w1 ⟨rfl, h1, hc1⟩
    go_wp2_with fail
    go_ret2
    exact ⟨hc1, rfl, HX.out⟩
set_option maxHeartbeats 400000 in
set_option maxRecDepth 20000 in
theorem xread_no (s : ByteArray) (first n : Int) (w : World) (hn : ¬ (0 ≤ n ∧ n < 65536)) :
    Calls Tryz.prog 7 #[.string s, .int .i64 first, .int .i64 n] w (ReadPost (rd5 s first n) w) := by
  have hR1 : rd5 s first n = .error 1 := by unfold rd5; rw [if_pos hn]
  rw [hR1]
  clear hR1
  have HQB : Hid (Below w.heap.size w (w.alloc (.cells #[.int .i64 0, .bool false, .string ⟨#[]⟩, .bool false, .string ⟨#[]⟩, .slice none 0 0] 27))) := (Below.refl _ w).alloc (Nat.le_refl _) _
  by_cases h0 : n < 0
  · go_enter Tryz.func7, Tryz.ntmps7
    go_wp2_with fail
    obtain ⟨j0, j1, j2, j3, j4, j5⟩ := cells6 (heap_new w (.cells #[.int .i64 0, .bool false, .string ⟨#[]⟩, .bool false, .string ⟨#[]⟩, .slice none 0 0] 27))
    refine bodyPost_ret (v := .tuple #[noRec, .int .i64 0, .int .i64 1]) (by simp [results, noRec, Tryz.results7, go_sem]) rfl ?_
    exact ⟨HQB.out, rfl, by decide⟩
  · have h1 : ¬ n < 65536 := by omega
    go_enter Tryz.func7, Tryz.ntmps7
    go_wp2_with fail
    obtain ⟨j0, j1, j2, j3, j4, j5⟩ := cells6 (heap_new w (.cells #[.int .i64 0, .bool false, .string ⟨#[]⟩, .bool false, .string ⟨#[]⟩, .slice none 0 0] 27))
    refine bodyPost_ret (v := .tuple #[noRec, .int .i64 0, .int .i64 1]) (by simp [results, noRec, Tryz.results7, go_sem]) rfl ?_
    exact ⟨HQB.out, rfl, by decide⟩
end Go.Proofs.YtafogjilheniiaaGreat
