/- Texts of the proof, put together: Lkc, Lkd, Lks, Crw, Pfp, Dls, Dlt. -/
import Derived.Test.YthjbhfhdepepmaaPMD
import Derived.Test.YthjbhfhdepepmaaPMC
namespace Go.Proofs.Ythjbhfhdepepmaa
open Go.RowKit
theorem drewN_bel' {w0 w : World} {B : Nat} (hb : Below B w0 w) (n : Nat) : Below B w0 (w.drewN n) := ⟨hb.os, hb.tape, hb.output, hb.size, hb.block⟩
def fitW (kp : Int) (sy : Nat) (x : Int × ByteArray) : Bool := decide ((sy : Int) ≤ x.1 ∧ x.1 ≤ kp - x.2.size)
def fitB (kp : Int) (ws : List (Int × ByteArray)) (sy ln : Nat) : Bool := decide ((sy : Int) ≤ kp ∧ kp ≤ (ln : Int)) && ws.all (fitW kp sy)
set_option maxHeartbeats 4000000 in
set_option maxRecDepth 20000 in
theorem fits_any (nm : ByteArray) (kp : Int) (oa : Option Addr) (oc : Nat) (ws : List (Int × ByteArray)) (sy ln : Nat) (w : World) (hw : Wrs w oa ws) (hl : ws.length ≤ 140737488355328) (hok : ∀ x ∈ ws, WrOk x) (hsl : sy ≤ 1099511627776) (hll : ln ≤ 1099511627776) :
    Calls Try.prog 49 #[.agg #[.string nm, .int .i64 kp, .slice oa ws.length oc], .int .i64 sy, .int .i64 ln] w fun e w' => e = .returned (.bool (fitB kp ws sy ln)) ∧ Below w.heap.size w w' := by
  have HB0 := hid (bel_alloc w (.cells #[.string nm, .int .i64 kp, .slice oa ws.length oc] 24))
  have HW := hid hw
  have HO := hid hok
  clear hw hok
  by_cases h1 : kp < sy
  · have HE : Hid (fitB kp ws sy ln = false) := by show _ = _; unfold fitB; rw [decide_eq_false (by omega), Bool.false_and]
    go_enter Try.func49, Try.ntmps49
    go_wp2_with fail
    go_ret
    exact ⟨by rw [HE.out]; rfl, HB0.out⟩
  by_cases h2 : (ln : Int) < kp
  · have HE : Hid (fitB kp ws sy ln = false) := by show _ = _; unfold fitB; rw [decide_eq_false (by omega), Bool.false_and]
    go_enter Try.func49, Try.ntmps49
    go_wp2_with fail
    go_ret
    exact ⟨by rw [HE.out]; rfl, HB0.out⟩
  have HE : Hid (fitB kp ws sy ln = ws.all (fitW kp sy)) := by show _ = _; unfold fitB; rw [decide_eq_true (by omega), Bool.true_and]
  go_enter Try.func49, Try.ntmps49
  go_wp2_with fail
  generalize hN : ws.length = N at *
  have HN := hid hN
  clear hN
  obtain ⟨wa, hwa⟩ : ∃ wa, wa = w.alloc (Obj.cells #[.string nm, .int .i64 kp, .slice oa N oc] 24) := ⟨_, rfl⟩
  have hFn := heap_new w (Obj.cells #[.string nm, .int .i64 kp, .slice oa N oc] 24)
  rw [← hwa] at hFn HB0 ⊢
  have HWa : Hid (w.heap.size < wa.heap.size) := lt_of_heap hFn
  have HK : Hid (wa.cell? ⟨w.heap.size, 1, none⟩ = some (.int .i64 kp)) := (cell_of hFn).trans rfl
  have HW2 := hid (HW.out.kept HB0.out)
  clear hFn hwa
  go_loopg [22] N (fun k i wr => ∃ j : Nat, j + k = N ∧ i = .int .i64 j ∧ Hid ((ws.take j).all (fitW kp sy) = true) ∧ Hid (Below wa.heap.size wa wr))
  case atStart => exact ⟨0, by omega, rfl, rfl, Below.refl _ _⟩
  case round =>
    obtain ⟨j, hj, rfl, HA, HB⟩ := hrel
    by_cases hlt : j < N
    · obtain ⟨k', rfl⟩ : ∃ k', gk = k' + 1 := ⟨gk - 1, by omega⟩
      have hltI : (j : Int) < N := by omega
      have hjw : j < ws.length := by rw [HN.out]; exact hlt
      have hT : (ws.take (j + 1)).all (fitW kp sy) = ((ws.take j).all (fitW kp sy) && fitW kp sy (ws.getD j w00)) := by
        rw [List.take_succ_eq_append_getElem hjw, List.all_append, List.getD_eq_getElem?_getD, List.getElem?_eq_getElem hjw]
        simp
      have hmem : ws.getD j w00 ∈ ws := by rw [List.getD_eq_getElem?_getD, List.getElem?_eq_getElem hjw]; exact List.getElem_mem _
      have hO := HO.out _ hmem
      rcases HW2.out.kept HB.out with e | ⟨b, off, rfl, hbl, hc⟩
      · exact absurd hjw (by rw [e]; simp)
      obtain ⟨q0, q1⟩ := hc j hjw
      have hwr : w.heap.size < wr.heap.size := Nat.lt_of_lt_of_le HWa.out HB.out.size
      have qk := (HB.out.cell (p := ⟨w.heap.size, 1, none⟩) HWa.out).trans HK.out
      generalize ws.getD j w00 = x at *
      obtain ⟨at', D⟩ := x
      simp only at q0 q1
      unfold WrOk at hO
      simp only at hO
      have HBl := hid (HB.out.alloc HB.out.size (.cells #[.int .i64 at', .string D] 69))
      have HJ := hid hj
      by_cases h3 : at' < sy
      · have HF : Hid (ws.all (fitW kp sy) = false) := by
          show _ = _
          rw [List.all_eq_false]
          exact ⟨_, hmem, by unfold fitW; simp only; rw [decide_eq_false (by omega)]; decide⟩
        clear hc hT hmem
        go_wp2_with fail
        go_ret
        exact ⟨by rw [HE.out, HF.out]; rfl, HB0.out.trans (HBl.out.mono (Nat.le_of_lt HWa.out))⟩
      by_cases h4 : kp - D.size < at'
      · have HF : Hid (ws.all (fitW kp sy) = false) := by
          show _ = _
          rw [List.all_eq_false]
          exact ⟨_, hmem, by unfold fitW; simp only; rw [decide_eq_false (by omega)]; decide⟩
        clear hc hT hmem
        go_wp2_with fail
        go_ret
        exact ⟨by rw [HE.out, HF.out]; rfl, HB0.out.trans (HBl.out.mono (Nat.le_of_lt HWa.out))⟩
      have HT : Hid ((ws.take (j + 1)).all (fitW kp sy) = true) := by
        show _ = _
        rw [hT, HA.out]
        unfold fitW
        simp only
        rw [decide_eq_true (by omega)]
        rfl
      clear hc hT hmem
      go_wp2_with fail
      go_roundg k'
      case measure => omega
      case rel => exact ⟨j + 1, by have := HJ.out; omega, congrArg (Value.int .i64) (by omega), HT, HBl⟩
    · have hltI : ¬ (j : Int) < N := by omega
      have HF : Hid (ws.all (fitW kp sy) = true) := by
        have := HA.out
        rw [List.take_of_length_le (by rw [HN.out]; omega)] at this
        exact this
      go_wp2_with fail
      go_ret
      exact ⟨by rw [HE.out, HF.out]; rfl, HB0.out.trans (HB.out.mono (Nat.le_of_lt HWa.out))⟩
end Go.Proofs.Ythjbhfhdepepmaa
namespace Go.Proofs.Ythjbhfhdepepmaa
open Go.RowKit
def ckc (V : Vw) (ns : List ByteArray) (j : Nat) (f : Ftp) : Nat :=
  if 1 ≤ f.1.size ∧ f.1.size ≤ 255 then
    match vl f.1 V with
    | none => 4
    | some x => if fx ns f.1 = some j ∧ fitB f.2.1 f.2.2 x.2 x.1.length = true then 0 else 31
  else 3
def ck1 (V : Vw) (fs : List Ftp) (j : Nat) : Nat := ckc V (fs.map (·.1)) j (fs.getD j p00)
def ckA (V : Vw) (fs : List Ftp) : Nat → Nat
  | 0 => 0
  | j + 1 => if ckA V fs j = 0 then ck1 V fs j else ckA V fs j
/-- What Check answers. -/
def chk (V : Vw) (fs : List Ftp) : Nat := ckA V fs fs.length
theorem ckA_keep {V : Vw} {fs : List Ftp} {j : Nat} (h : ckA V fs j ≠ 0) : ∀ k, ckA V fs (j + k) = ckA V fs j
  | 0 => rfl
  | k + 1 => by
    rw [show j + (k + 1) = j + k + 1 from rfl, ckA, if_neg (by rw [ckA_keep h k]; exact h), ckA_keep h k]
theorem chk_stop {V : Vw} {fs : List Ftp} {j n : Nat} (h0 : ckA V fs j = 0) (h1 : ck1 V fs j = n) (hn : n ≠ 0) (hj : j < fs.length) : chk V fs = n := by
  have e : ckA V fs (j + 1) = n := by rw [ckA, if_pos h0, h1]
  have := ckA_keep (V := V) (fs := fs) (j := j + 1) (by rw [e]; exact hn) (fs.length - (j + 1))
  rw [show j + 1 + (fs.length - (j + 1)) = fs.length by omega, e] at this
  exact this
set_option maxRecDepth 20000 in
theorem Fm.look1 {w : World} {m : Nat} {ns : List ByteArray} (h : Fm w m ns) (nm : ByteArray) (hn : nm.size ≤ maxLen) {i : Nat} (hf : fx ns nm = some i) : (Instr.lookup 87 (.map (some m)) (.string nm) false).run Try.prog w = .ok (.int .i64 i) w := by
  obtain ⟨n, D, h1, h2, h3, h4⟩ := h
  obtain ⟨v, ps, k1, k2⟩ := h1.lookup klaw Try.underMI (Try.zero3 w) (RI_int 0 (by decide)) (keyS hn)
  obtain ⟨m1, m2⟩ := h4 nm hn
  obtain ⟨e1, e2⟩ := m2 i hf
  rw [e2] at k2
  rw [RI_inv k2] at k1
  exact k1
theorem fx_has {ns : List ByteArray} {nm : ByteArray} {j : Nat} (hj : ns[j]? = some nm) : ∃ i, fx ns nm = some i ∧ i ≤ j := by
  unfold fx
  cases hf : ns.findIdx? (fun x => decide (x = nm)) with
  | none =>
    rw [List.findIdx?_eq_none_iff] at hf
    have := hf nm (List.mem_of_getElem? hj)
    simp at this
  | some i =>
    refine ⟨i, rfl, ?_⟩
    rw [List.findIdx?_eq_some_iff_getElem] at hf
    obtain ⟨h1, _, h3⟩ := hf
    apply Classical.byContradiction
    intro hlt
    have := h3 j (by omega)
    obtain ⟨hj1, hj2⟩ := List.getElem?_eq_some_iff.1 hj
    rw [hj2] at this
    simp at this
theorem vl_memL {V : Vw} {nm : ByteArray} {x : List UInt8 × Nat} (h : vl nm V = some x) : (nm, x) ∈ V := by
  unfold vl at h
  rw [Option.map_eq_some_iff] at h
  obtain ⟨y, h1, h2⟩ := h
  have h3 := List.find?_some h1
  have h4 := List.mem_of_find?_eq_some h1
  simp at h3
  subst h2
  subst h3
  exact h4
set_option maxHeartbeats 4000000 in
set_option maxRecDepth 20000 in
theorem check_any (d : Nat) (ft : Nat → Prop) (rm : Nat) (cl cb : Int) (V : Vw) (a : Option Addr) (cap : Nat) (ms : List Ft3) (fs : List Ftp) (w : World) (h : Ds w d ft rm cl cb V) (hs : SV rm V) (hF : Fts w a ms) (hR : Ftw w (fun _ => False) ms fs) (hl : ms.length ≤ 140737488355328) :
    Calls Try.prog 16 #[.pointer (some ⟨d, 0, none⟩), .slice a ms.length cap] w fun e w' => e = .returned (.int .i64 (chk V fs)) ∧ Below w.heap.size w w' := by
  have HNM : Hid (ms.map (·.1) = fs.map (·.1)) := by
    show _ = _
    apply List.ext_getElem (by simp [hR.1])
    intro i h1 h2
    have h3 : i < fs.length := by simpa using h2
    have := (hR.2 i h3).1
    simp only [List.getElem_map]
    rw [List.getD_eq_getElem?_getD, List.getD_eq_getElem?_getD, List.getElem?_eq_getElem (by simpa using h1), List.getElem?_eq_getElem h3] at this
    exact this
  have hok : ∀ f ∈ ms, FtOk f := by
    intro f hf
    obtain ⟨i, hi, rfl⟩ := List.getElem_of_mem hf
    have h3 : i < fs.length := by rw [← hR.1]; exact hi
    have k := hR.2 i h3
    have e1 := k.1
    rw [List.getD_eq_getElem?_getD, List.getElem?_eq_getElem hi] at e1
    show (ms[i]).1.size ≤ maxLen
    have e2 : (ms[i]).1 = (fs.getD i p00).1 := e1
    rw [e2]
    exact k.2.2.2.2.2.1
  have HFI := hid (firsts_any a cap ms w hF (by omega) hok)
  have HD : Hid (∀ wx, Below w.heap.size w wx → Ds wx d ft rm cl cb V) := fun wx hb => h.kept hb
  have HFw : Hid (∀ wx, Below w.heap.size w wx → Fts wx a ms) := fun wx hb => hF.kept hb
  have HR := hid hR
  have HS := hid hs
  clear h hs hF hR hok
  generalize hM : ms.length = M at *
  have HM := hid hM
  clear hM
  go_enter Try.func16, Try.ntmps16
  go_wp2_with (go_at_call 47; refine HFI.out.mono ?_; rintro e w1 ⟨m, rfl, hfm, hwm, hb1⟩; have HFM := hid hfm; have HB1 := hid hb1; clear hfm hb1)
  have hm1 : m < w1.heap.size := by obtain ⟨_, _, ⟨_, _, h1, _⟩, _⟩ := HFM.out; exact lt_of_heap h1
  go_loopg [16] M (fun k i wr => ∃ j : Nat, j + k = M ∧ i = .int .i64 j ∧ Hid (ckA V fs j = 0) ∧ Hid (Below w1.heap.size w1 wr))
  case atStart => exact ⟨0, by omega, rfl, rfl, Below.refl _ _⟩
  case round =>
    obtain ⟨j, hj, rfl, HC, HB⟩ := hrel
    have hbw : Below w.heap.size w wr := HB1.out.trans (HB.out.mono HB1.out.size)
    by_cases hlt : j < M
    · obtain ⟨k', rfl⟩ : ∃ k', gk = k' + 1 := ⟨gk - 1, by omega⟩
      have hltI : (j : Int) < M := by omega
      have hjf : j < fs.length := by rw [← HR.out.1, HM.out]; exact hlt
      obtain ⟨r1, r2, r3, r4, _, r6, r7, r8⟩ := HR.out.2 j hjf
      have r4' := r4.kept hbw
      clear r4
      rcases HFw.out wr hbw with e | ⟨b, off, rfl, hbl, hc⟩
      · exact absurd hlt (by rw [← HM.out, e]; simp)
      obtain ⟨q0, q1, q2⟩ := hc j (by rw [HM.out]; exact hlt)
      have hnj : (fs.map (·.1))[j]? = some (fs.getD j p00).1 := by rw [List.getElem?_map, List.getElem?_eq_getElem hjf, List.getD_eq_getElem?_getD, List.getElem?_eq_getElem hjf]; rfl
      have HE : Hid (ck1 V fs j = ckc V (fs.map (·.1)) j (fs.getD j p00)) := rfl
      have hfm : Fm wr m (fs.map (·.1)) := by rw [← HNM.out]; exact HFM.out.kept (HB.out.block m hm1)
      generalize fs.getD j p00 = P at *
      generalize ms.getD j t00 = T at *
      obtain ⟨pn, pk, pw⟩ := P
      obtain ⟨tn, tk, oa, on, oc⟩ := T
      simp only [ovS] at r1 r2 r3 r6 r7 r8 q0 q1 q2 r4' hnj
      subst r1 r2 r3
      have HG := hid (fun wx => pgood_any tn wx)
      have HJ := hid hj
      obtain ⟨i0, hi0, hij⟩ := fx_has hnj
      obtain ⟨wa, hwa⟩ : ∃ wa, wa = wr.alloc (Obj.cells #[.string tn, .int .i64 tk, .slice oa pw.length oc] 24) := ⟨_, rfl⟩
      have hFn := heap_new wr (Obj.cells #[.string tn, .int .i64 tk, .slice oa pw.length oc] 24)
      rw [← hwa] at hFn
      have hba : Below wr.heap.size wr wa := by rw [hwa]; exact bel_alloc _ _
      have f0 : wa.cell? ⟨wr.heap.size, 0, none⟩ = some (.string tn) := (cell_of hFn).trans rfl
      have f1 : wa.cell? ⟨wr.heap.size, 1, none⟩ = some (.int .i64 tk) := (cell_of hFn).trans rfl
      have f2 : wa.cell? ⟨wr.heap.size, 2, none⟩ = some (.slice oa pw.length oc) := (cell_of hFn).trans rfl
      have HBa : Hid (Below w1.heap.size w1 wa) := HB.out.trans (hba.mono HB.out.size)
      have HBw : Hid (Below w.heap.size w wa) := hbw.trans (hba.mono hbw.size)
      have hlk : ∀ k, (Instr.lookup 87 (.map (some m)) (.string tn) false).run Try.prog (wa.drewN k) = .ok (.int .i64 i0) (wa.drewN k) := fun k => (((hfm.kept (hba.block m (Nat.lt_of_lt_of_le hm1 HB.out.size)))).kept (w' := wa.drewN k) rfl).look1 tn r6 hi0
      have HSz := hid (fun k => s_size d ft rm cl cb V tn (wa.drewN k) (HD.out _ (drewN_bel' HBw.out k)) r6)
      have HSy := hid (fun k => s_synced d ft rm cl cb V tn (wa.drewN k) (HD.out _ (drewN_bel' HBw.out k)) r6)
      have HWr : Hid (∀ k, Wrs (wa.drewN k) oa pw) := fun k => (r4'.kept hba).kept (bel_drewN wa k)
      have hwa' := hwa.symm
      have HIJ := hid hij
      have HI0 := hid hi0
      have HJF := hid hjf
      clear hc hbl hj HB hbw r4' hba hFn hwa hjf hlt hfm hnj hij hi0
      by_cases hg : 1 ≤ tn.size ∧ tn.size ≤ 255
      · rw [decide_eq_true hg] at HG
        cases hv : vl tn V with
        | none =>
          have HE2 : Hid (chk V fs = 4) := chk_stop HC.out (by rw [HE.out]; unfold ckc; rw [if_pos hg]; simp only [hv]) (by decide) HJF.out
          rw [hv] at HSz
          simp only [szN, noE] at HSz
          clear hv hg HE
          go_wp2_with (first | (go_at_call 48; refine (HG.out _).mono ?_; rintro e w2 ⟨rfl, rfl⟩) | (go_at_call 36; refine (HSz.out 0).mono ?_; rintro e w3 ⟨rfl, k3, rfl⟩))
          go_ret
          exact ⟨by rw [HE2.out]; rfl, drewN_bel' HBw.out _⟩
        | some x =>
          obtain ⟨X, sy⟩ := x
          have hmv := vl_memL hv
          have hlg := (HS.out.lng _ hmv).2
          have hck : ck1 V fs j = if fx (fs.map (·.1)) tn = some j ∧ fitB tk pw sy X.length = true then 0 else 31 := by rw [HE.out]; unfold ckc; rw [if_pos hg]; simp only [hv]
          rw [HI0.out] at hck
          rw [hv] at HSz HSy
          simp only [szN, noE, syN] at HSz HSy hlg
          have FT := hid (fun k => fits_any tn tk oa oc pw sy X.length (wa.drewN k) (HWr.out k) r7 r8 (by omega) (by omega))
          by_cases hij : i0 = j
          · subst hij
            cases hb : fitB tk pw sy X.length with
            | true =>
              rw [hb] at FT
              have HN : Hid (ckA V fs (i0 + 1) = 0) := by show _ = _; rw [ckA, if_pos HC.out, hck, if_pos ⟨rfl, hb⟩]
              clear hv hg HE hck hb hmv hlg
              go_wp2_with (first | (go_at_call 48; refine (HG.out _).mono ?_; rintro e w2 ⟨rfl, rfl⟩) | (go_at_call 36; refine (HSz.out 0).mono ?_; rintro e w3 ⟨rfl, k3, rfl⟩) | (go_at_call 35; refine (HSy.out _).mono ?_; rintro e w4 ⟨rfl, k4, rfl⟩) | (go_at_call 49; refine (FT.out _).mono ?_; rintro e w5 ⟨rfl, hb5⟩; have HB5 := hid ((drewN_bel' HBa.out _).trans (hb5.mono (drewN_bel' HBa.out _).size)); clear hb5))
              go_roundg k'
              case measure => omega
              case rel => exact ⟨i0 + 1, by have := HJ.out; omega, congrArg (Value.int .i64) (by omega), HN, HB5⟩
            | false =>
              rw [hb] at FT
              have HE2 : Hid (chk V fs = 31) := chk_stop HC.out (by rw [hck, if_neg (by rw [hb]; simp)]) (by decide) HJF.out
              clear hv hg HE hck hb hmv hlg
              go_wp2_with (first | (go_at_call 48; refine (HG.out _).mono ?_; rintro e w2 ⟨rfl, rfl⟩) | (go_at_call 36; refine (HSz.out 0).mono ?_; rintro e w3 ⟨rfl, k3, rfl⟩) | (go_at_call 35; refine (HSy.out _).mono ?_; rintro e w4 ⟨rfl, k4, rfl⟩) | (go_at_call 49; refine (FT.out _).mono ?_; rintro e w5 ⟨rfl, hb5⟩; have HB5 := hid ((drewN_bel' HBw.out _).trans (hb5.mono (drewN_bel' HBw.out _).size)); clear hb5))
              go_ret
              exact ⟨by rw [HE2.out]; rfl, HB5.out⟩
          · have hijI : ¬ (i0 : Int) = (j : Int) := by omega
            have HE2 : Hid (chk V fs = 31) := chk_stop HC.out (by rw [hck, if_neg (fun h => hij (by injection h.1))]) (by decide) HJF.out
            clear hv hg HE hck hmv hlg hij FT
            go_wp2_with (first | (go_at_call 48; refine (HG.out _).mono ?_; rintro e w2 ⟨rfl, rfl⟩) | (go_at_call 36; refine (HSz.out 0).mono ?_; rintro e w3 ⟨rfl, k3, rfl⟩) | (go_at_call 35; refine (HSy.out _).mono ?_; rintro e w4 ⟨rfl, k4, rfl⟩))
            go_ret
            exact ⟨by rw [HE2.out]; rfl, drewN_bel' HBw.out _⟩
      · have HE2 : Hid (chk V fs = 3) := chk_stop HC.out (by rw [HE.out]; unfold ckc; rw [if_neg hg]) (by decide) HJF.out
        rw [decide_eq_false hg] at HG
        clear hg HE
        go_wp2_with (go_at_call 48; refine (HG.out _).mono ?_; rintro e w2 ⟨rfl, rfl⟩)
        go_ret
        exact ⟨by rw [HE2.out]; rfl, HBw.out⟩
    · have hltI : ¬ (j : Int) < M := by omega
      have HJ : Hid (chk V fs = 0) := by
        have : j = fs.length := by rw [← HR.out.1, HM.out]; omega
        show chk V fs = 0
        unfold chk
        rw [← this]
        exact HC.out
      go_wp2_with fail
      go_ret
      exact ⟨by rw [HJ.out]; rfl, hbw⟩
end Go.Proofs.Ythjbhfhdepepmaa
namespace Go.Proofs.Ythjbhfhdepepmaa
open Go.RowKit
def lst (V : Vw) : List (ByteArray × Int) := V.map (fun x => (x.1, (x.2.2 : Int)))
theorem lst_at {V : Vw} {j : Nat} (hj : j < V.length) : (lst V).take (j + 1) = (lst V).take j ++ [(((V.map (·.1)).getD j ⟨#[]⟩), ((V.getD j (⟨#[]⟩, [], 0)).2.2 : Int))] := by
  have e : (lst V)[j]? = some ((((V.map (·.1)).getD j ⟨#[]⟩), ((V.getD j (⟨#[]⟩, [], 0)).2.2 : Int))) := by
    unfold lst
    rw [List.getElem?_map, List.getElem?_eq_getElem hj]
    simp [List.getD_eq_getElem?_getD, List.getElem?_eq_getElem hj]
  rw [List.take_add_one, e]
  rfl
set_option maxRecDepth 20000 in
set_option maxHeartbeats 4000000 in
theorem keeping_sync (d : Nat) (ft : Nat → Prop) (rm : Nat) (cl cb : Int) (V : Vw) (w : World) (h : Ds w d ft rm cl cb V) (hs : SV rm V) :
    Calls Try.prog 54 #[.pointer (some ⟨d, 0, none⟩), .func (.func 35) #[.pointer (some ⟨d, 0, none⟩)] #[]] w fun e w' => ∃ g N, e = .returned (.slice (some ⟨g, 0, none⟩) N N) ∧ N = V.length ∧ w.heap.size ≤ g ∧ w'.ownsRow w.heap.size 24 3 (.slice (some ⟨g, 0, none⟩) N N) N (fcs (lst V)) ∧ Below w.heap.size w w' := by
  have HD : Hid (∀ wx, Below w.heap.size w wx → Ds wx d ft rm cl cb V) := fun wx hb => h.kept hb
  have hc := hs.cnt
  have HLi := hid (s_listV d ft rm cl cb V w h hc)
  have HSz : Hid (∀ wx nm, nm.size ≤ maxLen → Below w.heap.size w wx → Calls Try.prog 35 #[.pointer (some ⟨d, 0, none⟩), .string nm] wx fun e w' => e = .returned (.tuple #[.int .i64 (syN (vl nm V)), .int .i64 (noE (vl nm V))]) ∧ ∃ k, w' = wx.drewN k) := fun wx nm hn hb => s_synced d ft rm cl cb V nm wx (HD.out wx hb) hn
  have HS := hid hs
  have hmk : ∀ (n : Nat) w, n ≤ 65536 → _ := fun n w hn => mkfts n (by omega) w
  obtain ⟨N, hN⟩ : ∃ N, N = V.length := ⟨_, rfl⟩
  have HN := hid hN
  rw [← hN] at hc
  have hmk2 := fun w => mkfts N (by omega) w
  clear h hs hN hmk
  go_enter Try.func54, Try.ntmps54
  go_wp2_with (go_at_call 39; refine HLi.out.mono ?_; rintro e w1 ⟨v1, rfl, hl1, hb1⟩; obtain ⟨a1, c1, rfl⟩ : ∃ a c, v1 = .slice a N c := (by have h1 := hl1.1; rw [List.length_map, ← HN.out] at h1; exact lsd_form h1); have HL1 := hid hl1.1; have HB1 := hid hb1; clear hl1 hb1)
  have HMO := hid (made_fts N (by omega) w1)
  have HCH0 : Hid (Ch (fun i => i = w1.heap.size) w1 (w1.alloc (.cells (madeCells #[.string ⟨#[]⟩, .int .i64 0, .slice none 0 0] (N * 3)) 24))) := (Ch.refl _ _).alloc _
  have HG : Hid (w.heap.size ≤ w1.heap.size) := HB1.out.size
  generalize w1.alloc (.cells (madeCells #[.string ⟨#[]⟩, .int .i64 0, .slice none 0 0] (N * 3)) 24) = w2 at *
  obtain ⟨g, hg⟩ : ∃ g, g = w1.heap.size := ⟨_, rfl⟩
  rw [← hg] at HMO HCH0 HG ⊢
  have HGe := hid hg
  clear hmk2 hg
  go_loopg [18] N (fun k i wr => ∃ j : Nat, j + k = N ∧ i = .int .i64 j ∧ Hid (wr.ownsRow g 24 3 (.slice (some ⟨g, 0, none⟩) N N) N (fcs ((lst V).take j ++ List.replicate (N - j) f0p))) ∧ Hid (Ch (fun i => i = g) w1 wr))
  case atStart => exact ⟨0, by omega, rfl, by show World.ownsRow _ _ _ _ _ _ _; simpa using HMO.out, HCH0.out⟩
  case round =>
    clear HMO HCH0
    obtain ⟨j, hj, rfl, HO, HC⟩ := hrel
    by_cases hlt : j < N
    · obtain ⟨k', rfl⟩ : ∃ k', gk = k' + 1 := ⟨gk - 1, by omega⟩
      have hltI : (j : Int) < N := by omega
      have hjV : j < V.length := by rw [← HN.out]; exact hlt
      have HT := hid (lst_at hjV)
      have hx : V.getD j (⟨#[]⟩, [], 0) ∈ V := by rw [List.getD_eq_getElem?_getD, List.getElem?_eq_getElem hjV]; exact List.getElem_mem _
      have hnm : (V.map (·.1)).getD j ⟨#[]⟩ = (V.getD j (⟨#[]⟩, [], 0)).1 := by simp [List.getD_eq_getElem?_getD, List.getElem?_eq_getElem hjV]
      have hsz := (HS.out.lng _ hx).1
      have hvl := vl_at8 HS.out.srt hx
      have hnc : ∃ gn, a1 = some ⟨gn, 0, none⟩ ∧ gn < w1.heap.size ∧ w1.cell? ⟨gn, j, none⟩ = some (.string (V.getD j (⟨#[]⟩, [], 0)).1) := by
        have h1 := HL1.out
        rw [List.length_map, ← HN.out] at h1
        obtain ⟨gn, h2, h3⟩ := nm_cell h1 (j := j) (u := .string (V.getD j (⟨#[]⟩, [], 0)).1) (by rw [List.map_map, List.getElem?_map, List.getElem?_eq_getElem hjV, List.getD_eq_getElem?_getD, List.getElem?_eq_getElem hjV]; rfl)
        exact ⟨gn, h2, World.block_lt_of_cell? _ _ h3, h3⟩
      rw [hnm] at HT
      generalize V.getD j (⟨#[]⟩, [], 0) = x at *
      obtain ⟨nm, da, sy⟩ := x
      simp only at hsz hvl hnc HT
      obtain ⟨gn, rfl, hgn, q0'⟩ := hnc
      have hBl : Below w.heap.size w wr := HB1.out.trans (HC.out.below HB1.out.size (fun i hi e => by have := HG.out; omega))
      have q0 : wr.cell? ⟨gn, j, none⟩ = some (.string nm) := by
        have h1 := HC.out.block gn hgn (by have := HGe.out; omega)
        rw [← q0']
        simp [World.cell?, h1]
      have HSz1 := hid (HSz.out wr nm (by unfold maxLen; omega) hBl)
      rw [hvl] at HSz1
      simp only [syN] at HSz1
      have hfl : (lst V).take j ++ List.replicate (N - j) f0p = (lst V).take j ++ f0p :: List.replicate (N - (j + 1)) f0p := by rw [show N - j = N - (j + 1) + 1 from by omega, List.replicate_succ]
      have htl : ((lst V).take j).length = j := by rw [List.length_take]; unfold lst; rw [List.length_map]; omega
      rw [hfl] at HO
      have HST : Hid (((((fcs ((lst V).take j ++ f0p :: List.replicate (N - (j + 1)) f0p)).set (j * 3) (.string nm)).set (j * 3 + 1) (.int .i64 sy)).set (j * 3 + 2) (.slice none 0 0)) = fcs ((lst V).take (j + 1) ++ List.replicate (N - (j + 1)) f0p)) := by
        have := fcs_set ((lst V).take j) f0p (nm, (sy : Int)) (List.replicate (N - (j + 1)) f0p)
        rw [htl] at this
        show _ = _
        rw [this, HT.out, List.append_assoc]
        rfl
      have hcl : ∀ k, k < 3 → wr.cell? ⟨g, j * 3 + k, none⟩ = (fcell f0p)[k]? := fun k hk => by
        have h2 := (HO.out.cellAt (j * 3 + k) (by omega)).trans (fcs_at (l := (lst V).take j ++ f0p :: List.replicate (N - (j + 1)) f0p) (j := j) (by rw [List.length_append, htl]; simp) hk)
        rw [h2, List.getD_eq_getElem?_getD, List.getElem?_append_right (by omega), htl]
        simp
      have y0 : wr.cell? ⟨g, j * 3, none⟩ = some (.string ⟨#[]⟩) := hcl 0 (by omega)
      have y1 : wr.cell? ⟨g, j * 3 + 1, none⟩ = some (.int .i64 0) := hcl 1 (by omega)
      have y2 : wr.cell? ⟨g, j * 3 + 2, none⟩ = some (.slice none 0 0) := hcl 2 (by omega)
      have z0 : wr.frozen? ⟨g, j * 3, none⟩ = false := HO.out.frozenAt _
      have z1 : wr.frozen? ⟨g, j * 3 + 1, none⟩ = false := HO.out.frozenAt _
      have z2 : wr.frozen? ⟨g, j * 3 + 2, none⟩ = false := HO.out.frozenAt _
      have HJ := hid hj
      clear hfl htl hcl hx hnm hsz hvl hjV hj q0' hgn hBl
      go_wp2_with (go_at_call 35; refine HSz1.out.mono ?_; rintro e w4 ⟨rfl, k4, rfl⟩)
      go_roundg k'
      case measure => omega
      case rel =>
        refine ⟨j + 1, by have := HJ.out; omega, congrArg (Value.int .i64) (by omega), ?_, (((HC.out.drewN k4).setCell _ _ (fun _ => rfl)).setCell _ _ (fun _ => rfl)).setCell _ _ (fun _ => rfl)⟩
        rw [← HST.out]
        have h0 : (wr.drewN k4).ownsRow g 24 3 (.slice (some ⟨g, 0, none⟩) N N) N (fcs ((lst V).take j ++ f0p :: List.replicate (N - (j + 1)) f0p)) := HO.out
        exact own_set3 (own_set3 (own_set3 h0 _ _) _ _) _ _
    · have hltI : ¬ (j : Int) < N := by omega
      have HE : Hid ((lst V).take j ++ List.replicate (N - j) f0p = lst V) := by
        show _ = _
        rw [show N - j = 0 from by omega, List.replicate_zero, List.append_nil]
        exact List.take_of_length_le (by unfold lst; rw [List.length_map, ← HN.out]; omega)
      rw [HE.out] at HO
      have HBl : Hid (Below w.heap.size w wr) := HB1.out.trans (HC.out.below HB1.out.size (fun i hi e => by have := HG.out; omega))
      go_wp2_with fail
      go_ret
      refine ⟨g, N, rfl, HN.out, HG.out, ?_, HBl.out⟩
      refine ⟨HO.out.1, HO.out.2.imp_right fun ⟨g', cap, cur, h1, h2, h3⟩ => ⟨g', cap, cur, h1, Nat.le_trans HG.out h2, h3⟩⟩
theorem least_any (d : Nat) (ft : Nat → Prop) (rm : Nat) (cl cb : Int) (V : Vw) (w : World) (h : Ds w d ft rm cl cb V) (hs : SV rm V) :
    Calls Try.prog 19 #[.pointer (some ⟨d, 0, none⟩)] w fun e w' => ∃ g N, e = .returned (.slice (some ⟨g, 0, none⟩) N N) ∧ N = V.length ∧ w.heap.size ≤ g ∧ w'.ownsRow w.heap.size 24 3 (.slice (some ⟨g, 0, none⟩) N N) N (fcs (lst V)) ∧ Below w.heap.size w w' := by
  have HK := hid (keeping_sync d ft rm cl cb V w h hs)
  clear h hs
  go_enter Try.func19, Try.ntmps19
  go_wp2_with (go_at_call 54; refine HK.out.mono ?_; rintro e w2 ⟨g, N, rfl, h1, h2, h3, h4⟩; have H1 := hid h1; clear h1)
  go_ret
  exact ⟨g, N, rfl, H1.out, h2, h3, h4⟩
end Go.Proofs.Ythjbhfhdepepmaa
namespace Go.Proofs.Ythjbhfhdepepmaa
open Go.RowKit
set_option maxHeartbeats 4000000 in
set_option maxRecDepth 20000 in
theorem crashall_w (d : Nat) (ft : Nat → Prop) (rm : Nat) (cl cb : Int) (V : Vw) (a : Option Addr) (cap : Nat) (ms : List Ft3) (fs : List Ftp) (w : World) (h : Ds w d ft rm cl cb V) (hs : SV rm V) (hF : Fts w a ms) (hR : Ftw w ft ms fs) (haf : ∀ b off, a = some ⟨b, off, none⟩ → ms ≠ [] → ¬ ft b) (hl : ms.length ≤ 140737488355328) :
    Calls Try.prog 25 #[.pointer (some ⟨d, 0, none⟩), .slice a ms.length cap] w fun e w' => e = .returned (.tuple #[]) ∧ Aft w ft d rm cl cb (V.map (crf fs)) w' := by
  have HNM : Hid (ms.map (·.1) = fs.map (·.1)) := by
    show _ = _
    apply List.ext_getElem (by simp [hR.1])
    intro i h1 h2
    have h3 : i < fs.length := by simpa using h2
    have := (hR.2 i h3).1
    simp only [List.getElem_map]
    rw [List.getD_eq_getElem?_getD, List.getD_eq_getElem?_getD, List.getElem?_eq_getElem (by simpa using h1), List.getElem?_eq_getElem h3] at this
    exact this
  have hok : ∀ f ∈ ms, FtOk f := by
    intro f hf
    obtain ⟨i, hi, rfl⟩ := List.getElem_of_mem hf
    have h3 : i < fs.length := by rw [← hR.1]; exact hi
    have k := hR.2 i h3
    have e1 := k.1
    rw [List.getD_eq_getElem?_getD, List.getElem?_eq_getElem hi] at e1
    show (ms[i]).1.size ≤ maxLen
    have e2 : (ms[i]).1 = (fs.getD i p00).1 := e1
    rw [e2]
    exact k.2.2.2.2.2.1
  have HFI := hid (firsts_any a cap ms w hF (by omega) hok)
  have HD := hid h
  have HS := hid hs
  have HF := hid hF
  have HR := hid hR
  have HAF := hid haf
  clear h hs hF hR haf hok
  generalize hM : ms.length = M at *
  have HM := hid hM
  clear hM
  go_enter Try.func25, Try.ntmps25
  go_wp2_with (go_at_call 47; refine HFI.out.mono ?_; rintro e w1 ⟨m, rfl, hfm, hwm, hb1⟩; have HFM := hid hfm; have HB1 := hid hb1; clear hfm hb1)
  refine (s_listV d ft rm cl cb V w1 (HD.out.kept HB1.out) HS.out.cnt).mono ?_
  rintro e w2 ⟨v2, rfl, hL2, hb2⟩
  obtain ⟨aL, capL, rfl⟩ := own_form hL2.1
  have HA2 : Hid (Aft w2 ft d rm cl cb V w2) := Aft.start ((HD.out.kept HB1.out).kept hb2)
  have HBW : Hid (Below w.heap.size w w2) := HB1.out.trans (hb2.mono HB1.out.size)
  have hwm2 : m < w2.heap.size := by obtain ⟨_, _, ⟨_, _, h1, _⟩, _⟩ := HFM.out; exact Nat.lt_of_lt_of_le (lt_of_heap h1) hb2.size
  have HFM2 := hid (HFM.out.kept (hb2.block m (by obtain ⟨_, _, ⟨_, _, h1, _⟩, _⟩ := HFM.out; exact lt_of_heap h1)))
  have HFT : Hid (∀ i, ft i → i < w.heap.size) := fun i hi => HD.out.lt hi
  have HLR : Hid (∀ j u, (V.map (fun x => Value.string x.1))[j]? = some u → ∃ g, aL = some ⟨g, 0, none⟩ ∧ w.heap.size ≤ g ∧ g < w2.heap.size ∧ w2.cell? ⟨g, j, none⟩ = some u) := by
    intro j u hj
    have ho := hL2.1
    rw [List.map_map] at ho
    rcases ho.2 with ⟨e, e2⟩ | ⟨g, cap', cur, e, hg, hh, _⟩
    · have : (V.map (fun x => Value.string x.1)).length = 0 := by simpa using e2
      rw [List.eq_nil_of_length_eq_zero this] at hj
      cases hj
    · injection e with e _ _
      subst e
      refine ⟨g, rfl, Nat.le_trans HB1.out.size hg, lt_of_heap hh, ?_⟩
      have := ho.cells (g := g) rfl j u hj
      rw [Go.WideShapes.add_plain, Nat.zero_add] at this
      exact this
  rw [List.length_map]
  clear hb2 hL2 HFM HFI
  generalize hN : V.length = N at *
  have HN := hid hN
  clear hN
  go_wp2_with fail
  go_loopg [15] N (fun k i wr => ∃ j : Nat, j + k = N ∧ i = .int .i64 j ∧ Hid (Aft w2 ft d rm cl cb ((V.take j).map (crf fs) ++ V.drop j) wr ∧ SV rm ((V.take j).map (crf fs) ++ V.drop j)))
  case atStart => exact ⟨0, by omega, rfl, ⟨HA2.out, HS.out⟩⟩
  case round =>
    clear HA2
    obtain ⟨j, hk, rfl, HQ⟩ := hrel
    by_cases hlt : j < N
    · obtain ⟨k, rfl⟩ : ∃ k, gk = k + 1 := ⟨gk - 1, by omega⟩
      have hltD : decide ((j : Int) < N) = true := by simp; omega
      have hltI : (j : Int) < N := by omega
      have EW : Hid (wrap64 ((j : Int) + 1) = ((j + 1 : Nat) : Int)) := by have := HS.out.cnt; have h2 := HN.out; show _ = _; unfold wrap64; omega
      have hjV : j < V.length := by rw [HN.out]; exact hlt
      obtain ⟨x, hx⟩ : ∃ x, x = V[j] := ⟨_, rfl⟩
      have hd : V.drop j = x :: V.drop (j + 1) := by rw [hx, List.drop_eq_getElem_cons hjV]
      have htk : V.take (j + 1) = V.take j ++ [x] := by rw [hx, List.take_succ_eq_append_getElem hjV]
      have hnx : (V.map (fun x => Value.string x.1))[j]? = some (.string x.1) := by rw [List.getElem?_map, List.getElem?_eq_getElem hjV, ← hx]; rfl
      obtain ⟨gl, rfl, hg1, hg2, qn0⟩ := HLR.out j _ hnx
      have hbk := fun i hi hn => HQ.out.1.blk (i := i) hi hn
      have qn : wr.cell? ⟨gl, j, none⟩ = some (.string x.1) := by
        have := hbk gl hg2 (fun e => by have := HFT.out gl e; omega)
        simp only [World.cell?, this] at qn0 ⊢
        exact qn0
      have hfmr : Fm wr m (ms.map (·.1)) := HFM2.out.kept (hbk m hwm2 (fun e => by have := HFT.out m e; omega))
      have hq := HQ.out
      rw [hd] at hq
      have hxs : x.1.size ≤ maxLen := by have := (HS.out.lng x (by rw [hx]; exact List.getElem_mem _)).1; unfold maxLen; omega
      have hnew : (V.take (j + 1)).map (crf fs) ++ V.drop (j + 1) = (V.take j).map (crf fs) ++ crf fs x :: V.drop (j + 1) := by rw [htk]; simp
      have hsv2 := crf_fits fs hq.2
      have hsp := List.pairwise_append.1 hq.2.srt
      have hL : ∀ y ∈ (V.take j).map (crf fs), Bf y.1 x.1 := fun y hy => hsp.2.2 y hy x (by simp)
      have hR' : ∀ y ∈ V.drop (j + 1), Bf x.1 y.1 := (List.pairwise_cons.1 hsp.2.1).1
      obtain ⟨nm, X, sy⟩ := x
      simp only at qn hxs hL hR'
      have hmr : m < wr.heap.size := by obtain ⟨_, _, ⟨_, _, h1, _⟩, _⟩ := hfmr; exact lt_of_heap h1
      cases hfx : fx (ms.map (·.1)) nm with
      | none =>
        have hfp : ffx fs nm = p00 := fx_find.2 (by rw [← HNM.out]; exact hfx)
        obtain ⟨wa, hwa⟩ : ∃ wa, wa = wr.alloc (Obj.cells #[.string ⟨#[]⟩, .int .i64 0, .slice none 0 0] 24) := ⟨_, rfl⟩
        have hF := heap_new wr (Obj.cells #[.string ⟨#[]⟩, .int .i64 0, .slice none 0 0] 24)
        rw [← hwa] at hF
        have hba : Below wr.heap.size wr wa := by rw [hwa]; exact bel_alloc _ _
        obtain ⟨v, hlk, _⟩ := (hfmr.kept (hba.block m hmr)).look nm hxs
        rw [hfx] at hlk
        simp only [Option.isSome_none] at hlk
        have g0 : wa.cell? ⟨wr.heap.size, 0, none⟩ = some (.string ⟨#[]⟩) := (cell_of hF).trans rfl
        have g1 : wa.cell? ⟨wr.heap.size, 1, none⟩ = some (.int .i64 0) := (cell_of hF).trans rfl
        have g2 : wa.cell? ⟨wr.heap.size, 2, none⟩ = some (.slice none 0 0) := (cell_of hF).trans rfl
        have HCR := hid ((hq.1.kept hba).stepF (fun f1 h1 _ => crash_any d f1 rm cl cb _ _ nm X sy ⟨#[]⟩ 0 none 0 [] wa h1 hq.2 hL hR' hxs (Or.inl rfl) (fun _ _ e _ => by cases e) (by simp) (fun _ e => by cases e)))
        have HNEW : Hid ((V.take j).map (crf fs) ++ (nm, (lft X sy 0 [], (lft X sy 0 []).length)) :: V.drop (j + 1) = (V.take (j + 1)).map (crf fs) ++ V.drop (j + 1)) := by
          show _ = _
          rw [hnew]
          unfold crf
          rw [hfp]
          rfl
        have HSV2 : Hid (SV rm ((V.take (j + 1)).map (crf fs) ++ V.drop (j + 1))) := by show SV _ _; rw [hnew]; exact hsv2
        have hwa' := hwa.symm
        clear hwa hF hba hfmr hq hsv2 hsp hL hR' hd htk hnx hbk hx hjV hnew hfx hfp HQ qn0 hmr
        go_wp2_with fail
        refine HCR.out.mono ?_
        rintro e w3 ⟨rfl, ha3, _⟩
        rw [HNEW.out] at ha3
        have HQ3 := hid (And.intro ha3 HSV2.out)
        clear ha3 HCR
        go_wp2_with fail
        go_roundg k
        case measure => omega
        case rel => exact ⟨j + 1, by omega, by first | exact congrArg (Value.int .i64) EW.out | rfl, HQ3⟩
      | some i0 =>
        obtain ⟨hi0, hfp⟩ := fx_find.1 i0 (by rw [← HNM.out]; exact hfx)
        obtain ⟨r1, r2, r3, r4, r5, r6, r7, r8⟩ := HR.out.2 i0 hi0
        have hiM0 : i0 < ms.length := by rw [HR.out.1]; exact hi0
        have hiM : i0 < M := by rw [← HM.out, HR.out.1]; exact hi0
        rcases HF.out with rfl | ⟨b, off, rfl, hbl, hcc⟩
        · exact absurd hiM (by rw [← HM.out]; simp)
        obtain ⟨q0, q1, q2⟩ := hcc i0 (by rw [HM.out]; exact hiM)
        have hbw := HBW.out
        have hb2' := hbk b (Nat.lt_of_lt_of_le hbl hbw.size) (HAF.out b off rfl (fun e => by rw [e] at hiM0; simp at hiM0))
        have hbe : wr.heap[b]? = w.heap[b]? := hb2'.trans (hbw.block b hbl)
        have hce : ∀ o, wr.cell? ⟨b, o, none⟩ = w.cell? ⟨b, o, none⟩ := fun o => by simp only [World.cell?, hbe]
        rw [← hce] at q0 q1 q2
        have hwrs : Wrs wr (ms.getD i0 t00).2.2.1 (fs.getD i0 p00).2.2 := by
          rcases r4 with e | ⟨bb, oo, e1, e2, e3⟩
          · exact Or.inl e
          · by_cases hne : (fs.getD i0 p00).2.2 = []
            · exact Or.inl hne
            have he : wr.heap[bb]? = w.heap[bb]? := (hbk bb (Nat.lt_of_lt_of_le e2 hbw.size) (r5 bb oo e1 hne)).trans (hbw.block bb e2)
            refine Or.inr ⟨bb, oo, e1, Nat.lt_of_lt_of_le e2 (Nat.le_trans hbw.size (by obtain ⟨_, _, m2, _⟩ := hq.1; exact m2.size)), fun k hk => ?_⟩
            obtain ⟨z1, z2⟩ := e3 k hk
            exact ⟨by simp only [World.cell?, he] at z1 ⊢; exact z1, by simp only [World.cell?, he] at z2 ⊢; exact z2⟩
        have hwf : ∀ f1 : Nat → Prop, (∀ i, f1 i → ft i ∨ w2.heap.size ≤ i) → ∀ bb oo, (ms.getD i0 t00).2.2.1 = some ⟨bb, oo, none⟩ → (fs.getD i0 p00).2.2 ≠ [] → ¬ f1 bb := by
          intro f1 hf1 bb oo e1 hne hb1
          rcases r4 with e | ⟨b', o', e2, e3, _⟩
          · exact hne e
          · rw [e1] at e2
            injection e2 with e2
            injection e2 with e2 _
            subst e2
            rcases hf1 bb hb1 with a | a
            · exact r5 bb oo e1 hne a
            · have := hbw.size; omega
        generalize fs.getD i0 p00 = P at *
        generalize ms.getD i0 t00 = T at *
        obtain ⟨pn, pk, pw⟩ := P
        obtain ⟨tn, tk, oa, on, oc⟩ := T
        simp only [ovS] at r1 r2 r3 r6 r7 r8 q0 q1 q2 hwrs hwf
        subst r1 r2 r3
        obtain ⟨wz, hwz⟩ : ∃ wz, wz = wr.alloc (Obj.cells #[.string ⟨#[]⟩, .int .i64 0, .slice none 0 0] 24) := ⟨_, rfl⟩
        have hbz : Below wr.heap.size wr wz := by rw [hwz]; exact bel_alloc _ _
        obtain ⟨v, hlk, hv⟩ := (hfmr.kept (hbz.block m hmr)).look nm hxs
        rw [hfx] at hlk
        simp only [Option.isSome_some] at hlk
        obtain rfl := hv i0 hfx
        have hFz := heap_new wr (Obj.cells #[.string ⟨#[]⟩, .int .i64 0, .slice none 0 0] 24)
        rw [← hwz] at hFz
        have hbs : b < wr.heap.size := Nat.lt_of_lt_of_le hbl (Nat.le_trans hbw.size (by obtain ⟨_, _, m2, _⟩ := hq.1; exact m2.size))
        have hze : ∀ o, wz.cell? ⟨b, o, none⟩ = wr.cell? ⟨b, o, none⟩ := fun o => by simp only [World.cell?, hbz.block b hbs]
        rw [← hze] at q0 q1 q2
        have z0 : wz.cell? ⟨wr.heap.size, 0, none⟩ = some (.string ⟨#[]⟩) := (cell_of hFz).trans rfl
        have z1 : wz.cell? ⟨wr.heap.size, 1, none⟩ = some (.int .i64 0) := (cell_of hFz).trans rfl
        have z2 : wz.cell? ⟨wr.heap.size, 2, none⟩ = some (.slice none 0 0) := (cell_of hFz).trans rfl
        have fz0 : ∀ o, wz.frozen? ⟨wr.heap.size, o, none⟩ = false := fun o => froz_of hFz
        have f0 := fz0 0
        have f1 := fz0 1
        have f2 := fz0 2
        have hiI : (i0 : Int) < M := by omega
        obtain ⟨wc, hwc⟩ : ∃ wc, wc = ((wz.setCell ⟨wr.heap.size, 0, none⟩ (.string tn)).setCell ⟨wr.heap.size, 1, none⟩ (.int .i64 tk)).setCell ⟨wr.heap.size, 2, none⟩ (.slice oa pw.length oc) := ⟨_, rfl⟩
        have hbc : Below wr.heap.size wr wc := by rw [hwc]; exact ((hbz.setCell (Nat.le_refl _) _).setCell (Nat.le_refl _) _).setCell (Nat.le_refl _) _
        have HCR := hid ((hq.1.kept hbc).stepF (fun f1 h1 hf1 => crash_any d f1 rm cl cb _ _ nm X sy tn tk oa oc pw wc h1 hq.2 hL hR' hxs (hwrs.kept hbc) (fun bb oo e1 hne => hwf f1 hf1 bb oo e1 hne) r7 r8))
        have HNEW : Hid ((V.take j).map (crf fs) ++ (nm, (lft X sy tk pw, (lft X sy tk pw).length)) :: V.drop (j + 1) = (V.take (j + 1)).map (crf fs) ++ V.drop (j + 1)) := by
          show _ = _
          rw [hnew]
          unfold crf
          rw [hfp]
        have HSV2 : Hid (SV rm ((V.take (j + 1)).map (crf fs) ++ V.drop (j + 1))) := by show SV _ _; rw [hnew]; exact hsv2
        rw [hwc] at HCR
        have hwz' := hwz.symm
        clear hiM0 hwz hwc hbc hFz hbz hfmr hq hsv2 hsp hL hR' hd htk hnx hbk hx hjV hnew hfx hfp HQ qn0 hmr hwrs hwf hze hce hbe hb2' hbw hcc hbl r4 r5 r6 r7 r8 fz0 hbs hv
        go_wp2_with fail
        refine HCR.out.mono ?_
        rintro e w3 ⟨rfl, ha3, _⟩
        rw [HNEW.out] at ha3
        have HQ3 := hid (And.intro ha3 HSV2.out)
        clear ha3 HCR
        go_wp2_with fail
        go_roundg k
        case measure => omega
        case rel => exact ⟨j + 1, by omega, by first | exact congrArg (Value.int .i64) EW.out | rfl, HQ3⟩
    · have hltD : decide ((j : Int) < N) = false := by simp; omega
      have e1 : V.take j = V := List.take_of_length_le (by rw [HN.out]; omega)
      have e2 : V.drop j = [] := List.drop_of_length_le (by rw [HN.out]; omega)
      have hq := HQ.out.1
      rw [e1, e2, List.append_nil] at hq
      have HE := hid (Aft.base HBW.out hq)
      clear hq HQ
      go_wp2_with fail
      go_end0
      exact ⟨rfl, HE.out⟩
end Go.Proofs.Ythjbhfhdepepmaa
namespace Go.Proofs.Ythjbhfhdepepmaa
open Go.RowKit
abbrev X3 := ByteArray × List UInt8 × Nat
/-- A fate without writes for each file. -/
def fsg (g : X3 → Int) (V : Vw) : List Ftp := V.map (fun x => (x.1, g x, []))
theorem ffx_g {g : X3 → Int} {V : Vw} (hp : V.Pairwise (fun a b => Bf a.1 b.1)) {x : X3} (hx : x ∈ V) : ffx (fsg g V) x.1 = (x.1, g x, []) := by
  unfold ffx
  obtain ⟨l, r, rfl⟩ := List.append_of_mem hx
  have : (fsg g (l ++ x :: r)).find? (fun f => decide (f.1 = x.1)) = some (x.1, g x, []) := by
    unfold fsg
    rw [List.map_append, List.map_cons]
    refine List.find?_eq_some_iff_append.2 ⟨by simp, _, _, rfl, fun y hy => ?_⟩
    obtain ⟨z, hz, rfl⟩ := List.mem_map.1 hy
    have h1 := (List.pairwise_append.1 hp).2.2 z hz x (by simp)
    have : z.1 ≠ x.1 := fun e => by unfold Bf at h1; rw [e, bb_irr] at h1; cases h1
    simp [this]
  rw [this]
  rfl
theorem lft_nil (X : List UInt8) (sy kp : Int) : lft X sy kp [] = X.take (kpt X.length (sfe X.length sy) kp) := rfl
theorem crf_nil (x : X3) (h : x.2.2 ≤ x.2.1.length) : crf [] x = (x.1, x.2.1.take x.2.2, x.2.2) := by
  obtain ⟨nm, X, sy⟩ := x
  simp only at h
  have e : lft X sy 0 [] = X.take sy := by
    rw [lft_nil]
    congr 1
    unfold kpt sfe
    omega
  unfold crf ffx
  simp only [List.find?_nil, Option.getD_none, p00]
  rw [e, List.length_take, Nat.min_eq_left h]
theorem crf_g {g : X3 → Int} {V : Vw} (hp : V.Pairwise (fun a b => Bf a.1 b.1)) {x : X3} (hx : x ∈ V) {k : Nat} (hg : g x = k) (h1 : x.2.2 ≤ k) (h2 : k ≤ x.2.1.length) : crf (fsg g V) x = (x.1, x.2.1.take k, k) := by
  unfold crf
  rw [ffx_g hp hx]
  obtain ⟨nm, X, sy⟩ := x
  simp only at h1 h2 hg
  have e : lft X sy (g (nm, X, sy)) [] = X.take k := by
    rw [lft_nil, hg]
    congr 1
    unfold kpt sfe
    omega
  simp only
  rw [e, List.length_take, Nat.min_eq_left h2]
def gs (x : X3) : Int := (x.2.2 : Int)
def gl (x : X3) : Int := (x.2.1.length : Int)
/-- A file of which all is safe. -/
def ful (x : X3) : X3 := (x.1, x.2.1, x.2.1.length)
theorem map_least {rm : Nat} {V : Vw} (h : SV rm V) : V.map (crf (fsg gs V)) = V.map (crf []) := by
  refine List.map_congr_left fun x hx => ?_
  have := (h.lng x hx).2.2
  rw [crf_g h.srt hx (k := x.2.2) rfl (Nat.le_refl _) this, crf_nil x this]
theorem map_most {rm : Nat} {V : Vw} (h : SV rm V) : V.map (crf (fsg gl V)) = V.map ful := by
  refine List.map_congr_left fun x hx => ?_
  have := (h.lng x hx).2.2
  rw [crf_g h.srt hx (k := x.2.1.length) rfl this (Nat.le_refl _), List.take_length]
  rfl
theorem ffcs_ful (V : Vw) : ffcs (V.map ful) = ffcs V := by
  unfold ffcs
  rw [List.flatMap_map]
  rfl
theorem lft_all (X : List UInt8) (kp : Int) (ws : List (Int × ByteArray)) : lft X X.length kp ws = X := by
  have h := lft_len X X.length kp ws
  have hs : sfe X.length (X.length : Int) = X.length := by unfold sfe; omega
  have hk : kpt X.length X.length kp = X.length := by unfold kpt; omega
  rw [hs, hk] at h
  have h2 : (lft X X.length kp ws).take X.length = X.take X.length := by
    unfold lft
    rw [hs, hk]
    have := lfs_head (fr := X.length) (to := X.length) (Nat.le_refl _) ws (X.take X.length) (by rw [List.length_take, Nat.min_self])
    rw [this, List.take_take, Nat.min_self]
  rw [List.take_length, List.take_of_length_le (by omega)] at h2
  exact h2
theorem crf_stay (fs : List Ftp) (x : X3) (h : x.2.2 = x.2.1.length) : crf fs x = x := by
  obtain ⟨nm, X, sy⟩ := x
  simp only at h
  subst h
  unfold crf
  simp only
  rw [lft_all]
theorem map_stay (fs fs' : List Ftp) (V : Vw) : (V.map (crf fs)).map (crf fs') = V.map (crf fs) := by
  rw [List.map_map]
  exact List.map_congr_left fun x _ => crf_stay _ _ rfl
theorem SV.crf {rm : Nat} {V : Vw} (fs : List Ftp) (h : SV rm V) : SV rm (V.map (crf fs)) := by
  have k : ∀ j, j ≤ V.length → SV rm ((V.take j).map (Go.Proofs.Ythjbhfhdepepmaa.crf fs) ++ V.drop j) := by
    intro j
    induction j with
    | zero => intro _; simpa using h
    | succ j ih =>
      intro hj
      have h1 := ih (by omega)
      have hd : V.drop j = V[j] :: V.drop (j + 1) := List.drop_eq_getElem_cons (by omega)
      rw [hd] at h1
      have h2 := crf_fits fs h1
      rw [List.take_succ_eq_append_getElem (by omega), List.map_append, List.append_assoc]
      exact h2
  have := k V.length (Nat.le_refl _)
  rwa [List.take_length, List.drop_length, List.append_nil] at this
theorem fx_own {V : Vw} (hp : V.Pairwise (fun a b => Bf a.1 b.1)) {j : Nat} (hj : j < V.length) : fx (V.map (·.1)) (V.getD j x0p).1 = some j := by
  have e : (V.getD j x0p) = V[j] := by rw [List.getD_eq_getElem?_getD, List.getElem?_eq_getElem hj]; rfl
  obtain ⟨i, hi, hij⟩ := fx_has (ns := V.map (·.1)) (nm := (V.getD j x0p).1) (j := j) (by rw [List.getElem?_map, List.getElem?_eq_getElem hj, e]; rfl)
  rw [hi]
  unfold fx at hi
  rw [List.findIdx?_eq_some_iff_getElem] at hi
  obtain ⟨h1, h2, _⟩ := hi
  simp only [List.getElem_map, decide_eq_true_eq] at h2
  by_cases hlt : i < j
  · have := List.pairwise_iff_getElem.1 hp i j (by omega) hj hlt
    rw [h2, e] at this
    unfold Bf at this
    rw [bb_irr] at this
    cases this
  · rw [show i = j by omega]
theorem chk_g {rm : Nat} {g : X3 → Int} {V : Vw} (h : SV rm V) (hg : ∀ x ∈ V, (x.2.2 : Int) ≤ g x ∧ g x ≤ x.2.1.length) : chk V (fsg g V) = 0 := by
  have hl : (fsg g V).length = V.length := List.length_map _
  have hns : (fsg g V).map (·.1) = V.map (·.1) := by unfold fsg; rw [List.map_map]; rfl
  have k : ∀ j, j ≤ V.length → ckA V (fsg g V) j = 0 := by
    intro j
    induction j with
    | zero => intro _; rfl
    | succ j ih =>
      intro hj
      have hjV : j < V.length := by omega
      have hx : V.getD j x0p ∈ V := by rw [List.getD_eq_getElem?_getD, List.getElem?_eq_getElem hjV]; exact List.getElem_mem _
      have hgj : (fsg g V).getD j p00 = ((V.getD j x0p).1, g (V.getD j x0p), []) := by
        unfold fsg
        rw [List.getD_eq_getElem?_getD, List.getElem?_map, List.getElem?_eq_getElem hjV, List.getD_eq_getElem?_getD, List.getElem?_eq_getElem hjV]
        rfl
      have hb := hg _ hx
      have hc : fitB (g (V.getD j x0p)) [] (V.getD j x0p).2.2 (V.getD j x0p).2.1.length = true := by unfold fitB; rw [decide_eq_true hb]; rfl
      rw [ckA, if_pos (ih (by omega))]
      unfold ck1 ckc
      rw [hgj, hns]
      simp only
      rw [if_pos (h.lng _ hx).1, vl_at8 h.srt hx]
      simp only
      rw [if_pos ⟨fx_own h.srt hjV, hc⟩]
  unfold chk
  rw [hl]
  exact k _ (Nat.le_refl _)
def m3 (x : ByteArray × Int) : Ft3 := (x.1, x.2, none, 0, 0)
def f3 (x : ByteArray × Int) : Ftp := (x.1, x.2, [])
theorem fts_row {w : World} {B g N : Nat} {l : List (ByteArray × Int)} (h : w.ownsRow B 24 3 (.slice (some ⟨g, 0, none⟩) N N) N (fcs l)) (hl : l.length = N) : Fts w (some ⟨g, 0, none⟩) (l.map m3) := by
  obtain ⟨cur, hg⟩ := own_blk8 h (i := g) rfl
  refine Or.inr ⟨g, 0, rfl, lt_of_heap hg, fun j hj => ?_⟩
  rw [List.length_map] at hj
  have hcl : ∀ k, k < 3 → w.cell? ⟨g, j * 3 + k, none⟩ = (fcell (l.getD j f0p))[k]? := fun k hk => (h.cellAt (j * 3 + k) (by omega)).trans (fcs_at hj hk)
  have e : (l.map m3).getD j t00 = m3 (l.getD j f0p) := by
    rw [List.getD_eq_getElem?_getD, List.getElem?_map, List.getElem?_eq_getElem hj, List.getD_eq_getElem?_getD, List.getElem?_eq_getElem hj]
    rfl
  rw [e]
  simp only [Nat.zero_add]
  exact ⟨hcl 0 (by omega), hcl 1 (by omega), hcl 2 (by omega)⟩
theorem ftw_row {w : World} {ft : Nat → Prop} {l : List (ByteArray × Int)} (hn : ∀ x ∈ l, x.1.size ≤ maxLen) : Ftw w ft (l.map m3) (l.map f3) := by
  refine ⟨by simp, fun j hj => ?_⟩
  rw [List.length_map] at hj
  have e : (l.map m3).getD j t00 = m3 (l.getD j f0p) := by
    rw [List.getD_eq_getElem?_getD, List.getElem?_map, List.getElem?_eq_getElem hj, List.getD_eq_getElem?_getD, List.getElem?_eq_getElem hj]
    rfl
  have e2 : (l.map f3).getD j p00 = f3 (l.getD j f0p) := by
    rw [List.getD_eq_getElem?_getD, List.getElem?_map, List.getElem?_eq_getElem hj, List.getD_eq_getElem?_getD, List.getElem?_eq_getElem hj]
    rfl
  have hm : l.getD j f0p ∈ l := by rw [List.getD_eq_getElem?_getD, List.getElem?_eq_getElem hj]; exact List.getElem_mem _
  rw [e, e2]
  exact ⟨rfl, rfl, rfl, Or.inl rfl, fun b off (h : (none : Option Addr) = some ⟨b, off, none⟩) _ => (by cases h), hn _ hm, Nat.zero_le _, fun _ hx => absurd hx List.not_mem_nil⟩
theorem crash_row (d : Nat) (ft : Nat → Prop) (rm : Nat) (cl cb : Int) (V : Vw) (g N B : Nat) (l : List (ByteArray × Int)) (w : World) (h : Ds w d ft rm cl cb V) (hs : SV rm V) (ho : w.ownsRow B 24 3 (.slice (some ⟨g, 0, none⟩) N N) N (fcs l)) (hl : l.length = N) (hn : ∀ x ∈ l, x.1.size ≤ maxLen) (hN : N ≤ 65536) :
    Calls Try.prog 25 #[.pointer (some ⟨d, 0, none⟩), .slice (some ⟨g, 0, none⟩) N N] w fun e w' => e = .returned (.tuple #[]) ∧ Aft w ft d rm cl cb (V.map (crf (l.map f3))) w' := by
  obtain ⟨cur, hg⟩ := own_blk8 ho (i := g) rfl
  have := crashall_w d ft rm cl cb V (some ⟨g, 0, none⟩) N (l.map m3) (l.map f3) w h hs (fts_row ho hl) (ftw_row hn) (fun b off e _ => by injection e with e; injection e with e _; subst e; exact h.out hg (by decide) (by decide) (by decide)) (by rw [List.length_map]; omega)
  rwa [List.length_map, hl] at this
theorem crash_none (d : Nat) (ft : Nat → Prop) (rm : Nat) (cl cb : Int) (V : Vw) (w : World) (h : Ds w d ft rm cl cb V) (hs : SV rm V) :
    Calls Try.prog 25 #[.pointer (some ⟨d, 0, none⟩), .slice none 0 0] w fun e w' => e = .returned (.tuple #[]) ∧ Aft w ft d rm cl cb (V.map (crf [])) w' :=
  crashall_w d ft rm cl cb V none 0 [] [] w h hs (Or.inl rfl) ⟨rfl, fun j hj => by simp at hj⟩ (fun b off e => by cases e) (by simp)
theorem check_row (d : Nat) (ft : Nat → Prop) (rm : Nat) (cl cb : Int) (V : Vw) (g N B : Nat) (l : List (ByteArray × Int)) (w : World) (h : Ds w d ft rm cl cb V) (hs : SV rm V) (ho : w.ownsRow B 24 3 (.slice (some ⟨g, 0, none⟩) N N) N (fcs l)) (hl : l.length = N) (hn : ∀ x ∈ l, x.1.size ≤ maxLen) (hN : N ≤ 65536) :
    Calls Try.prog 16 #[.pointer (some ⟨d, 0, none⟩), .slice (some ⟨g, 0, none⟩) N N] w fun e w' => e = .returned (.int .i64 (chk V (l.map f3))) ∧ Below w.heap.size w w' := by
  have := check_any d ft rm cl cb V (some ⟨g, 0, none⟩) N (l.map m3) (l.map f3) w h hs (fts_row ho hl) (ftw_row hn) (by rw [List.length_map]; omega)
  rwa [List.length_map, hl] at this
theorem mst_f3 (V : Vw) : (mst V).map f3 = fsg gl V := by unfold mst fsg; rw [List.map_map]; rfl
theorem lst_f3 (V : Vw) : (lst V).map f3 = fsg gs V := by unfold lst fsg; rw [List.map_map]; rfl
end Go.Proofs.Ythjbhfhdepepmaa
namespace Go.Proofs.Ythjbhfhdepepmaa
open Go.RowKit
def d0 : Nat × Vw := (0, [])
def DL (w0 : World) (H rm : Nat) (L : List (Nat × Vw)) (w : World) : Prop :=
  ∃ F : Nat → Nat → Prop, (∀ i, i < L.length → Ds w (L.getD i d0).1 (F i) rm 0 0 (L.getD i d0).2) ∧ (∀ i j, i < L.length → j < L.length → i ≠ j → ∀ x, F i x → ¬ F j x) ∧ (∀ i, i < L.length → ∀ x, F i x → H ≤ x) ∧ H ≤ w.heap.size ∧ Below H w0 w
section
variable {w0 w w' : World} {H rm : Nat} {L : List (Nat × Vw)}
theorem DL.below (h : DL w0 H rm L w) : Below H w0 w := let ⟨_, _, _, _, _, k⟩ := h; k
theorem DL.le (h : DL w0 H rm L w) : H ≤ w.heap.size := let ⟨_, _, _, _, k, _⟩ := h; k
theorem DL.kept (h : DL w0 H rm L w) (hb : Below w.heap.size w w') : DL w0 H rm L w' := by
  obtain ⟨F, h1, h2, h3, h4, h5⟩ := h
  exact ⟨F, fun i hi => (h1 i hi).kept hb, h2, h3, Nat.le_trans h4 hb.size, h5.trans (hb.mono h4)⟩
theorem DL.ds (h : DL w0 H rm L w) (i : Nat) (hi : i < L.length) : ∃ f, Ds w (L.getD i d0).1 f rm 0 0 (L.getD i d0).2 ∧ ∀ x, f x → H ≤ x := by
  obtain ⟨F, h1, _, h3, _⟩ := h
  exact ⟨F i, h1 i hi, h3 i hi⟩
theorem DL.one {d : Nat} {f : Nat → Prop} {V : Vw} (h : Ds w d f rm 0 0 V) (hf : ∀ x, f x → H ≤ x) (hH : H ≤ w.heap.size) (hb : Below H w0 w) : DL w0 H rm [(d, V)] w := by
  refine ⟨fun _ => f, fun i hi => ?_, fun i j hi hj hne => ?_, fun _ _ => hf, hH, hb⟩
  · have : i = 0 := by simpa using hi
    subst this
    exact h
  · simp at hi hj
    omega
theorem DL.add (h : DL w0 H rm L w) {c : Nat} {V : Vw} {f : Nat → Prop} (hb : Below w.heap.size w w') (hc : Ds w' c f rm 0 0 V) (hf : ∀ x, f x → w.heap.size ≤ x) : DL w0 H rm (L ++ [(c, V)]) w' := by
  obtain ⟨F, h1, h2, h3, h4, h5⟩ := h
  have hlt : ∀ i, i < L.length → ∀ x, F i x → x < w.heap.size := fun i hi x hx => (h1 i hi).lt hx
  refine ⟨fun i => if i < L.length then F i else f, fun i hi => ?_, fun i j hi hj hne x hx hy => ?_, fun i hi x hx => ?_, Nat.le_trans h4 hb.size, h5.trans (hb.mono h4)⟩
  · rw [List.length_append] at hi
    by_cases hl : i < L.length
    · simp only [if_pos hl]
      rw [List.getD_eq_getElem?_getD, List.getElem?_append_left hl, ← List.getD_eq_getElem?_getD]
      exact (h1 i hl).kept hb
    · have : i = L.length := by simp at hi; omega
      subst this
      simp only [if_neg hl]
      rw [List.getD_eq_getElem?_getD, List.getElem?_append_right (Nat.le_refl _), Nat.sub_self]
      exact hc
  · rw [List.length_append] at hi hj
    simp only [List.length_cons, List.length_nil] at hi hj
    by_cases hl : i < L.length
    · simp only [if_pos hl] at hx
      by_cases hm : j < L.length
      · simp only [if_pos hm] at hy
        exact h2 i j hl hm hne x hx hy
      · simp only [if_neg hm] at hy
        have := hlt i hl x hx
        have := hf x hy
        omega
    · simp only [if_neg hl] at hx
      by_cases hm : j < L.length
      · simp only [if_pos hm] at hy
        have := hlt j hm x hy
        have := hf x hx
        omega
      · omega
  · by_cases hl : i < L.length
    · simp only [if_pos hl] at hx
      exact h3 i hl x hx
    · simp only [if_neg hl] at hx
      exact Nat.le_trans h4 (hf x hx)
/-- A call upon the i-th. -/
theorem DL.step (h : DL w0 H rm L w) (i : Nat) (hi : i < L.length) {V' : Vw} {f : FuncId} {args : Array Value} {v : Value}
    (hc : ∀ fa, Ds w (L.getD i d0).1 fa rm 0 0 (L.getD i d0).2 → (∀ x, fa x → H ≤ x) → Calls Try.prog f args w fun e w' => e = .returned v ∧ Aft w fa (L.getD i d0).1 rm 0 0 V' w') : Calls Try.prog f args w fun e w' => e = .returned v ∧ DL w0 H rm (L.set i ((L.getD i d0).1, V')) w' ∧ Oth w w' := by
  obtain ⟨F, h1, h2, h3, h4, h5⟩ := h
  refine (hc (F i) (h1 i hi) (h3 i hi)).mono ?_
  rintro e w' ⟨rfl, fa', k1, k2, k3⟩
  refine ⟨rfl, ⟨fun j => if j = i then fa' else F j, fun j hj => ?_, fun j k hj hk hne x hx hy => ?_, fun j hj x hx => ?_, Nat.le_trans h4 k2.size, h5.trans (k2.below h4 (fun x hx hf => by have := h3 i hi x hf; omega))⟩, (h1 i hi).oth k2⟩
  · rw [List.length_set] at hj
    by_cases e : j = i
    · subst e
      simp only [if_true]
      rw [List.getD_eq_getElem?_getD, List.getElem?_set_self hi]
      exact k1
    · simp only [if_neg e]
      rw [List.getD_eq_getElem?_getD, List.getElem?_set_ne (fun h => e h.symm), ← List.getD_eq_getElem?_getD]
      exact (h1 j hj).ch k2 (fun x hx hf => h2 j i hj hi e x hx hf)
  · rw [List.length_set] at hj hk
    by_cases e : j = i
    · subst e
      simp only [if_true] at hx
      have e2 : k ≠ j := fun h => hne h.symm
      simp only [if_neg e2] at hy
      rcases k3 x hx with a | a
      · exact h2 j k hj hk hne x a hy
      · have := (h1 k hk).lt hy; omega
    · simp only [if_neg e] at hx
      by_cases e2 : k = i
      · subst e2
        simp only [if_true] at hy
        rcases k3 x hy with a | a
        · exact h2 k j hk hj (fun h => hne h.symm) x a hx
        · have := (h1 j hj).lt hx; omega
      · simp only [if_neg e2] at hy
        exact h2 j k hj hk hne x hx hy
  · rw [List.length_set] at hj
    by_cases e : j = i
    · subst e
      simp only [if_true] at hx
      rcases k3 x hx with a | a
      · exact h3 j hj x a
      · omega
    · simp only [if_neg e] at hx
      exact h3 j hj x hx
end
end Go.Proofs.Ythjbhfhdepepmaa
namespace Go.Proofs.Ythjbhfhdepepmaa
open Go.RowKit
section
variable {w0 w : World} {H rm : Nat} {L : List (Nat × Vw)}
theorem own_belG {w w' : World} {B n : Nat} {v : Value} {l : List Value} (h : w.ownsRow B 40 3 v n l) (hb : Below w.heap.size w w') : w'.ownsRow B 40 3 v n l := own_othF h (Oth.below hb)
theorem DL.whole (h : DL w0 H rm L w) (i : Nat) (hi : i < L.length) (hs : SV rm (L.getD i d0).2) : Calls Try.prog 32 #[.pointer (some ⟨(L.getD i d0).1, 0, none⟩)] w fun e w' => ∃ v, e = .returned v ∧ w'.ownsRow w.heap.size 40 3 v (L.getD i d0).2.length (ffcs (L.getD i d0).2) ∧ Below w.heap.size w w' := by
  obtain ⟨f, h1, _⟩ := h.ds i hi
  exact whole_any _ f rm 0 0 _ w h1 hs
theorem DL.clone (h : DL w0 H rm L w) (i : Nat) (hi : i < L.length) (hs : SV rm (L.getD i d0).2) : Calls Try.prog 33 #[.pointer (some ⟨(L.getD i d0).1, 0, none⟩)] w fun e w' => e = .returned (.pointer (some ⟨w.heap.size, 0, none⟩)) ∧ DL w0 H rm (L ++ [(w.heap.size, (L.getD i d0).2)]) w' ∧ Below w.heap.size w w' := by
  obtain ⟨f, h1, _⟩ := h.ds i hi
  refine (s_clone _ f rm 0 0 _ w h1 hs.cnt).mono ?_
  rintro e w' ⟨he, ⟨fc, k1, k2⟩, k3⟩
  exact ⟨he, h.add k3 k1 k2, k3⟩
theorem DL.least (h : DL w0 H rm L w) (i : Nat) (hi : i < L.length) (hs : SV rm (L.getD i d0).2) : Calls Try.prog 19 #[.pointer (some ⟨(L.getD i d0).1, 0, none⟩)] w fun e w' => ∃ g N, e = .returned (.slice (some ⟨g, 0, none⟩) N N) ∧ N = (L.getD i d0).2.length ∧ w.heap.size ≤ g ∧ w'.ownsRow w.heap.size 24 3 (.slice (some ⟨g, 0, none⟩) N N) N (fcs (lst (L.getD i d0).2)) ∧ Below w.heap.size w w' := by
  obtain ⟨f, h1, _⟩ := h.ds i hi
  exact least_any _ f rm 0 0 _ w h1 hs
theorem DL.most (h : DL w0 H rm L w) (i : Nat) (hi : i < L.length) (hs : SV rm (L.getD i d0).2) : Calls Try.prog 21 #[.pointer (some ⟨(L.getD i d0).1, 0, none⟩)] w fun e w' => ∃ g N, e = .returned (.slice (some ⟨g, 0, none⟩) N N) ∧ N = (L.getD i d0).2.length ∧ w.heap.size ≤ g ∧ w'.ownsRow w.heap.size 24 3 (.slice (some ⟨g, 0, none⟩) N N) N (fcs (mst (L.getD i d0).2)) ∧ Below w.heap.size w w' := by
  obtain ⟨f, h1, _⟩ := h.ds i hi
  exact most_any _ f rm 0 0 _ w h1 hs
theorem lst_len (V : Vw) : (lst V).length = V.length := List.length_map _
theorem mst_len (V : Vw) : (mst V).length = V.length := List.length_map _
theorem lst_nm {rm : Nat} {V : Vw} (hs : SV rm V) : ∀ x ∈ lst V, x.1.size ≤ maxLen := fun x hx => by
  obtain ⟨y, hy, rfl⟩ := List.mem_map.1 hx
  have := (hs.lng y hy).1
  unfold maxLen
  simp only
  omega
theorem mst_nm {rm : Nat} {V : Vw} (hs : SV rm V) : ∀ x ∈ mst V, x.1.size ≤ maxLen := fun x hx => by
  obtain ⟨y, hy, rfl⟩ := List.mem_map.1 hx
  have := (hs.lng y hy).1
  unfold maxLen
  simp only
  omega
theorem DL.crashRow (h : DL w0 H rm L w) (i : Nat) (hi : i < L.length) (hs : SV rm (L.getD i d0).2) {B g N : Nat} {l : List (ByteArray × Int)} (ho : w.ownsRow B 24 3 (.slice (some ⟨g, 0, none⟩) N N) N (fcs l)) (hl : l.length = N) (hn : ∀ x ∈ l, x.1.size ≤ maxLen) (hN : N ≤ 65536) :
    Calls Try.prog 25 #[.pointer (some ⟨(L.getD i d0).1, 0, none⟩), .slice (some ⟨g, 0, none⟩) N N] w fun e w' => e = .returned (.tuple #[]) ∧ DL w0 H rm (L.set i ((L.getD i d0).1, (L.getD i d0).2.map (crf (l.map f3)))) w' ∧ Oth w w' :=
  h.step i hi (fun fa hd _ => crash_row _ fa rm 0 0 _ g N B l w hd hs ho hl hn hN)
theorem DL.crashNone (h : DL w0 H rm L w) (i : Nat) (hi : i < L.length) (hs : SV rm (L.getD i d0).2) :
    Calls Try.prog 25 #[.pointer (some ⟨(L.getD i d0).1, 0, none⟩), .slice none 0 0] w fun e w' => e = .returned (.tuple #[]) ∧ DL w0 H rm (L.set i ((L.getD i d0).1, (L.getD i d0).2.map (crf []))) w' ∧ Oth w w' :=
  h.step i hi (fun fa hd _ => crash_none _ fa rm 0 0 _ w hd hs)
theorem DL.crashIn (h : DL w0 w0.heap.size rm L w) (i : Nat) (hi : i < L.length) (hs : SV rm (L.getD i d0).2) {a : Option Addr} {cap : Nat} {ms : List Ft3} {fs : List Ftp} (hF : FtIn w0 a ms fs) (hl : ms.length ≤ 140737488355328) :
    Calls Try.prog 25 #[.pointer (some ⟨(L.getD i d0).1, 0, none⟩), .slice a ms.length cap] w fun e w' => e = .returned (.tuple #[]) ∧ DL w0 w0.heap.size rm (L.set i ((L.getD i d0).1, (L.getD i d0).2.map (crf fs))) w' ∧ Oth w w' :=
  h.step i hi (fun fa hd hH => crashall_w _ fa rm 0 0 _ a cap ms fs w hd hs (hF.fts h.below) (hF.ftw h.below hH) (hF.haf hH) hl)
theorem DL.check (h : DL w0 H rm L w) (i : Nat) (hi : i < L.length) (hs : SV rm (L.getD i d0).2) {B g N : Nat} {l : List (ByteArray × Int)} (ho : w.ownsRow B 24 3 (.slice (some ⟨g, 0, none⟩) N N) N (fcs l)) (hl : l.length = N) (hn : ∀ x ∈ l, x.1.size ≤ maxLen) (hN : N ≤ 65536) :
    Calls Try.prog 16 #[.pointer (some ⟨(L.getD i d0).1, 0, none⟩), .slice (some ⟨g, 0, none⟩) N N] w fun e w' => e = .returned (.int .i64 (chk (L.getD i d0).2 (l.map f3))) ∧ Below w.heap.size w w' := by
  obtain ⟨f, h1, _⟩ := h.ds i hi
  exact check_row _ f rm 0 0 _ g N B l w h1 hs ho hl hn hN
theorem DL.synced (h : DL w0 H rm L w) (i : Nat) (hi : i < L.length) (nm : ByteArray) (hn : nm.size ≤ maxLen) :
    Calls Try.prog 35 #[.pointer (some ⟨(L.getD i d0).1, 0, none⟩), .string nm] w fun e w' => e = .returned (.tuple #[.int .i64 (syN (vl nm (L.getD i d0).2)), .int .i64 (noE (vl nm (L.getD i d0).2))]) ∧ ∃ k, w' = w.drewN k := by
  obtain ⟨f, h1, _⟩ := h.ds i hi
  exact s_synced _ f rm 0 0 _ nm w h1 hn
end
end Go.Proofs.Ythjbhfhdepepmaa
