/- Texts of the proof, put together: Lkc, Lkd, Lks, Crw, Pfp, Dls, Dlt, Rrm, Rhw, Rha, Rck, Rlm, Cpg, Cph, Rcw, Sfw, Blp, Blx, Blo. -/
import Derived.Test.YthjbhfhdepepmaaPMD
import Derived.Test.YthjbhfhdepepmaaPMC
import Derived.Test.YthjbhfhdepepmaaRcr
import Derived.Deep.DeepCutAuto
import Derived.Deep.AppendLies
import Derived.Laws.AppendOwnNone
namespace Go.Proofs.Ythjbhfhdepepmaa
open Go.RowKit
theorem drewN_bel' {w0 w : World} {B : Nat} (hb : Below B w0 w) (n : Nat) : Below B w0 (w.drewN n) := ⟨hb.os, hb.tape, hb.output, hb.size, hb.block⟩
def fitW (kp : Int) (sy : Nat) (x : Int × ByteArray) : Bool := decide ((sy : Int) ≤ x.1 ∧ x.1 ≤ kp - x.2.size)
def fitB (kp : Int) (ws : List (Int × ByteArray)) (sy ln : Nat) : Bool := decide ((sy : Int) ≤ kp ∧ kp ≤ (ln : Int)) && ws.all (fitW kp sy)
set_option maxHeartbeats 4000000 in
set_option maxRecDepth 20000 in
theorem fits_any (nm : ByteArray) (kp : Int) (oa : Option Addr) (oc : Nat) (ws : List (Int × ByteArray)) (sy ln : Nat) (w : World) (hw : Wrs w oa ws) (hl : ws.length ≤ 140737488355328) (hok : ∀ x ∈ ws, WrOk x) (hsl : sy ≤ 1099511627776) (hll : ln ≤ 1099511627776) :
    Calls Try.prog 49 #[.agg #[.string nm, .int .i64 kp, .slice oa ws.length oc], .int .i64 sy, .int .i64 ln] w fun e w' => e = .returned (.bool (fitB kp ws sy ln)) ∧ Below w.heap.size w w' := by
  have HB0 := hid (bel_alloc w (.cells #[.string nm, .int .i64 kp, .slice oa ws.length oc] 24))
  have HW := hid hw
  have HO := hid hok
  clear hw hok
  by_cases h1 : kp < sy
  · have HE : Hid (fitB kp ws sy ln = false) := by show _ = _; unfold fitB; rw [decide_eq_false (by omega), Bool.false_and]
    go_enter Try.func49, Try.ntmps49
    go_wp2_with fail
    go_ret
    exact ⟨by rw [HE.out]; rfl, HB0.out⟩
  by_cases h2 : (ln : Int) < kp
  · have HE : Hid (fitB kp ws sy ln = false) := by show _ = _; unfold fitB; rw [decide_eq_false (by omega), Bool.false_and]
    go_enter Try.func49, Try.ntmps49
    go_wp2_with fail
    go_ret
    exact ⟨by rw [HE.out]; rfl, HB0.out⟩
  have HE : Hid (fitB kp ws sy ln = ws.all (fitW kp sy)) := by show _ = _; unfold fitB; rw [decide_eq_true (by omega), Bool.true_and]
  go_enter Try.func49, Try.ntmps49
  go_wp2_with fail
  generalize hN : ws.length = N at *
  have HN := hid hN
  clear hN
  obtain ⟨wa, hwa⟩ : ∃ wa, wa = w.alloc (Obj.cells #[.string nm, .int .i64 kp, .slice oa N oc] 24) := ⟨_, rfl⟩
  have hFn := heap_new w (Obj.cells #[.string nm, .int .i64 kp, .slice oa N oc] 24)
  rw [← hwa] at hFn HB0 ⊢
  have HWa : Hid (w.heap.size < wa.heap.size) := lt_of_heap hFn
  have HK : Hid (wa.cell? ⟨w.heap.size, 1, none⟩ = some (.int .i64 kp)) := (cell_of hFn).trans rfl
  have HW2 := hid (HW.out.kept HB0.out)
  clear hFn hwa
  go_loopg [22] N (fun k i wr => ∃ j : Nat, j + k = N ∧ i = .int .i64 j ∧ Hid ((ws.take j).all (fitW kp sy) = true) ∧ Hid (Below wa.heap.size wa wr))
  case atStart => exact ⟨0, by omega, rfl, rfl, Below.refl _ _⟩
  case round =>
    obtain ⟨j, hj, rfl, HA, HB⟩ := hrel
    by_cases hlt : j < N
    · obtain ⟨k', rfl⟩ : ∃ k', gk = k' + 1 := ⟨gk - 1, by omega⟩
      have hltI : (j : Int) < N := by omega
      have hjw : j < ws.length := by rw [HN.out]; exact hlt
      have hT : (ws.take (j + 1)).all (fitW kp sy) = ((ws.take j).all (fitW kp sy) && fitW kp sy (ws.getD j w00)) := by
        rw [List.take_succ_eq_append_getElem hjw, List.all_append, List.getD_eq_getElem?_getD, List.getElem?_eq_getElem hjw]
        simp
      have hmem : ws.getD j w00 ∈ ws := by rw [List.getD_eq_getElem?_getD, List.getElem?_eq_getElem hjw]; exact List.getElem_mem _
      have hO := HO.out _ hmem
      rcases HW2.out.kept HB.out with e | ⟨b, off, rfl, hbl, hc⟩
      · exact absurd hjw (by rw [e]; simp)
      obtain ⟨q0, q1⟩ := hc j hjw
      have hwr : w.heap.size < wr.heap.size := Nat.lt_of_lt_of_le HWa.out HB.out.size
      have qk := (HB.out.cell (p := ⟨w.heap.size, 1, none⟩) HWa.out).trans HK.out
      generalize ws.getD j w00 = x at *
      obtain ⟨at', D⟩ := x
      simp only at q0 q1
      unfold WrOk at hO
      simp only at hO
      have HBl := hid (HB.out.alloc HB.out.size (.cells #[.int .i64 at', .string D] 69))
      have HJ := hid hj
      by_cases h3 : at' < sy
      · have HF : Hid (ws.all (fitW kp sy) = false) := by
          show _ = _
          rw [List.all_eq_false]
          exact ⟨_, hmem, by unfold fitW; simp only; rw [decide_eq_false (by omega)]; decide⟩
        clear hc hT hmem
        go_wp2_with fail
        go_ret
        exact ⟨by rw [HE.out, HF.out]; rfl, HB0.out.trans (HBl.out.mono (Nat.le_of_lt HWa.out))⟩
      by_cases h4 : kp - D.size < at'
      · have HF : Hid (ws.all (fitW kp sy) = false) := by
          show _ = _
          rw [List.all_eq_false]
          exact ⟨_, hmem, by unfold fitW; simp only; rw [decide_eq_false (by omega)]; decide⟩
        clear hc hT hmem
        go_wp2_with fail
        go_ret
        exact ⟨by rw [HE.out, HF.out]; rfl, HB0.out.trans (HBl.out.mono (Nat.le_of_lt HWa.out))⟩
      have HT : Hid ((ws.take (j + 1)).all (fitW kp sy) = true) := by
        show _ = _
        rw [hT, HA.out]
        unfold fitW
        simp only
        rw [decide_eq_true (by omega)]
        rfl
      clear hc hT hmem
      go_wp2_with fail
      go_roundg k'
      case measure => omega
      case rel => exact ⟨j + 1, by have := HJ.out; omega, congrArg (Value.int .i64) (by omega), HT, HBl⟩
    · have hltI : ¬ (j : Int) < N := by omega
      have HF : Hid (ws.all (fitW kp sy) = true) := by
        have := HA.out
        rw [List.take_of_length_le (by rw [HN.out]; omega)] at this
        exact this
      go_wp2_with fail
      go_ret
      exact ⟨by rw [HE.out, HF.out]; rfl, HB0.out.trans (HB.out.mono (Nat.le_of_lt HWa.out))⟩
end Go.Proofs.Ythjbhfhdepepmaa
namespace Go.Proofs.Ythjbhfhdepepmaa
open Go.RowKit
def ckc (V : Vw) (ns : List ByteArray) (j : Nat) (f : Ftp) : Nat :=
  if 1 ≤ f.1.size ∧ f.1.size ≤ 255 then
    match vl f.1 V with
    | none => 4
    | some x => if fx ns f.1 = some j ∧ fitB f.2.1 f.2.2 x.2 x.1.length = true then 0 else 31
  else 3
def ck1 (V : Vw) (fs : List Ftp) (j : Nat) : Nat := ckc V (fs.map (·.1)) j (fs.getD j p00)
def ckA (V : Vw) (fs : List Ftp) : Nat → Nat
  | 0 => 0
  | j + 1 => if ckA V fs j = 0 then ck1 V fs j else ckA V fs j
/-- What Check answers. -/
def chk (V : Vw) (fs : List Ftp) : Nat := ckA V fs fs.length
theorem ckA_keep {V : Vw} {fs : List Ftp} {j : Nat} (h : ckA V fs j ≠ 0) : ∀ k, ckA V fs (j + k) = ckA V fs j
  | 0 => rfl
  | k + 1 => by
    rw [show j + (k + 1) = j + k + 1 from rfl, ckA, if_neg (by rw [ckA_keep h k]; exact h), ckA_keep h k]
theorem chk_stop {V : Vw} {fs : List Ftp} {j n : Nat} (h0 : ckA V fs j = 0) (h1 : ck1 V fs j = n) (hn : n ≠ 0) (hj : j < fs.length) : chk V fs = n := by
  have e : ckA V fs (j + 1) = n := by rw [ckA, if_pos h0, h1]
  have := ckA_keep (V := V) (fs := fs) (j := j + 1) (by rw [e]; exact hn) (fs.length - (j + 1))
  rw [show j + 1 + (fs.length - (j + 1)) = fs.length by omega, e] at this
  exact this
set_option maxRecDepth 20000 in
theorem Fm.look1 {w : World} {m : Nat} {ns : List ByteArray} (h : Fm w m ns) (nm : ByteArray) (hn : nm.size ≤ maxLen) {i : Nat} (hf : fx ns nm = some i) : (Instr.lookup 87 (.map (some m)) (.string nm) false).run Try.prog w = .ok (.int .i64 i) w := by
  obtain ⟨n, D, h1, h2, h3, h4⟩ := h
  obtain ⟨v, ps, k1, k2⟩ := h1.lookup klaw Try.underMI (Try.zero3 w) (RI_int 0 (by decide)) (keyS hn)
  obtain ⟨m1, m2⟩ := h4 nm hn
  obtain ⟨e1, e2⟩ := m2 i hf
  rw [e2] at k2
  rw [RI_inv k2] at k1
  exact k1
theorem fx_has {ns : List ByteArray} {nm : ByteArray} {j : Nat} (hj : ns[j]? = some nm) : ∃ i, fx ns nm = some i ∧ i ≤ j := by
  unfold fx
  cases hf : ns.findIdx? (fun x => decide (x = nm)) with
  | none =>
    rw [List.findIdx?_eq_none_iff] at hf
    have := hf nm (List.mem_of_getElem? hj)
    simp at this
  | some i =>
    refine ⟨i, rfl, ?_⟩
    rw [List.findIdx?_eq_some_iff_getElem] at hf
    obtain ⟨h1, _, h3⟩ := hf
    apply Classical.byContradiction
    intro hlt
    have := h3 j (by omega)
    obtain ⟨hj1, hj2⟩ := List.getElem?_eq_some_iff.1 hj
    rw [hj2] at this
    simp at this
theorem vl_memL {V : Vw} {nm : ByteArray} {x : List UInt8 × Nat} (h : vl nm V = some x) : (nm, x) ∈ V := by
  unfold vl at h
  rw [Option.map_eq_some_iff] at h
  obtain ⟨y, h1, h2⟩ := h
  have h3 := List.find?_some h1
  have h4 := List.mem_of_find?_eq_some h1
  simp at h3
  subst h2
  subst h3
  exact h4
set_option maxHeartbeats 4000000 in
set_option maxRecDepth 20000 in
theorem check_any (d : Nat) (ft : Nat → Prop) (rm : Nat) (cl cb : Int) (V : Vw) (a : Option Addr) (cap : Nat) (ms : List Ft3) (fs : List Ftp) (w : World) (h : Ds w d ft rm cl cb V) (hs : SV rm V) (hF : Fts w a ms) (hR : Ftw w (fun _ => False) ms fs) (hl : ms.length ≤ 140737488355328) :
    Calls Try.prog 16 #[.pointer (some ⟨d, 0, none⟩), .slice a ms.length cap] w fun e w' => e = .returned (.int .i64 (chk V fs)) ∧ Below w.heap.size w w' := by
  have HNM : Hid (ms.map (·.1) = fs.map (·.1)) := by
    show _ = _
    apply List.ext_getElem (by simp [hR.1])
    intro i h1 h2
    have h3 : i < fs.length := by simpa using h2
    have := (hR.2 i h3).1
    simp only [List.getElem_map]
    rw [List.getD_eq_getElem?_getD, List.getD_eq_getElem?_getD, List.getElem?_eq_getElem (by simpa using h1), List.getElem?_eq_getElem h3] at this
    exact this
  have hok : ∀ f ∈ ms, FtOk f := by
    intro f hf
    obtain ⟨i, hi, rfl⟩ := List.getElem_of_mem hf
    have h3 : i < fs.length := by rw [← hR.1]; exact hi
    have k := hR.2 i h3
    have e1 := k.1
    rw [List.getD_eq_getElem?_getD, List.getElem?_eq_getElem hi] at e1
    show (ms[i]).1.size ≤ maxLen
    have e2 : (ms[i]).1 = (fs.getD i p00).1 := e1
    rw [e2]
    exact k.2.2.2.2.2.1
  have HFI := hid (firsts_any a cap ms w hF (by omega) hok)
  have HD : Hid (∀ wx, Below w.heap.size w wx → Ds wx d ft rm cl cb V) := fun wx hb => h.kept hb
  have HFw : Hid (∀ wx, Below w.heap.size w wx → Fts wx a ms) := fun wx hb => hF.kept hb
  have HR := hid hR
  have HS := hid hs
  clear h hs hF hR hok
  generalize hM : ms.length = M at *
  have HM := hid hM
  clear hM
  go_enter Try.func16, Try.ntmps16
  go_wp2_with (go_at_call 47; refine HFI.out.mono ?_; rintro e w1 ⟨m, rfl, hfm, hwm, hb1⟩; have HFM := hid hfm; have HB1 := hid hb1; clear hfm hb1)
  have hm1 : m < w1.heap.size := by obtain ⟨_, _, ⟨_, _, h1, _⟩, _⟩ := HFM.out; exact lt_of_heap h1
  go_loopg [16] M (fun k i wr => ∃ j : Nat, j + k = M ∧ i = .int .i64 j ∧ Hid (ckA V fs j = 0) ∧ Hid (Below w1.heap.size w1 wr))
  case atStart => exact ⟨0, by omega, rfl, rfl, Below.refl _ _⟩
  case round =>
    obtain ⟨j, hj, rfl, HC, HB⟩ := hrel
    have hbw : Below w.heap.size w wr := HB1.out.trans (HB.out.mono HB1.out.size)
    by_cases hlt : j < M
    · obtain ⟨k', rfl⟩ : ∃ k', gk = k' + 1 := ⟨gk - 1, by omega⟩
      have hltI : (j : Int) < M := by omega
      have hjf : j < fs.length := by rw [← HR.out.1, HM.out]; exact hlt
      obtain ⟨r1, r2, r3, r4, _, r6, r7, r8⟩ := HR.out.2 j hjf
      have r4' := r4.kept hbw
      clear r4
      rcases HFw.out wr hbw with e | ⟨b, off, rfl, hbl, hc⟩
      · exact absurd hlt (by rw [← HM.out, e]; simp)
      obtain ⟨q0, q1, q2⟩ := hc j (by rw [HM.out]; exact hlt)
      have hnj : (fs.map (·.1))[j]? = some (fs.getD j p00).1 := by rw [List.getElem?_map, List.getElem?_eq_getElem hjf, List.getD_eq_getElem?_getD, List.getElem?_eq_getElem hjf]; rfl
      have HE : Hid (ck1 V fs j = ckc V (fs.map (·.1)) j (fs.getD j p00)) := rfl
      have hfm : Fm wr m (fs.map (·.1)) := by rw [← HNM.out]; exact HFM.out.kept (HB.out.block m hm1)
      generalize fs.getD j p00 = P at *
      generalize ms.getD j t00 = T at *
      obtain ⟨pn, pk, pw⟩ := P
      obtain ⟨tn, tk, oa, on, oc⟩ := T
      simp only [ovS] at r1 r2 r3 r6 r7 r8 q0 q1 q2 r4' hnj
      subst r1 r2 r3
      have HG := hid (fun wx => pgood_any tn wx)
      have HJ := hid hj
      obtain ⟨i0, hi0, hij⟩ := fx_has hnj
      obtain ⟨wa, hwa⟩ : ∃ wa, wa = wr.alloc (Obj.cells #[.string tn, .int .i64 tk, .slice oa pw.length oc] 24) := ⟨_, rfl⟩
      have hFn := heap_new wr (Obj.cells #[.string tn, .int .i64 tk, .slice oa pw.length oc] 24)
      rw [← hwa] at hFn
      have hba : Below wr.heap.size wr wa := by rw [hwa]; exact bel_alloc _ _
      have f0 : wa.cell? ⟨wr.heap.size, 0, none⟩ = some (.string tn) := (cell_of hFn).trans rfl
      have f1 : wa.cell? ⟨wr.heap.size, 1, none⟩ = some (.int .i64 tk) := (cell_of hFn).trans rfl
      have f2 : wa.cell? ⟨wr.heap.size, 2, none⟩ = some (.slice oa pw.length oc) := (cell_of hFn).trans rfl
      have HBa : Hid (Below w1.heap.size w1 wa) := HB.out.trans (hba.mono HB.out.size)
      have HBw : Hid (Below w.heap.size w wa) := hbw.trans (hba.mono hbw.size)
      have hlk : ∀ k, (Instr.lookup 87 (.map (some m)) (.string tn) false).run Try.prog (wa.drewN k) = .ok (.int .i64 i0) (wa.drewN k) := fun k => (((hfm.kept (hba.block m (Nat.lt_of_lt_of_le hm1 HB.out.size)))).kept (w' := wa.drewN k) rfl).look1 tn r6 hi0
      have HSz := hid (fun k => s_size d ft rm cl cb V tn (wa.drewN k) (HD.out _ (drewN_bel' HBw.out k)) r6)
      have HSy := hid (fun k => s_synced d ft rm cl cb V tn (wa.drewN k) (HD.out _ (drewN_bel' HBw.out k)) r6)
      have HWr : Hid (∀ k, Wrs (wa.drewN k) oa pw) := fun k => (r4'.kept hba).kept (bel_drewN wa k)
      have hwa' := hwa.symm
      have HIJ := hid hij
      have HI0 := hid hi0
      have HJF := hid hjf
      clear hc hbl hj HB hbw r4' hba hFn hwa hjf hlt hfm hnj hij hi0
      by_cases hg : 1 ≤ tn.size ∧ tn.size ≤ 255
      · rw [decide_eq_true hg] at HG
        cases hv : vl tn V with
        | none =>
          have HE2 : Hid (chk V fs = 4) := chk_stop HC.out (by rw [HE.out]; unfold ckc; rw [if_pos hg]; simp only [hv]) (by decide) HJF.out
          rw [hv] at HSz
          simp only [szN, noE] at HSz
          clear hv hg HE
          go_wp2_with (first | (go_at_call 48; refine (HG.out _).mono ?_; rintro e w2 ⟨rfl, rfl⟩) | (go_at_call 36; refine (HSz.out 0).mono ?_; rintro e w3 ⟨rfl, k3, rfl⟩))
          go_ret
          exact ⟨by rw [HE2.out]; rfl, drewN_bel' HBw.out _⟩
        | some x =>
          obtain ⟨X, sy⟩ := x
          have hmv := vl_memL hv
          have hlg := (HS.out.lng _ hmv).2
          have hck : ck1 V fs j = if fx (fs.map (·.1)) tn = some j ∧ fitB tk pw sy X.length = true then 0 else 31 := by rw [HE.out]; unfold ckc; rw [if_pos hg]; simp only [hv]
          rw [HI0.out] at hck
          rw [hv] at HSz HSy
          simp only [szN, noE, syN] at HSz HSy hlg
          have FT := hid (fun k => fits_any tn tk oa oc pw sy X.length (wa.drewN k) (HWr.out k) r7 r8 (by omega) (by omega))
          by_cases hij : i0 = j
          · subst hij
            cases hb : fitB tk pw sy X.length with
            | true =>
              rw [hb] at FT
              have HN : Hid (ckA V fs (i0 + 1) = 0) := by show _ = _; rw [ckA, if_pos HC.out, hck, if_pos ⟨rfl, hb⟩]
              clear hv hg HE hck hb hmv hlg
              go_wp2_with (first | (go_at_call 48; refine (HG.out _).mono ?_; rintro e w2 ⟨rfl, rfl⟩) | (go_at_call 36; refine (HSz.out 0).mono ?_; rintro e w3 ⟨rfl, k3, rfl⟩) | (go_at_call 35; refine (HSy.out _).mono ?_; rintro e w4 ⟨rfl, k4, rfl⟩) | (go_at_call 49; refine (FT.out _).mono ?_; rintro e w5 ⟨rfl, hb5⟩; have HB5 := hid ((drewN_bel' HBa.out _).trans (hb5.mono (drewN_bel' HBa.out _).size)); clear hb5))
              go_roundg k'
              case measure => omega
              case rel => exact ⟨i0 + 1, by have := HJ.out; omega, congrArg (Value.int .i64) (by omega), HN, HB5⟩
            | false =>
              rw [hb] at FT
              have HE2 : Hid (chk V fs = 31) := chk_stop HC.out (by rw [hck, if_neg (by rw [hb]; simp)]) (by decide) HJF.out
              clear hv hg HE hck hb hmv hlg
              go_wp2_with (first | (go_at_call 48; refine (HG.out _).mono ?_; rintro e w2 ⟨rfl, rfl⟩) | (go_at_call 36; refine (HSz.out 0).mono ?_; rintro e w3 ⟨rfl, k3, rfl⟩) | (go_at_call 35; refine (HSy.out _).mono ?_; rintro e w4 ⟨rfl, k4, rfl⟩) | (go_at_call 49; refine (FT.out _).mono ?_; rintro e w5 ⟨rfl, hb5⟩; have HB5 := hid ((drewN_bel' HBw.out _).trans (hb5.mono (drewN_bel' HBw.out _).size)); clear hb5))
              go_ret
              exact ⟨by rw [HE2.out]; rfl, HB5.out⟩
          · have hijI : ¬ (i0 : Int) = (j : Int) := by omega
            have HE2 : Hid (chk V fs = 31) := chk_stop HC.out (by rw [hck, if_neg (fun h => hij (by injection h.1))]) (by decide) HJF.out
            clear hv hg HE hck hmv hlg hij FT
            go_wp2_with (first | (go_at_call 48; refine (HG.out _).mono ?_; rintro e w2 ⟨rfl, rfl⟩) | (go_at_call 36; refine (HSz.out 0).mono ?_; rintro e w3 ⟨rfl, k3, rfl⟩) | (go_at_call 35; refine (HSy.out _).mono ?_; rintro e w4 ⟨rfl, k4, rfl⟩))
            go_ret
            exact ⟨by rw [HE2.out]; rfl, drewN_bel' HBw.out _⟩
      · have HE2 : Hid (chk V fs = 3) := chk_stop HC.out (by rw [HE.out]; unfold ckc; rw [if_neg hg]) (by decide) HJF.out
        rw [decide_eq_false hg] at HG
        clear hg HE
        go_wp2_with (go_at_call 48; refine (HG.out _).mono ?_; rintro e w2 ⟨rfl, rfl⟩)
        go_ret
        exact ⟨by rw [HE2.out]; rfl, HBw.out⟩
    · have hltI : ¬ (j : Int) < M := by omega
      have HJ : Hid (chk V fs = 0) := by
        have : j = fs.length := by rw [← HR.out.1, HM.out]; omega
        show chk V fs = 0
        unfold chk
        rw [← this]
        exact HC.out
      go_wp2_with fail
      go_ret
      exact ⟨by rw [HJ.out]; rfl, hbw⟩
end Go.Proofs.Ythjbhfhdepepmaa
namespace Go.Proofs.Ythjbhfhdepepmaa
open Go.RowKit
def lst (V : Vw) : List (ByteArray × Int) := V.map (fun x => (x.1, (x.2.2 : Int)))
theorem lst_at {V : Vw} {j : Nat} (hj : j < V.length) : (lst V).take (j + 1) = (lst V).take j ++ [(((V.map (·.1)).getD j ⟨#[]⟩), ((V.getD j (⟨#[]⟩, [], 0)).2.2 : Int))] := by
  have e : (lst V)[j]? = some ((((V.map (·.1)).getD j ⟨#[]⟩), ((V.getD j (⟨#[]⟩, [], 0)).2.2 : Int))) := by
    unfold lst
    rw [List.getElem?_map, List.getElem?_eq_getElem hj]
    simp [List.getD_eq_getElem?_getD, List.getElem?_eq_getElem hj]
  rw [List.take_add_one, e]
  rfl
set_option maxRecDepth 20000 in
set_option maxHeartbeats 4000000 in
theorem keeping_sync (d : Nat) (ft : Nat → Prop) (rm : Nat) (cl cb : Int) (V : Vw) (w : World) (h : Ds w d ft rm cl cb V) (hs : SV rm V) :
    Calls Try.prog 54 #[.pointer (some ⟨d, 0, none⟩), .func (.func 35) #[.pointer (some ⟨d, 0, none⟩)] #[]] w fun e w' => ∃ g N, e = .returned (.slice (some ⟨g, 0, none⟩) N N) ∧ N = V.length ∧ w.heap.size ≤ g ∧ w'.ownsRow w.heap.size 24 3 (.slice (some ⟨g, 0, none⟩) N N) N (fcs (lst V)) ∧ Below w.heap.size w w' := by
  have HD : Hid (∀ wx, Below w.heap.size w wx → Ds wx d ft rm cl cb V) := fun wx hb => h.kept hb
  have hc := hs.cnt
  have HLi := hid (s_listV d ft rm cl cb V w h hc)
  have HSz : Hid (∀ wx nm, nm.size ≤ maxLen → Below w.heap.size w wx → Calls Try.prog 35 #[.pointer (some ⟨d, 0, none⟩), .string nm] wx fun e w' => e = .returned (.tuple #[.int .i64 (syN (vl nm V)), .int .i64 (noE (vl nm V))]) ∧ ∃ k, w' = wx.drewN k) := fun wx nm hn hb => s_synced d ft rm cl cb V nm wx (HD.out wx hb) hn
  have HS := hid hs
  have hmk : ∀ (n : Nat) w, n ≤ 65536 → _ := fun n w hn => mkfts n (by omega) w
  obtain ⟨N, hN⟩ : ∃ N, N = V.length := ⟨_, rfl⟩
  have HN := hid hN
  rw [← hN] at hc
  have hmk2 := fun w => mkfts N (by omega) w
  clear h hs hN hmk
  go_enter Try.func54, Try.ntmps54
  go_wp2_with (go_at_call 39; refine HLi.out.mono ?_; rintro e w1 ⟨v1, rfl, hl1, hb1⟩; obtain ⟨a1, c1, rfl⟩ : ∃ a c, v1 = .slice a N c := (by have h1 := hl1.1; rw [List.length_map, ← HN.out] at h1; exact lsd_form h1); have HL1 := hid hl1.1; have HB1 := hid hb1; clear hl1 hb1)
  have HMO := hid (made_fts N (by omega) w1)
  have HCH0 : Hid (Ch (fun i => i = w1.heap.size) w1 (w1.alloc (.cells (madeCells #[.string ⟨#[]⟩, .int .i64 0, .slice none 0 0] (N * 3)) 24))) := (Ch.refl _ _).alloc _
  have HG : Hid (w.heap.size ≤ w1.heap.size) := HB1.out.size
  generalize w1.alloc (.cells (madeCells #[.string ⟨#[]⟩, .int .i64 0, .slice none 0 0] (N * 3)) 24) = w2 at *
  obtain ⟨g, hg⟩ : ∃ g, g = w1.heap.size := ⟨_, rfl⟩
  rw [← hg] at HMO HCH0 HG ⊢
  have HGe := hid hg
  clear hmk2 hg
  go_loopg [18] N (fun k i wr => ∃ j : Nat, j + k = N ∧ i = .int .i64 j ∧ Hid (wr.ownsRow g 24 3 (.slice (some ⟨g, 0, none⟩) N N) N (fcs ((lst V).take j ++ List.replicate (N - j) f0p))) ∧ Hid (Ch (fun i => i = g) w1 wr))
  case atStart => exact ⟨0, by omega, rfl, by show World.ownsRow _ _ _ _ _ _ _; simpa using HMO.out, HCH0.out⟩
  case round =>
    clear HMO HCH0
    obtain ⟨j, hj, rfl, HO, HC⟩ := hrel
    by_cases hlt : j < N
    · obtain ⟨k', rfl⟩ : ∃ k', gk = k' + 1 := ⟨gk - 1, by omega⟩
      have hltI : (j : Int) < N := by omega
      have hjV : j < V.length := by rw [← HN.out]; exact hlt
      have HT := hid (lst_at hjV)
      have hx : V.getD j (⟨#[]⟩, [], 0) ∈ V := by rw [List.getD_eq_getElem?_getD, List.getElem?_eq_getElem hjV]; exact List.getElem_mem _
      have hnm : (V.map (·.1)).getD j ⟨#[]⟩ = (V.getD j (⟨#[]⟩, [], 0)).1 := by simp [List.getD_eq_getElem?_getD, List.getElem?_eq_getElem hjV]
      have hsz := (HS.out.lng _ hx).1
      have hvl := vl_at8 HS.out.srt hx
      have hnc : ∃ gn, a1 = some ⟨gn, 0, none⟩ ∧ gn < w1.heap.size ∧ w1.cell? ⟨gn, j, none⟩ = some (.string (V.getD j (⟨#[]⟩, [], 0)).1) := by
        have h1 := HL1.out
        rw [List.length_map, ← HN.out] at h1
        obtain ⟨gn, h2, h3⟩ := nm_cell h1 (j := j) (u := .string (V.getD j (⟨#[]⟩, [], 0)).1) (by rw [List.map_map, List.getElem?_map, List.getElem?_eq_getElem hjV, List.getD_eq_getElem?_getD, List.getElem?_eq_getElem hjV]; rfl)
        exact ⟨gn, h2, World.block_lt_of_cell? _ _ h3, h3⟩
      rw [hnm] at HT
      generalize V.getD j (⟨#[]⟩, [], 0) = x at *
      obtain ⟨nm, da, sy⟩ := x
      simp only at hsz hvl hnc HT
      obtain ⟨gn, rfl, hgn, q0'⟩ := hnc
      have hBl : Below w.heap.size w wr := HB1.out.trans (HC.out.below HB1.out.size (fun i hi e => by have := HG.out; omega))
      have q0 : wr.cell? ⟨gn, j, none⟩ = some (.string nm) := by
        have h1 := HC.out.block gn hgn (by have := HGe.out; omega)
        rw [← q0']
        simp [World.cell?, h1]
      have HSz1 := hid (HSz.out wr nm (by unfold maxLen; omega) hBl)
      rw [hvl] at HSz1
      simp only [syN] at HSz1
      have hfl : (lst V).take j ++ List.replicate (N - j) f0p = (lst V).take j ++ f0p :: List.replicate (N - (j + 1)) f0p := by rw [show N - j = N - (j + 1) + 1 from by omega, List.replicate_succ]
      have htl : ((lst V).take j).length = j := by rw [List.length_take]; unfold lst; rw [List.length_map]; omega
      rw [hfl] at HO
      have HST : Hid (((((fcs ((lst V).take j ++ f0p :: List.replicate (N - (j + 1)) f0p)).set (j * 3) (.string nm)).set (j * 3 + 1) (.int .i64 sy)).set (j * 3 + 2) (.slice none 0 0)) = fcs ((lst V).take (j + 1) ++ List.replicate (N - (j + 1)) f0p)) := by
        have := fcs_set ((lst V).take j) f0p (nm, (sy : Int)) (List.replicate (N - (j + 1)) f0p)
        rw [htl] at this
        show _ = _
        rw [this, HT.out, List.append_assoc]
        rfl
      have hcl : ∀ k, k < 3 → wr.cell? ⟨g, j * 3 + k, none⟩ = (fcell f0p)[k]? := fun k hk => by
        have h2 := (HO.out.cellAt (j * 3 + k) (by omega)).trans (fcs_at (l := (lst V).take j ++ f0p :: List.replicate (N - (j + 1)) f0p) (j := j) (by rw [List.length_append, htl]; simp) hk)
        rw [h2, List.getD_eq_getElem?_getD, List.getElem?_append_right (by omega), htl]
        simp
      have y0 : wr.cell? ⟨g, j * 3, none⟩ = some (.string ⟨#[]⟩) := hcl 0 (by omega)
      have y1 : wr.cell? ⟨g, j * 3 + 1, none⟩ = some (.int .i64 0) := hcl 1 (by omega)
      have y2 : wr.cell? ⟨g, j * 3 + 2, none⟩ = some (.slice none 0 0) := hcl 2 (by omega)
      have z0 : wr.frozen? ⟨g, j * 3, none⟩ = false := HO.out.frozenAt _
      have z1 : wr.frozen? ⟨g, j * 3 + 1, none⟩ = false := HO.out.frozenAt _
      have z2 : wr.frozen? ⟨g, j * 3 + 2, none⟩ = false := HO.out.frozenAt _
      have HJ := hid hj
      clear hfl htl hcl hx hnm hsz hvl hjV hj q0' hgn hBl
      go_wp2_with (go_at_call 35; refine HSz1.out.mono ?_; rintro e w4 ⟨rfl, k4, rfl⟩)
      go_roundg k'
      case measure => omega
      case rel =>
        refine ⟨j + 1, by have := HJ.out; omega, congrArg (Value.int .i64) (by omega), ?_, (((HC.out.drewN k4).setCell _ _ (fun _ => rfl)).setCell _ _ (fun _ => rfl)).setCell _ _ (fun _ => rfl)⟩
        rw [← HST.out]
        have h0 : (wr.drewN k4).ownsRow g 24 3 (.slice (some ⟨g, 0, none⟩) N N) N (fcs ((lst V).take j ++ f0p :: List.replicate (N - (j + 1)) f0p)) := HO.out
        exact own_set3 (own_set3 (own_set3 h0 _ _) _ _) _ _
    · have hltI : ¬ (j : Int) < N := by omega
      have HE : Hid ((lst V).take j ++ List.replicate (N - j) f0p = lst V) := by
        show _ = _
        rw [show N - j = 0 from by omega, List.replicate_zero, List.append_nil]
        exact List.take_of_length_le (by unfold lst; rw [List.length_map, ← HN.out]; omega)
      rw [HE.out] at HO
      have HBl : Hid (Below w.heap.size w wr) := HB1.out.trans (HC.out.below HB1.out.size (fun i hi e => by have := HG.out; omega))
      go_wp2_with fail
      go_ret
      refine ⟨g, N, rfl, HN.out, HG.out, ?_, HBl.out⟩
      refine ⟨HO.out.1, HO.out.2.imp_right fun ⟨g', cap, cur, h1, h2, h3⟩ => ⟨g', cap, cur, h1, Nat.le_trans HG.out h2, h3⟩⟩
theorem least_any (d : Nat) (ft : Nat → Prop) (rm : Nat) (cl cb : Int) (V : Vw) (w : World) (h : Ds w d ft rm cl cb V) (hs : SV rm V) :
    Calls Try.prog 19 #[.pointer (some ⟨d, 0, none⟩)] w fun e w' => ∃ g N, e = .returned (.slice (some ⟨g, 0, none⟩) N N) ∧ N = V.length ∧ w.heap.size ≤ g ∧ w'.ownsRow w.heap.size 24 3 (.slice (some ⟨g, 0, none⟩) N N) N (fcs (lst V)) ∧ Below w.heap.size w w' := by
  have HK := hid (keeping_sync d ft rm cl cb V w h hs)
  clear h hs
  go_enter Try.func19, Try.ntmps19
  go_wp2_with (go_at_call 54; refine HK.out.mono ?_; rintro e w2 ⟨g, N, rfl, h1, h2, h3, h4⟩; have H1 := hid h1; clear h1)
  go_ret
  exact ⟨g, N, rfl, H1.out, h2, h3, h4⟩
end Go.Proofs.Ythjbhfhdepepmaa
namespace Go.Proofs.Ythjbhfhdepepmaa
open Go.RowKit
set_option maxHeartbeats 4000000 in
set_option maxRecDepth 20000 in
theorem crashall_w (d : Nat) (ft : Nat → Prop) (rm : Nat) (cl cb : Int) (V : Vw) (a : Option Addr) (cap : Nat) (ms : List Ft3) (fs : List Ftp) (w : World) (h : Ds w d ft rm cl cb V) (hs : SV rm V) (hF : Fts w a ms) (hR : Ftw w ft ms fs) (haf : ∀ b off, a = some ⟨b, off, none⟩ → ms ≠ [] → ¬ ft b) (hl : ms.length ≤ 140737488355328) :
    Calls Try.prog 25 #[.pointer (some ⟨d, 0, none⟩), .slice a ms.length cap] w fun e w' => e = .returned (.tuple #[]) ∧ Aft w ft d rm cl cb (V.map (crf fs)) w' := by
  have HNM : Hid (ms.map (·.1) = fs.map (·.1)) := by
    show _ = _
    apply List.ext_getElem (by simp [hR.1])
    intro i h1 h2
    have h3 : i < fs.length := by simpa using h2
    have := (hR.2 i h3).1
    simp only [List.getElem_map]
    rw [List.getD_eq_getElem?_getD, List.getD_eq_getElem?_getD, List.getElem?_eq_getElem (by simpa using h1), List.getElem?_eq_getElem h3] at this
    exact this
  have hok : ∀ f ∈ ms, FtOk f := by
    intro f hf
    obtain ⟨i, hi, rfl⟩ := List.getElem_of_mem hf
    have h3 : i < fs.length := by rw [← hR.1]; exact hi
    have k := hR.2 i h3
    have e1 := k.1
    rw [List.getD_eq_getElem?_getD, List.getElem?_eq_getElem hi] at e1
    show (ms[i]).1.size ≤ maxLen
    have e2 : (ms[i]).1 = (fs.getD i p00).1 := e1
    rw [e2]
    exact k.2.2.2.2.2.1
  have HFI := hid (firsts_any a cap ms w hF (by omega) hok)
  have HD := hid h
  have HS := hid hs
  have HF := hid hF
  have HR := hid hR
  have HAF := hid haf
  clear h hs hF hR haf hok
  generalize hM : ms.length = M at *
  have HM := hid hM
  clear hM
  go_enter Try.func25, Try.ntmps25
  go_wp2_with (go_at_call 47; refine HFI.out.mono ?_; rintro e w1 ⟨m, rfl, hfm, hwm, hb1⟩; have HFM := hid hfm; have HB1 := hid hb1; clear hfm hb1)
  refine (s_listV d ft rm cl cb V w1 (HD.out.kept HB1.out) HS.out.cnt).mono ?_
  rintro e w2 ⟨v2, rfl, hL2, hb2⟩
  obtain ⟨aL, capL, rfl⟩ := own_form hL2.1
  have HA2 : Hid (Aft w2 ft d rm cl cb V w2) := Aft.start ((HD.out.kept HB1.out).kept hb2)
  have HBW : Hid (Below w.heap.size w w2) := HB1.out.trans (hb2.mono HB1.out.size)
  have hwm2 : m < w2.heap.size := by obtain ⟨_, _, ⟨_, _, h1, _⟩, _⟩ := HFM.out; exact Nat.lt_of_lt_of_le (lt_of_heap h1) hb2.size
  have HFM2 := hid (HFM.out.kept (hb2.block m (by obtain ⟨_, _, ⟨_, _, h1, _⟩, _⟩ := HFM.out; exact lt_of_heap h1)))
  have HFT : Hid (∀ i, ft i → i < w.heap.size) := fun i hi => HD.out.lt hi
  have HLR : Hid (∀ j u, (V.map (fun x => Value.string x.1))[j]? = some u → ∃ g, aL = some ⟨g, 0, none⟩ ∧ w.heap.size ≤ g ∧ g < w2.heap.size ∧ w2.cell? ⟨g, j, none⟩ = some u) := by
    intro j u hj
    have ho := hL2.1
    rw [List.map_map] at ho
    rcases ho.2 with ⟨e, e2⟩ | ⟨g, cap', cur, e, hg, hh, _⟩
    · have : (V.map (fun x => Value.string x.1)).length = 0 := by simpa using e2
      rw [List.eq_nil_of_length_eq_zero this] at hj
      cases hj
    · injection e with e _ _
      subst e
      refine ⟨g, rfl, Nat.le_trans HB1.out.size hg, lt_of_heap hh, ?_⟩
      have := ho.cells (g := g) rfl j u hj
      rw [Go.WideShapes.add_plain, Nat.zero_add] at this
      exact this
  rw [List.length_map]
  clear hb2 hL2 HFM HFI
  generalize hN : V.length = N at *
  have HN := hid hN
  clear hN
  go_wp2_with fail
  go_loopg [15] N (fun k i wr => ∃ j : Nat, j + k = N ∧ i = .int .i64 j ∧ Hid (Aft w2 ft d rm cl cb ((V.take j).map (crf fs) ++ V.drop j) wr ∧ SV rm ((V.take j).map (crf fs) ++ V.drop j)))
  case atStart => exact ⟨0, by omega, rfl, ⟨HA2.out, HS.out⟩⟩
  case round =>
    clear HA2
    obtain ⟨j, hk, rfl, HQ⟩ := hrel
    by_cases hlt : j < N
    · obtain ⟨k, rfl⟩ : ∃ k, gk = k + 1 := ⟨gk - 1, by omega⟩
      have hltD : decide ((j : Int) < N) = true := by simp; omega
      have hltI : (j : Int) < N := by omega
      have EW : Hid (wrap64 ((j : Int) + 1) = ((j + 1 : Nat) : Int)) := by have := HS.out.cnt; have h2 := HN.out; show _ = _; unfold wrap64; omega
      have hjV : j < V.length := by rw [HN.out]; exact hlt
      obtain ⟨x, hx⟩ : ∃ x, x = V[j] := ⟨_, rfl⟩
      have hd : V.drop j = x :: V.drop (j + 1) := by rw [hx, List.drop_eq_getElem_cons hjV]
      have htk : V.take (j + 1) = V.take j ++ [x] := by rw [hx, List.take_succ_eq_append_getElem hjV]
      have hnx : (V.map (fun x => Value.string x.1))[j]? = some (.string x.1) := by rw [List.getElem?_map, List.getElem?_eq_getElem hjV, ← hx]; rfl
      obtain ⟨gl, rfl, hg1, hg2, qn0⟩ := HLR.out j _ hnx
      have hbk := fun i hi hn => HQ.out.1.blk (i := i) hi hn
      have qn : wr.cell? ⟨gl, j, none⟩ = some (.string x.1) := by
        have := hbk gl hg2 (fun e => by have := HFT.out gl e; omega)
        simp only [World.cell?, this] at qn0 ⊢
        exact qn0
      have hfmr : Fm wr m (ms.map (·.1)) := HFM2.out.kept (hbk m hwm2 (fun e => by have := HFT.out m e; omega))
      have hq := HQ.out
      rw [hd] at hq
      have hxs : x.1.size ≤ maxLen := by have := (HS.out.lng x (by rw [hx]; exact List.getElem_mem _)).1; unfold maxLen; omega
      have hnew : (V.take (j + 1)).map (crf fs) ++ V.drop (j + 1) = (V.take j).map (crf fs) ++ crf fs x :: V.drop (j + 1) := by rw [htk]; simp
      have hsv2 := crf_fits fs hq.2
      have hsp := List.pairwise_append.1 hq.2.srt
      have hL : ∀ y ∈ (V.take j).map (crf fs), Bf y.1 x.1 := fun y hy => hsp.2.2 y hy x (by simp)
      have hR' : ∀ y ∈ V.drop (j + 1), Bf x.1 y.1 := (List.pairwise_cons.1 hsp.2.1).1
      obtain ⟨nm, X, sy⟩ := x
      simp only at qn hxs hL hR'
      have hmr : m < wr.heap.size := by obtain ⟨_, _, ⟨_, _, h1, _⟩, _⟩ := hfmr; exact lt_of_heap h1
      cases hfx : fx (ms.map (·.1)) nm with
      | none =>
        have hfp : ffx fs nm = p00 := fx_find.2 (by rw [← HNM.out]; exact hfx)
        obtain ⟨wa, hwa⟩ : ∃ wa, wa = wr.alloc (Obj.cells #[.string ⟨#[]⟩, .int .i64 0, .slice none 0 0] 24) := ⟨_, rfl⟩
        have hF := heap_new wr (Obj.cells #[.string ⟨#[]⟩, .int .i64 0, .slice none 0 0] 24)
        rw [← hwa] at hF
        have hba : Below wr.heap.size wr wa := by rw [hwa]; exact bel_alloc _ _
        obtain ⟨v, hlk, _⟩ := (hfmr.kept (hba.block m hmr)).look nm hxs
        rw [hfx] at hlk
        simp only [Option.isSome_none] at hlk
        have g0 : wa.cell? ⟨wr.heap.size, 0, none⟩ = some (.string ⟨#[]⟩) := (cell_of hF).trans rfl
        have g1 : wa.cell? ⟨wr.heap.size, 1, none⟩ = some (.int .i64 0) := (cell_of hF).trans rfl
        have g2 : wa.cell? ⟨wr.heap.size, 2, none⟩ = some (.slice none 0 0) := (cell_of hF).trans rfl
        have HCR := hid ((hq.1.kept hba).stepF (fun f1 h1 _ => crash_any d f1 rm cl cb _ _ nm X sy ⟨#[]⟩ 0 none 0 [] wa h1 hq.2 hL hR' hxs (Or.inl rfl) (fun _ _ e _ => by cases e) (by simp) (fun _ e => by cases e)))
        have HNEW : Hid ((V.take j).map (crf fs) ++ (nm, (lft X sy 0 [], (lft X sy 0 []).length)) :: V.drop (j + 1) = (V.take (j + 1)).map (crf fs) ++ V.drop (j + 1)) := by
          show _ = _
          rw [hnew]
          unfold crf
          rw [hfp]
          rfl
        have HSV2 : Hid (SV rm ((V.take (j + 1)).map (crf fs) ++ V.drop (j + 1))) := by show SV _ _; rw [hnew]; exact hsv2
        have hwa' := hwa.symm
        clear hwa hF hba hfmr hq hsv2 hsp hL hR' hd htk hnx hbk hx hjV hnew hfx hfp HQ qn0 hmr
        go_wp2_with fail
        refine HCR.out.mono ?_
        rintro e w3 ⟨rfl, ha3, _⟩
        rw [HNEW.out] at ha3
        have HQ3 := hid (And.intro ha3 HSV2.out)
        clear ha3 HCR
        go_wp2_with fail
        go_roundg k
        case measure => omega
        case rel => exact ⟨j + 1, by omega, by first | exact congrArg (Value.int .i64) EW.out | rfl, HQ3⟩
      | some i0 =>
        obtain ⟨hi0, hfp⟩ := fx_find.1 i0 (by rw [← HNM.out]; exact hfx)
        obtain ⟨r1, r2, r3, r4, r5, r6, r7, r8⟩ := HR.out.2 i0 hi0
        have hiM0 : i0 < ms.length := by rw [HR.out.1]; exact hi0
        have hiM : i0 < M := by rw [← HM.out, HR.out.1]; exact hi0
        rcases HF.out with rfl | ⟨b, off, rfl, hbl, hcc⟩
        · exact absurd hiM (by rw [← HM.out]; simp)
        obtain ⟨q0, q1, q2⟩ := hcc i0 (by rw [HM.out]; exact hiM)
        have hbw := HBW.out
        have hb2' := hbk b (Nat.lt_of_lt_of_le hbl hbw.size) (HAF.out b off rfl (fun e => by rw [e] at hiM0; simp at hiM0))
        have hbe : wr.heap[b]? = w.heap[b]? := hb2'.trans (hbw.block b hbl)
        have hce : ∀ o, wr.cell? ⟨b, o, none⟩ = w.cell? ⟨b, o, none⟩ := fun o => by simp only [World.cell?, hbe]
        rw [← hce] at q0 q1 q2
        have hwrs : Wrs wr (ms.getD i0 t00).2.2.1 (fs.getD i0 p00).2.2 := by
          rcases r4 with e | ⟨bb, oo, e1, e2, e3⟩
          · exact Or.inl e
          · by_cases hne : (fs.getD i0 p00).2.2 = []
            · exact Or.inl hne
            have he : wr.heap[bb]? = w.heap[bb]? := (hbk bb (Nat.lt_of_lt_of_le e2 hbw.size) (r5 bb oo e1 hne)).trans (hbw.block bb e2)
            refine Or.inr ⟨bb, oo, e1, Nat.lt_of_lt_of_le e2 (Nat.le_trans hbw.size (by obtain ⟨_, _, m2, _⟩ := hq.1; exact m2.size)), fun k hk => ?_⟩
            obtain ⟨z1, z2⟩ := e3 k hk
            exact ⟨by simp only [World.cell?, he] at z1 ⊢; exact z1, by simp only [World.cell?, he] at z2 ⊢; exact z2⟩
        have hwf : ∀ f1 : Nat → Prop, (∀ i, f1 i → ft i ∨ w2.heap.size ≤ i) → ∀ bb oo, (ms.getD i0 t00).2.2.1 = some ⟨bb, oo, none⟩ → (fs.getD i0 p00).2.2 ≠ [] → ¬ f1 bb := by
          intro f1 hf1 bb oo e1 hne hb1
          rcases r4 with e | ⟨b', o', e2, e3, _⟩
          · exact hne e
          · rw [e1] at e2
            injection e2 with e2
            injection e2 with e2 _
            subst e2
            rcases hf1 bb hb1 with a | a
            · exact r5 bb oo e1 hne a
            · have := hbw.size; omega
        generalize fs.getD i0 p00 = P at *
        generalize ms.getD i0 t00 = T at *
        obtain ⟨pn, pk, pw⟩ := P
        obtain ⟨tn, tk, oa, on, oc⟩ := T
        simp only [ovS] at r1 r2 r3 r6 r7 r8 q0 q1 q2 hwrs hwf
        subst r1 r2 r3
        obtain ⟨wz, hwz⟩ : ∃ wz, wz = wr.alloc (Obj.cells #[.string ⟨#[]⟩, .int .i64 0, .slice none 0 0] 24) := ⟨_, rfl⟩
        have hbz : Below wr.heap.size wr wz := by rw [hwz]; exact bel_alloc _ _
        obtain ⟨v, hlk, hv⟩ := (hfmr.kept (hbz.block m hmr)).look nm hxs
        rw [hfx] at hlk
        simp only [Option.isSome_some] at hlk
        obtain rfl := hv i0 hfx
        have hFz := heap_new wr (Obj.cells #[.string ⟨#[]⟩, .int .i64 0, .slice none 0 0] 24)
        rw [← hwz] at hFz
        have hbs : b < wr.heap.size := Nat.lt_of_lt_of_le hbl (Nat.le_trans hbw.size (by obtain ⟨_, _, m2, _⟩ := hq.1; exact m2.size))
        have hze : ∀ o, wz.cell? ⟨b, o, none⟩ = wr.cell? ⟨b, o, none⟩ := fun o => by simp only [World.cell?, hbz.block b hbs]
        rw [← hze] at q0 q1 q2
        have z0 : wz.cell? ⟨wr.heap.size, 0, none⟩ = some (.string ⟨#[]⟩) := (cell_of hFz).trans rfl
        have z1 : wz.cell? ⟨wr.heap.size, 1, none⟩ = some (.int .i64 0) := (cell_of hFz).trans rfl
        have z2 : wz.cell? ⟨wr.heap.size, 2, none⟩ = some (.slice none 0 0) := (cell_of hFz).trans rfl
        have fz0 : ∀ o, wz.frozen? ⟨wr.heap.size, o, none⟩ = false := fun o => froz_of hFz
        have f0 := fz0 0
        have f1 := fz0 1
        have f2 := fz0 2
        have hiI : (i0 : Int) < M := by omega
        obtain ⟨wc, hwc⟩ : ∃ wc, wc = ((wz.setCell ⟨wr.heap.size, 0, none⟩ (.string tn)).setCell ⟨wr.heap.size, 1, none⟩ (.int .i64 tk)).setCell ⟨wr.heap.size, 2, none⟩ (.slice oa pw.length oc) := ⟨_, rfl⟩
        have hbc : Below wr.heap.size wr wc := by rw [hwc]; exact ((hbz.setCell (Nat.le_refl _) _).setCell (Nat.le_refl _) _).setCell (Nat.le_refl _) _
        have HCR := hid ((hq.1.kept hbc).stepF (fun f1 h1 hf1 => crash_any d f1 rm cl cb _ _ nm X sy tn tk oa oc pw wc h1 hq.2 hL hR' hxs (hwrs.kept hbc) (fun bb oo e1 hne => hwf f1 hf1 bb oo e1 hne) r7 r8))
        have HNEW : Hid ((V.take j).map (crf fs) ++ (nm, (lft X sy tk pw, (lft X sy tk pw).length)) :: V.drop (j + 1) = (V.take (j + 1)).map (crf fs) ++ V.drop (j + 1)) := by
          show _ = _
          rw [hnew]
          unfold crf
          rw [hfp]
        have HSV2 : Hid (SV rm ((V.take (j + 1)).map (crf fs) ++ V.drop (j + 1))) := by show SV _ _; rw [hnew]; exact hsv2
        rw [hwc] at HCR
        have hwz' := hwz.symm
        clear hiM0 hwz hwc hbc hFz hbz hfmr hq hsv2 hsp hL hR' hd htk hnx hbk hx hjV hnew hfx hfp HQ qn0 hmr hwrs hwf hze hce hbe hb2' hbw hcc hbl r4 r5 r6 r7 r8 fz0 hbs hv
        go_wp2_with fail
        refine HCR.out.mono ?_
        rintro e w3 ⟨rfl, ha3, _⟩
        rw [HNEW.out] at ha3
        have HQ3 := hid (And.intro ha3 HSV2.out)
        clear ha3 HCR
        go_wp2_with fail
        go_roundg k
        case measure => omega
        case rel => exact ⟨j + 1, by omega, by first | exact congrArg (Value.int .i64) EW.out | rfl, HQ3⟩
    · have hltD : decide ((j : Int) < N) = false := by simp; omega
      have e1 : V.take j = V := List.take_of_length_le (by rw [HN.out]; omega)
      have e2 : V.drop j = [] := List.drop_of_length_le (by rw [HN.out]; omega)
      have hq := HQ.out.1
      rw [e1, e2, List.append_nil] at hq
      have HE := hid (Aft.base HBW.out hq)
      clear hq HQ
      go_wp2_with fail
      go_end0
      exact ⟨rfl, HE.out⟩
end Go.Proofs.Ythjbhfhdepepmaa
namespace Go.Proofs.Ythjbhfhdepepmaa
open Go.RowKit
abbrev X3 := ByteArray × List UInt8 × Nat
/-- A fate without writes for each file. -/
def fsg (g : X3 → Int) (V : Vw) : List Ftp := V.map (fun x => (x.1, g x, []))
theorem ffx_g {g : X3 → Int} {V : Vw} (hp : V.Pairwise (fun a b => Bf a.1 b.1)) {x : X3} (hx : x ∈ V) : ffx (fsg g V) x.1 = (x.1, g x, []) := by
  unfold ffx
  obtain ⟨l, r, rfl⟩ := List.append_of_mem hx
  have : (fsg g (l ++ x :: r)).find? (fun f => decide (f.1 = x.1)) = some (x.1, g x, []) := by
    unfold fsg
    rw [List.map_append, List.map_cons]
    refine List.find?_eq_some_iff_append.2 ⟨by simp, _, _, rfl, fun y hy => ?_⟩
    obtain ⟨z, hz, rfl⟩ := List.mem_map.1 hy
    have h1 := (List.pairwise_append.1 hp).2.2 z hz x (by simp)
    have : z.1 ≠ x.1 := fun e => by unfold Bf at h1; rw [e, bb_irr] at h1; cases h1
    simp [this]
  rw [this]
  rfl
theorem lft_nil (X : List UInt8) (sy kp : Int) : lft X sy kp [] = X.take (kpt X.length (sfe X.length sy) kp) := rfl
theorem crf_nil (x : X3) (h : x.2.2 ≤ x.2.1.length) : crf [] x = (x.1, x.2.1.take x.2.2, x.2.2) := by
  obtain ⟨nm, X, sy⟩ := x
  simp only at h
  have e : lft X sy 0 [] = X.take sy := by
    rw [lft_nil]
    congr 1
    unfold kpt sfe
    omega
  unfold crf ffx
  simp only [List.find?_nil, Option.getD_none, p00]
  rw [e, List.length_take, Nat.min_eq_left h]
theorem crf_g {g : X3 → Int} {V : Vw} (hp : V.Pairwise (fun a b => Bf a.1 b.1)) {x : X3} (hx : x ∈ V) {k : Nat} (hg : g x = k) (h1 : x.2.2 ≤ k) (h2 : k ≤ x.2.1.length) : crf (fsg g V) x = (x.1, x.2.1.take k, k) := by
  unfold crf
  rw [ffx_g hp hx]
  obtain ⟨nm, X, sy⟩ := x
  simp only at h1 h2 hg
  have e : lft X sy (g (nm, X, sy)) [] = X.take k := by
    rw [lft_nil, hg]
    congr 1
    unfold kpt sfe
    omega
  simp only
  rw [e, List.length_take, Nat.min_eq_left h2]
def gs (x : X3) : Int := (x.2.2 : Int)
def gl (x : X3) : Int := (x.2.1.length : Int)
/-- A file of which all is safe. -/
def ful (x : X3) : X3 := (x.1, x.2.1, x.2.1.length)
theorem map_least {rm : Nat} {V : Vw} (h : SV rm V) : V.map (crf (fsg gs V)) = V.map (crf []) := by
  refine List.map_congr_left fun x hx => ?_
  have := (h.lng x hx).2.2
  rw [crf_g h.srt hx (k := x.2.2) rfl (Nat.le_refl _) this, crf_nil x this]
theorem map_most {rm : Nat} {V : Vw} (h : SV rm V) : V.map (crf (fsg gl V)) = V.map ful := by
  refine List.map_congr_left fun x hx => ?_
  have := (h.lng x hx).2.2
  rw [crf_g h.srt hx (k := x.2.1.length) rfl this (Nat.le_refl _), List.take_length]
  rfl
theorem ffcs_ful (V : Vw) : ffcs (V.map ful) = ffcs V := by
  unfold ffcs
  rw [List.flatMap_map]
  rfl
theorem lft_all (X : List UInt8) (kp : Int) (ws : List (Int × ByteArray)) : lft X X.length kp ws = X := by
  have h := lft_len X X.length kp ws
  have hs : sfe X.length (X.length : Int) = X.length := by unfold sfe; omega
  have hk : kpt X.length X.length kp = X.length := by unfold kpt; omega
  rw [hs, hk] at h
  have h2 : (lft X X.length kp ws).take X.length = X.take X.length := by
    unfold lft
    rw [hs, hk]
    have := lfs_head (fr := X.length) («to» := X.length) (Nat.le_refl _) ws (X.take X.length) (by rw [List.length_take, Nat.min_self])
    rw [this, List.take_take, Nat.min_self]
  rw [List.take_length, List.take_of_length_le (by omega)] at h2
  exact h2
theorem crf_stay (fs : List Ftp) (x : X3) (h : x.2.2 = x.2.1.length) : crf fs x = x := by
  obtain ⟨nm, X, sy⟩ := x
  simp only at h
  subst h
  unfold crf
  simp only
  rw [lft_all]
theorem map_stay (fs fs' : List Ftp) (V : Vw) : (V.map (crf fs)).map (crf fs') = V.map (crf fs) := by
  rw [List.map_map]
  exact List.map_congr_left fun x _ => crf_stay _ _ rfl
theorem SV.crf {rm : Nat} {V : Vw} (fs : List Ftp) (h : SV rm V) : SV rm (V.map (crf fs)) := by
  have k : ∀ j, j ≤ V.length → SV rm ((V.take j).map (Go.Proofs.Ythjbhfhdepepmaa.crf fs) ++ V.drop j) := by
    intro j
    induction j with
    | zero => intro _; simpa using h
    | succ j ih =>
      intro hj
      have h1 := ih (by omega)
      have hd : V.drop j = V[j] :: V.drop (j + 1) := List.drop_eq_getElem_cons (by omega)
      rw [hd] at h1
      have h2 := crf_fits fs h1
      rw [List.take_succ_eq_append_getElem (by omega), List.map_append, List.append_assoc]
      exact h2
  have := k V.length (Nat.le_refl _)
  rwa [List.take_length, List.drop_length, List.append_nil] at this
theorem fx_own {V : Vw} (hp : V.Pairwise (fun a b => Bf a.1 b.1)) {j : Nat} (hj : j < V.length) : fx (V.map (·.1)) (V.getD j x0p).1 = some j := by
  have e : (V.getD j x0p) = V[j] := by rw [List.getD_eq_getElem?_getD, List.getElem?_eq_getElem hj]; rfl
  obtain ⟨i, hi, hij⟩ := fx_has (ns := V.map (·.1)) (nm := (V.getD j x0p).1) (j := j) (by rw [List.getElem?_map, List.getElem?_eq_getElem hj, e]; rfl)
  rw [hi]
  unfold fx at hi
  rw [List.findIdx?_eq_some_iff_getElem] at hi
  obtain ⟨h1, h2, _⟩ := hi
  simp only [List.getElem_map, decide_eq_true_eq] at h2
  by_cases hlt : i < j
  · have := List.pairwise_iff_getElem.1 hp i j (by omega) hj hlt
    rw [h2, e] at this
    unfold Bf at this
    rw [bb_irr] at this
    cases this
  · rw [show i = j by omega]
theorem chk_g {rm : Nat} {g : X3 → Int} {V : Vw} (h : SV rm V) (hg : ∀ x ∈ V, (x.2.2 : Int) ≤ g x ∧ g x ≤ x.2.1.length) : chk V (fsg g V) = 0 := by
  have hl : (fsg g V).length = V.length := List.length_map _
  have hns : (fsg g V).map (·.1) = V.map (·.1) := by unfold fsg; rw [List.map_map]; rfl
  have k : ∀ j, j ≤ V.length → ckA V (fsg g V) j = 0 := by
    intro j
    induction j with
    | zero => intro _; rfl
    | succ j ih =>
      intro hj
      have hjV : j < V.length := by omega
      have hx : V.getD j x0p ∈ V := by rw [List.getD_eq_getElem?_getD, List.getElem?_eq_getElem hjV]; exact List.getElem_mem _
      have hgj : (fsg g V).getD j p00 = ((V.getD j x0p).1, g (V.getD j x0p), []) := by
        unfold fsg
        rw [List.getD_eq_getElem?_getD, List.getElem?_map, List.getElem?_eq_getElem hjV, List.getD_eq_getElem?_getD, List.getElem?_eq_getElem hjV]
        rfl
      have hb := hg _ hx
      have hc : fitB (g (V.getD j x0p)) [] (V.getD j x0p).2.2 (V.getD j x0p).2.1.length = true := by unfold fitB; rw [decide_eq_true hb]; rfl
      rw [ckA, if_pos (ih (by omega))]
      unfold ck1 ckc
      rw [hgj, hns]
      simp only
      rw [if_pos (h.lng _ hx).1, vl_at8 h.srt hx]
      simp only
      rw [if_pos ⟨fx_own h.srt hjV, hc⟩]
  unfold chk
  rw [hl]
  exact k _ (Nat.le_refl _)
def m3 (x : ByteArray × Int) : Ft3 := (x.1, x.2, none, 0, 0)
def f3 (x : ByteArray × Int) : Ftp := (x.1, x.2, [])
theorem fts_row {w : World} {B g N : Nat} {l : List (ByteArray × Int)} (h : w.ownsRow B 24 3 (.slice (some ⟨g, 0, none⟩) N N) N (fcs l)) (hl : l.length = N) : Fts w (some ⟨g, 0, none⟩) (l.map m3) := by
  obtain ⟨cur, hg⟩ := own_blk8 h (i := g) rfl
  refine Or.inr ⟨g, 0, rfl, lt_of_heap hg, fun j hj => ?_⟩
  rw [List.length_map] at hj
  have hcl : ∀ k, k < 3 → w.cell? ⟨g, j * 3 + k, none⟩ = (fcell (l.getD j f0p))[k]? := fun k hk => (h.cellAt (j * 3 + k) (by omega)).trans (fcs_at hj hk)
  have e : (l.map m3).getD j t00 = m3 (l.getD j f0p) := by
    rw [List.getD_eq_getElem?_getD, List.getElem?_map, List.getElem?_eq_getElem hj, List.getD_eq_getElem?_getD, List.getElem?_eq_getElem hj]
    rfl
  rw [e]
  simp only [Nat.zero_add]
  exact ⟨hcl 0 (by omega), hcl 1 (by omega), hcl 2 (by omega)⟩
theorem ftw_row {w : World} {ft : Nat → Prop} {l : List (ByteArray × Int)} (hn : ∀ x ∈ l, x.1.size ≤ maxLen) : Ftw w ft (l.map m3) (l.map f3) := by
  refine ⟨by simp, fun j hj => ?_⟩
  rw [List.length_map] at hj
  have e : (l.map m3).getD j t00 = m3 (l.getD j f0p) := by
    rw [List.getD_eq_getElem?_getD, List.getElem?_map, List.getElem?_eq_getElem hj, List.getD_eq_getElem?_getD, List.getElem?_eq_getElem hj]
    rfl
  have e2 : (l.map f3).getD j p00 = f3 (l.getD j f0p) := by
    rw [List.getD_eq_getElem?_getD, List.getElem?_map, List.getElem?_eq_getElem hj, List.getD_eq_getElem?_getD, List.getElem?_eq_getElem hj]
    rfl
  have hm : l.getD j f0p ∈ l := by rw [List.getD_eq_getElem?_getD, List.getElem?_eq_getElem hj]; exact List.getElem_mem _
  rw [e, e2]
  exact ⟨rfl, rfl, rfl, Or.inl rfl, fun b off (h : (none : Option Addr) = some ⟨b, off, none⟩) _ => (by cases h), hn _ hm, Nat.zero_le _, fun _ hx => absurd hx List.not_mem_nil⟩
theorem crash_row (d : Nat) (ft : Nat → Prop) (rm : Nat) (cl cb : Int) (V : Vw) (g N B : Nat) (l : List (ByteArray × Int)) (w : World) (h : Ds w d ft rm cl cb V) (hs : SV rm V) (ho : w.ownsRow B 24 3 (.slice (some ⟨g, 0, none⟩) N N) N (fcs l)) (hl : l.length = N) (hn : ∀ x ∈ l, x.1.size ≤ maxLen) (hN : N ≤ 65536) :
    Calls Try.prog 25 #[.pointer (some ⟨d, 0, none⟩), .slice (some ⟨g, 0, none⟩) N N] w fun e w' => e = .returned (.tuple #[]) ∧ Aft w ft d rm cl cb (V.map (crf (l.map f3))) w' := by
  obtain ⟨cur, hg⟩ := own_blk8 ho (i := g) rfl
  have := crashall_w d ft rm cl cb V (some ⟨g, 0, none⟩) N (l.map m3) (l.map f3) w h hs (fts_row ho hl) (ftw_row hn) (fun b off e _ => by injection e with e; injection e with e _; subst e; exact h.out hg (by decide) (by decide) (by decide)) (by rw [List.length_map]; omega)
  rwa [List.length_map, hl] at this
theorem crash_none (d : Nat) (ft : Nat → Prop) (rm : Nat) (cl cb : Int) (V : Vw) (w : World) (h : Ds w d ft rm cl cb V) (hs : SV rm V) :
    Calls Try.prog 25 #[.pointer (some ⟨d, 0, none⟩), .slice none 0 0] w fun e w' => e = .returned (.tuple #[]) ∧ Aft w ft d rm cl cb (V.map (crf [])) w' :=
  crashall_w d ft rm cl cb V none 0 [] [] w h hs (Or.inl rfl) ⟨rfl, fun j hj => by simp at hj⟩ (fun b off e => by cases e) (by simp)
theorem check_row (d : Nat) (ft : Nat → Prop) (rm : Nat) (cl cb : Int) (V : Vw) (g N B : Nat) (l : List (ByteArray × Int)) (w : World) (h : Ds w d ft rm cl cb V) (hs : SV rm V) (ho : w.ownsRow B 24 3 (.slice (some ⟨g, 0, none⟩) N N) N (fcs l)) (hl : l.length = N) (hn : ∀ x ∈ l, x.1.size ≤ maxLen) (hN : N ≤ 65536) :
    Calls Try.prog 16 #[.pointer (some ⟨d, 0, none⟩), .slice (some ⟨g, 0, none⟩) N N] w fun e w' => e = .returned (.int .i64 (chk V (l.map f3))) ∧ Below w.heap.size w w' := by
  have := check_any d ft rm cl cb V (some ⟨g, 0, none⟩) N (l.map m3) (l.map f3) w h hs (fts_row ho hl) (ftw_row hn) (by rw [List.length_map]; omega)
  rwa [List.length_map, hl] at this
theorem mst_f3 (V : Vw) : (mst V).map f3 = fsg gl V := by unfold mst fsg; rw [List.map_map]; rfl
theorem lst_f3 (V : Vw) : (lst V).map f3 = fsg gs V := by unfold lst fsg; rw [List.map_map]; rfl
end Go.Proofs.Ythjbhfhdepepmaa
namespace Go.Proofs.Ythjbhfhdepepmaa
open Go.RowKit
def d0 : Nat × Vw := (0, [])
def DL (w0 : World) (H rm : Nat) (L : List (Nat × Vw)) (w : World) : Prop :=
  ∃ F : Nat → Nat → Prop, (∀ i, i < L.length → Ds w (L.getD i d0).1 (F i) rm 0 0 (L.getD i d0).2) ∧ (∀ i j, i < L.length → j < L.length → i ≠ j → ∀ x, F i x → ¬ F j x) ∧ (∀ i, i < L.length → ∀ x, F i x → H ≤ x) ∧ H ≤ w.heap.size ∧ Below H w0 w
section
variable {w0 w w' : World} {H rm : Nat} {L : List (Nat × Vw)}
theorem DL.below (h : DL w0 H rm L w) : Below H w0 w := let ⟨_, _, _, _, _, k⟩ := h; k
theorem DL.le (h : DL w0 H rm L w) : H ≤ w.heap.size := let ⟨_, _, _, _, k, _⟩ := h; k
theorem DL.kept (h : DL w0 H rm L w) (hb : Below w.heap.size w w') : DL w0 H rm L w' := by
  obtain ⟨F, h1, h2, h3, h4, h5⟩ := h
  exact ⟨F, fun i hi => (h1 i hi).kept hb, h2, h3, Nat.le_trans h4 hb.size, h5.trans (hb.mono h4)⟩
theorem DL.ds (h : DL w0 H rm L w) (i : Nat) (hi : i < L.length) : ∃ f, Ds w (L.getD i d0).1 f rm 0 0 (L.getD i d0).2 ∧ ∀ x, f x → H ≤ x := by
  obtain ⟨F, h1, _, h3, _⟩ := h
  exact ⟨F i, h1 i hi, h3 i hi⟩
theorem DL.one {d : Nat} {f : Nat → Prop} {V : Vw} (h : Ds w d f rm 0 0 V) (hf : ∀ x, f x → H ≤ x) (hH : H ≤ w.heap.size) (hb : Below H w0 w) : DL w0 H rm [(d, V)] w := by
  refine ⟨fun _ => f, fun i hi => ?_, fun i j hi hj hne => ?_, fun _ _ => hf, hH, hb⟩
  · have : i = 0 := by simpa using hi
    subst this
    exact h
  · simp at hi hj
    omega
theorem DL.add (h : DL w0 H rm L w) {c : Nat} {V : Vw} {f : Nat → Prop} (hb : Below w.heap.size w w') (hc : Ds w' c f rm 0 0 V) (hf : ∀ x, f x → w.heap.size ≤ x) : DL w0 H rm (L ++ [(c, V)]) w' := by
  obtain ⟨F, h1, h2, h3, h4, h5⟩ := h
  have hlt : ∀ i, i < L.length → ∀ x, F i x → x < w.heap.size := fun i hi x hx => (h1 i hi).lt hx
  refine ⟨fun i => if i < L.length then F i else f, fun i hi => ?_, fun i j hi hj hne x hx hy => ?_, fun i hi x hx => ?_, Nat.le_trans h4 hb.size, h5.trans (hb.mono h4)⟩
  · rw [List.length_append] at hi
    by_cases hl : i < L.length
    · simp only [if_pos hl]
      rw [List.getD_eq_getElem?_getD, List.getElem?_append_left hl, ← List.getD_eq_getElem?_getD]
      exact (h1 i hl).kept hb
    · have : i = L.length := by simp at hi; omega
      subst this
      simp only [if_neg hl]
      rw [List.getD_eq_getElem?_getD, List.getElem?_append_right (Nat.le_refl _), Nat.sub_self]
      exact hc
  · rw [List.length_append] at hi hj
    simp only [List.length_cons, List.length_nil] at hi hj
    by_cases hl : i < L.length
    · simp only [if_pos hl] at hx
      by_cases hm : j < L.length
      · simp only [if_pos hm] at hy
        exact h2 i j hl hm hne x hx hy
      · simp only [if_neg hm] at hy
        have := hlt i hl x hx
        have := hf x hy
        omega
    · simp only [if_neg hl] at hx
      by_cases hm : j < L.length
      · simp only [if_pos hm] at hy
        have := hlt j hm x hy
        have := hf x hx
        omega
      · omega
  · by_cases hl : i < L.length
    · simp only [if_pos hl] at hx
      exact h3 i hl x hx
    · simp only [if_neg hl] at hx
      exact Nat.le_trans h4 (hf x hx)
/-- A call upon the i-th. -/
theorem DL.step (h : DL w0 H rm L w) (i : Nat) (hi : i < L.length) {V' : Vw} {f : FuncId} {args : Array Value} {v : Value}
    (hc : ∀ fa, Ds w (L.getD i d0).1 fa rm 0 0 (L.getD i d0).2 → (∀ x, fa x → H ≤ x) → Calls Try.prog f args w fun e w' => e = .returned v ∧ Aft w fa (L.getD i d0).1 rm 0 0 V' w') : Calls Try.prog f args w fun e w' => e = .returned v ∧ DL w0 H rm (L.set i ((L.getD i d0).1, V')) w' ∧ Oth w w' := by
  obtain ⟨F, h1, h2, h3, h4, h5⟩ := h
  refine (hc (F i) (h1 i hi) (h3 i hi)).mono ?_
  rintro e w' ⟨rfl, fa', k1, k2, k3⟩
  refine ⟨rfl, ⟨fun j => if j = i then fa' else F j, fun j hj => ?_, fun j k hj hk hne x hx hy => ?_, fun j hj x hx => ?_, Nat.le_trans h4 k2.size, h5.trans (k2.below h4 (fun x hx hf => by have := h3 i hi x hf; omega))⟩, (h1 i hi).oth k2⟩
  · rw [List.length_set] at hj
    by_cases e : j = i
    · subst e
      simp only [if_true]
      rw [List.getD_eq_getElem?_getD, List.getElem?_set_self hi]
      exact k1
    · simp only [if_neg e]
      rw [List.getD_eq_getElem?_getD, List.getElem?_set_ne (fun h => e h.symm), ← List.getD_eq_getElem?_getD]
      exact (h1 j hj).ch k2 (fun x hx hf => h2 j i hj hi e x hx hf)
  · rw [List.length_set] at hj hk
    by_cases e : j = i
    · subst e
      simp only [if_true] at hx
      have e2 : k ≠ j := fun h => hne h.symm
      simp only [if_neg e2] at hy
      rcases k3 x hx with a | a
      · exact h2 j k hj hk hne x a hy
      · have := (h1 k hk).lt hy; omega
    · simp only [if_neg e] at hx
      by_cases e2 : k = i
      · subst e2
        simp only [if_true] at hy
        rcases k3 x hy with a | a
        · exact h2 k j hk hj (fun h => hne h.symm) x a hx
        · have := (h1 j hj).lt hx; omega
      · simp only [if_neg e2] at hy
        exact h2 j k hj hk hne x hx hy
  · rw [List.length_set] at hj
    by_cases e : j = i
    · subst e
      simp only [if_true] at hx
      rcases k3 x hx with a | a
      · exact h3 j hj x a
      · omega
    · simp only [if_neg e] at hx
      exact h3 j hj x hx
end
end Go.Proofs.Ythjbhfhdepepmaa
namespace Go.Proofs.Ythjbhfhdepepmaa
open Go.RowKit
section
variable {w0 w : World} {H rm : Nat} {L : List (Nat × Vw)}
theorem own_belG {w w' : World} {B n : Nat} {v : Value} {l : List Value} (h : w.ownsRow B 40 3 v n l) (hb : Below w.heap.size w w') : w'.ownsRow B 40 3 v n l := own_othF h (Oth.below hb)
theorem DL.whole (h : DL w0 H rm L w) (i : Nat) (hi : i < L.length) (hs : SV rm (L.getD i d0).2) : Calls Try.prog 32 #[.pointer (some ⟨(L.getD i d0).1, 0, none⟩)] w fun e w' => ∃ v, e = .returned v ∧ w'.ownsRow w.heap.size 40 3 v (L.getD i d0).2.length (ffcs (L.getD i d0).2) ∧ Below w.heap.size w w' := by
  obtain ⟨f, h1, _⟩ := h.ds i hi
  exact whole_any _ f rm 0 0 _ w h1 hs
theorem DL.clone (h : DL w0 H rm L w) (i : Nat) (hi : i < L.length) (hs : SV rm (L.getD i d0).2) : Calls Try.prog 33 #[.pointer (some ⟨(L.getD i d0).1, 0, none⟩)] w fun e w' => e = .returned (.pointer (some ⟨w.heap.size, 0, none⟩)) ∧ DL w0 H rm (L ++ [(w.heap.size, (L.getD i d0).2)]) w' ∧ Below w.heap.size w w' := by
  obtain ⟨f, h1, _⟩ := h.ds i hi
  refine (s_clone _ f rm 0 0 _ w h1 hs.cnt).mono ?_
  rintro e w' ⟨he, ⟨fc, k1, k2⟩, k3⟩
  exact ⟨he, h.add k3 k1 k2, k3⟩
theorem DL.least (h : DL w0 H rm L w) (i : Nat) (hi : i < L.length) (hs : SV rm (L.getD i d0).2) : Calls Try.prog 19 #[.pointer (some ⟨(L.getD i d0).1, 0, none⟩)] w fun e w' => ∃ g N, e = .returned (.slice (some ⟨g, 0, none⟩) N N) ∧ N = (L.getD i d0).2.length ∧ w.heap.size ≤ g ∧ w'.ownsRow w.heap.size 24 3 (.slice (some ⟨g, 0, none⟩) N N) N (fcs (lst (L.getD i d0).2)) ∧ Below w.heap.size w w' := by
  obtain ⟨f, h1, _⟩ := h.ds i hi
  exact least_any _ f rm 0 0 _ w h1 hs
theorem DL.most (h : DL w0 H rm L w) (i : Nat) (hi : i < L.length) (hs : SV rm (L.getD i d0).2) : Calls Try.prog 21 #[.pointer (some ⟨(L.getD i d0).1, 0, none⟩)] w fun e w' => ∃ g N, e = .returned (.slice (some ⟨g, 0, none⟩) N N) ∧ N = (L.getD i d0).2.length ∧ w.heap.size ≤ g ∧ w'.ownsRow w.heap.size 24 3 (.slice (some ⟨g, 0, none⟩) N N) N (fcs (mst (L.getD i d0).2)) ∧ Below w.heap.size w w' := by
  obtain ⟨f, h1, _⟩ := h.ds i hi
  exact most_any _ f rm 0 0 _ w h1 hs
theorem lst_len (V : Vw) : (lst V).length = V.length := List.length_map _
theorem mst_len (V : Vw) : (mst V).length = V.length := List.length_map _
theorem lst_nm {rm : Nat} {V : Vw} (hs : SV rm V) : ∀ x ∈ lst V, x.1.size ≤ maxLen := fun x hx => by
  obtain ⟨y, hy, rfl⟩ := List.mem_map.1 hx
  have := (hs.lng y hy).1
  unfold maxLen
  simp only
  omega
theorem mst_nm {rm : Nat} {V : Vw} (hs : SV rm V) : ∀ x ∈ mst V, x.1.size ≤ maxLen := fun x hx => by
  obtain ⟨y, hy, rfl⟩ := List.mem_map.1 hx
  have := (hs.lng y hy).1
  unfold maxLen
  simp only
  omega
theorem DL.crashRow (h : DL w0 H rm L w) (i : Nat) (hi : i < L.length) (hs : SV rm (L.getD i d0).2) {B g N : Nat} {l : List (ByteArray × Int)} (ho : w.ownsRow B 24 3 (.slice (some ⟨g, 0, none⟩) N N) N (fcs l)) (hl : l.length = N) (hn : ∀ x ∈ l, x.1.size ≤ maxLen) (hN : N ≤ 65536) :
    Calls Try.prog 25 #[.pointer (some ⟨(L.getD i d0).1, 0, none⟩), .slice (some ⟨g, 0, none⟩) N N] w fun e w' => e = .returned (.tuple #[]) ∧ DL w0 H rm (L.set i ((L.getD i d0).1, (L.getD i d0).2.map (crf (l.map f3)))) w' ∧ Oth w w' :=
  h.step i hi (fun fa hd _ => crash_row _ fa rm 0 0 _ g N B l w hd hs ho hl hn hN)
theorem DL.crashNone (h : DL w0 H rm L w) (i : Nat) (hi : i < L.length) (hs : SV rm (L.getD i d0).2) :
    Calls Try.prog 25 #[.pointer (some ⟨(L.getD i d0).1, 0, none⟩), .slice none 0 0] w fun e w' => e = .returned (.tuple #[]) ∧ DL w0 H rm (L.set i ((L.getD i d0).1, (L.getD i d0).2.map (crf []))) w' ∧ Oth w w' :=
  h.step i hi (fun fa hd _ => crash_none _ fa rm 0 0 _ w hd hs)
theorem DL.crashIn (h : DL w0 w0.heap.size rm L w) (i : Nat) (hi : i < L.length) (hs : SV rm (L.getD i d0).2) {a : Option Addr} {cap : Nat} {ms : List Ft3} {fs : List Ftp} (hF : FtIn w0 a ms fs) (hl : ms.length ≤ 140737488355328) :
    Calls Try.prog 25 #[.pointer (some ⟨(L.getD i d0).1, 0, none⟩), .slice a ms.length cap] w fun e w' => e = .returned (.tuple #[]) ∧ DL w0 w0.heap.size rm (L.set i ((L.getD i d0).1, (L.getD i d0).2.map (crf fs))) w' ∧ Oth w w' :=
  h.step i hi (fun fa hd hH => crashall_w _ fa rm 0 0 _ a cap ms fs w hd hs (hF.fts h.below) (hF.ftw h.below hH) (hF.haf hH) hl)
theorem DL.check (h : DL w0 H rm L w) (i : Nat) (hi : i < L.length) (hs : SV rm (L.getD i d0).2) {B g N : Nat} {l : List (ByteArray × Int)} (ho : w.ownsRow B 24 3 (.slice (some ⟨g, 0, none⟩) N N) N (fcs l)) (hl : l.length = N) (hn : ∀ x ∈ l, x.1.size ≤ maxLen) (hN : N ≤ 65536) :
    Calls Try.prog 16 #[.pointer (some ⟨(L.getD i d0).1, 0, none⟩), .slice (some ⟨g, 0, none⟩) N N] w fun e w' => e = .returned (.int .i64 (chk (L.getD i d0).2 (l.map f3))) ∧ Below w.heap.size w w' := by
  obtain ⟨f, h1, _⟩ := h.ds i hi
  exact check_row _ f rm 0 0 _ g N B l w h1 hs ho hl hn hN
theorem DL.synced (h : DL w0 H rm L w) (i : Nat) (hi : i < L.length) (nm : ByteArray) (hn : nm.size ≤ maxLen) :
    Calls Try.prog 35 #[.pointer (some ⟨(L.getD i d0).1, 0, none⟩), .string nm] w fun e w' => e = .returned (.tuple #[.int .i64 (syN (vl nm (L.getD i d0).2)), .int .i64 (noE (vl nm (L.getD i d0).2))]) ∧ ∃ k, w' = w.drewN k := by
  obtain ⟨f, h1, _⟩ := h.ds i hi
  exact s_synced _ f rm 0 0 _ nm w h1 hn
end
end Go.Proofs.Ythjbhfhdepepmaa
namespace Go.Proofs.Ythjbhfhdepepmaa
open Go.RowKit
theorem winc1 (n : Nat) (h : n ≤ 65536) : wrap64 ((n : Int) + 1) = ((n + 1 : Nat) : Int) := by unfold wrap64; omega
set_option maxHeartbeats 2000000 in
set_option maxRecDepth 20000 in
theorem rremove_any (d : Nat) (fl : Value) (rm : Nat) (cl cb : Int) (V : Vw) (nm : ByteArray) (w : World) (h : Rk w d fl rm cl cb V) (hs : SV rm V) :
    Calls Try.prog 56 #[.pointer (some ⟨d, 0, none⟩), .string nm] w fun e w' => e = .returned (.int .i64 (noE (vl nm V))) ∧ RAft w (Rt d fl) d rm cl cb (vdel nm V) w' := by
  have c1 := h.c1
  cases hv : vl nm V with
  | none =>
    have e1 : vdel nm V = V := List.filter_eq_self.2 (fun y hy => by simpa using vl_none_ne hv y hy)
    rw [e1]
    have HS := hid' (fun n => RAft.same h n)
    obtain ⟨l, r, _, _, _, HA⟩ := h.at_none hs hv
    have HA := hid' HA
    clear h hs hv e1
    go_enter Try.func56, Try.ntmps56
    go_wp2_with (go_at_call 68; refine HA.out.mono ?_; rintro e w' ⟨rfl, k, rfl⟩)
    go_ret
    exact ⟨rfl, HS.out _⟩
  | some x =>
    obtain ⟨i0, hi, hz0, hz1, hz2⟩ := info_parts Try.infoRF
    obtain ⟨l, r, g, cap, hV, k1, k2, rfl, hlt, _, _, _, _, HA⟩ := h.at_some hs hv
    have HA := hid' HA
    have hc := hs.cnt
    have e1 : vdel nm V = l ++ r := by rw [hV]; exact vdel_mid k1 k2
    rw [e1]
    have hNc : V.length ≤ cap := by
      rcases h.row.2 with ⟨e, _⟩ | ⟨g', cap', cur, e, _, _, hnc, _⟩
      · cases e
      · injection e with _ _ e2
        subst e2
        exact hnc
    have HCe : Hid (∀ wx, Rk wx d (.slice (some ⟨g, 0, none⟩) V.length cap) rm cl cb V → (∀ j u, (rfs l)[j]? = some u → wx.cell? ((⟨g, 0, none⟩ : Addr).add j) = some u) ∧ (∀ j u, (rfs r)[j]? = some u → wx.cell? ((⟨g, (l.length + 1) * 3, none⟩ : Addr).add j) = some u)) := by
      intro wx hk
      rcases hk.form with ⟨e, _⟩ | ⟨g', cap', e, hcl, _⟩
      · cases e
      · injection e with e _ _
        injection e with e
        injection e with e
        subst e
        refine ⟨rfs_left l ((nm, x) :: r) (N := V.length) (by rw [← hV]) (by rw [← hV]; exact hcl), ?_⟩
        have e5 : V = (l ++ [(nm, x)]) ++ r := by rw [hV]; simp
        have := rfs_right (l ++ [(nm, x)]) r (N := V.length) (by rw [← e5]) (by rw [← e5]; exact hcl)
        rw [show (l ++ [(nm, x)]).length = l.length + 1 from by simp] at this
        exact this
    have hLN : l.length + 1 + r.length = V.length := by rw [hV]; simp; omega
    have HL := hid' (rfl : l.length = l.length)
    generalize hN : V.length = N at *
    generalize hL : l.length = L at *
    have HLL := hid' hL
    have hLc : L ≤ cap := by omega
    have hLc1 : L + 1 ≤ cap := by omega
    have hltI : (L : Int) ≤ N := by omega
    have hltI2 : ((L + 1 : Nat) : Int) ≤ N := by omega
    have wi := winc1 L (by omega)
    clear hN hL hV k1 k2 hv e1 hs HL
    have hH := lt_of_heap h.blk
    go_enter Try.func56, Try.ntmps56
    have HD : Hid (∀ wx, Ch (fun _ => False) w wx → Rk wx d (.slice (some ⟨g, 0, none⟩) N cap) rm cl cb V) := fun wx hx => h.ch hx (fun _ _ e => e)
    go_wp2_with (first | (go_at_call 68; refine HA.out.mono ?_; rintro e w1 ⟨rfl, k, hw1⟩; have HC1 : Hid (Ch (fun _ => False) w w1) := (by show Ch _ _ _; rw [hw1]; exact (Ch.refl _ w).drewN k); have d1 := (HD.out w1 HC1.out).c1; have hs1 : w.heap.size ≤ w1.heap.size := HC1.out.size; clear hw1) | (at_builtin; refine wpList_append_own _ rfl _ _ 75 rfl w.heap.size 74 i0 (.agg #[.string ⟨#[]⟩, .string ⟨#[]⟩, .int .i64 0]) 3 40 Try.underRFs hi hz0 hz1 hz2 rfl (by decide) _ _ _ rfl (World.ownsRow_nil w1 _ _ _) ⟨g, 0, none⟩ L cap (rfs l) rfl ?b0 ?b1 ?b2 ?b3 ?b4 ?b5 ?_))
    case b0 => rw [rfs_len, HLL.out]
    case b1 => exact (HCe.out w1 (HD.out w1 HC1.out)).1
    case b2 => exact rfs_one _
    case b3 => unfold maxLen; omega
    case b4 => omega
    case b5 => omega
    intro v2 w2 hown2 hgrow2 _
    have HC2 := hid' (grown_ch HC1.out (World.ownsRow_nil w1 w.heap.size 74 3) (Nat.le_refl _) hgrow2)
    have d2 := (HD.out w2 HC2.out).c1
    have hs2 := HC2.out.size
    obtain ⟨a2, cap2, rfl⟩ := own_form hown2
    obtain ⟨off, hoff, hce⟩ : ∃ off, (if cap = L + 1 then (some ⟨g, 0, none⟩ : Option Addr) else some ⟨g, (L + 1) * 3, none⟩) = some ⟨g, off, none⟩ ∧ ∀ j u, (rfs r)[j]? = some u → w2.cell? ((⟨g, off, none⟩ : Addr).add j) = some u := by
      by_cases e : cap = L + 1
      · refine ⟨0, if_pos e, fun j u hj => ?_⟩
        obtain rfl : r = [] := List.eq_nil_of_length_eq_zero (by omega)
        cases hj
      · exact ⟨_, if_neg e, (HCe.out w2 (HD.out w2 HC2.out)).2⟩
    have HCE := hid' hce
    clear hce hgrow2 d1 HC1
    have eR : N - (L + 1) = r.length := by omega
    go_wp2_with (at_builtin; refine wpList_append_own _ rfl _ _ 75 rfl w.heap.size 74 i0 (.agg #[.string ⟨#[]⟩, .string ⟨#[]⟩, .int .i64 0]) 3 40 Try.underRFs hi hz0 hz1 hz2 rfl (by decide) _ _ _ rfl hown2 ⟨g, off, none⟩ r.length (cap - (L + 1)) (rfs r) (by first | rfl | simp [Act.eval, hoff]) ?e0 ?e1 ?e2 ?e3 ?e4 ?e5 ?_)
    case e0 => rw [rfs_len]
    case e1 => exact HCE.out
    case e2 => exact rfs_one _
    case e3 => unfold maxLen; omega
    case e4 => omega
    case e5 => omega
    intro v4 w4 hown4 hgrow4 _
    obtain ⟨a4, cap4, rfl⟩ := own_form hown4
    have HC4 := hid' (grown_ch HC2.out hown2 (Nat.le_refl _) hgrow4)
    have hk4 := HD.out w4 HC4.out
    have d4 := hk4.c1
    have fz4 := hk4.fz 1
    rw [← rfs_app] at hown4
    have HM := hid' (fun k => h.moved HC4.out hown4 (by rw [List.length_append, HLL.out]) k)
    clear hk4 h hgrow4 hown4 HC4 hown2 HCE d2 HC2
    go_wp2_with fail
    go_ret
    exact ⟨rfl, HM.out 0⟩
end Go.Proofs.Ythjbhfhdepepmaa
namespace Go.Proofs.Ythjbhfhdepepmaa
open Go.RowKit
section
variable {w w1 w2 wx wy : World} {ft : Nat → Prop} {d : Nat} {rm : Nat} {cl cb cl1 cb1 cl2 cb2 : Int} {V V1 V2 : Vw} {F : Nat} {c : Array Value} {T : TypeId}
theorem RAft.start (h : Rs w d ft rm cl cb V) : RAft w ft d rm cl cb V w := ⟨ft, h, Ch.refl _ _, fun _ a => Or.inl a⟩
theorem RAft.kept (h : RAft w ft d rm cl cb V w1) (hb : Below w1.heap.size w1 w2) : RAft w ft d rm cl cb V w2 := by
  obtain ⟨f1, k1, k2, k3⟩ := h
  exact ⟨f1, k1.kept hb, k2.then (Ch.of_below (S := fun _ => False) hb) (fun _ _ e => e.elim), k3⟩
/-- What a call upon the document's disk leaves of other blocks. -/
def OthR (w w' : World) : Prop := ∀ (i : Nat) (c : Array Value) (T : TypeId) (fz : Nat × Nat), w.heap[i]? = some (.cells c T fz) → T ≠ 77 → T ≠ 74 → w'.heap[i]? = some (.cells c T fz)
theorem Rs.othR (h : Rs w d ft rm cl cb V) (hc : Ch ft w w1) : OthR w w1 := fun i c T fz hi h1 h2 => by
  refine (hc.block i (lt_of_heap hi) (fun hf => ?_)).trans hi
  obtain ⟨fl, hk, rfl⟩ := h
  rcases hf with rfl | hf
  · rw [hk.blk] at hi; injection hi with hi; injection hi with _ e _; exact h1 e.symm
  · rcases hk.row.2 with ⟨rfl, _⟩ | ⟨g, cap, cur, rfl, _, hh, _⟩
    · cases hf
    · injection hf with hf
      subst hf
      rw [hh] at hi; injection hi with hi; injection hi with _ e _; exact h2 e.symm
theorem OthR.below (h : Below w.heap.size w w1) : OthR w w1 := fun _ _ _ _ hi _ _ => (h.block _ (lt_of_heap hi)).trans hi
theorem RAft.stepF (h : RAft w ft d rm cl1 cb1 V1 w1) {f : FuncId} {args : Array Value} {v : Value} (hc : ∀ f1, Rs w1 d f1 rm cl1 cb1 V1 → (∀ i, f1 i → ft i ∨ w.heap.size ≤ i) → Calls Try.prog f args w1 fun e w2 => e = .returned v ∧ RAft w1 f1 d rm cl2 cb2 V2 w2) :
    Calls Try.prog f args w1 fun e w2 => e = .returned v ∧ RAft w ft d rm cl2 cb2 V2 w2 ∧ OthR w1 w2 := by
  obtain ⟨f1, k1, k2, k3⟩ := h
  refine (hc f1 k1 k3).mono ?_
  rintro e w2 ⟨he, f2, m1, m2, m3⟩
  refine ⟨he, ⟨f2, m1, k2.then m2 (fun i hi hf => ?_), fun i hi => ?_⟩, k1.othR m2⟩
  · rcases k3 i hf with a | a
    · exact a
    · omega
  · rcases m3 i hi with a | a
    · exact k3 i a
    · exact Or.inr (Nat.le_trans k2.size a)
theorem RAft.look (h : RAft w ft d rm cl1 cb1 V1 w1) {f : FuncId} {args : Array Value} {v : Value} (hc : ∀ f1, Rs w1 d f1 rm cl1 cb1 V1 → Calls Try.prog f args w1 fun e w2 => e = .returned v ∧ ∃ k, w2 = w1.drewN k) :
    Calls Try.prog f args w1 fun e w2 => e = .returned v ∧ RAft w ft d rm cl1 cb1 V1 w2 ∧ OthR w1 w2 := by
  have h' := h
  obtain ⟨f1, k1, k2, k3⟩ := h
  refine (hc f1 k1).mono ?_
  rintro e w2 ⟨he, k, rfl⟩
  exact ⟨he, h'.kept (bel_drewN w1 k), OthR.below (bel_drewN w1 k)⟩
theorem RAft.blk (h : RAft w ft d rm cl cb V w1) {i : Nat} (hi : i < w.heap.size) (hn : ¬ ft i) : w1.heap[i]? = w.heap[i]? := by
  obtain ⟨f1, _, m2, _⟩ := h
  exact m2.block i hi hn
theorem RAft.size (h : RAft w ft d rm cl cb V w1) : w.heap.size ≤ w1.heap.size := by
  obtain ⟨f1, _, m2, _⟩ := h
  exact m2.size
/-- The document's disk that has turned since w, and a box of another type beside it. -/
def RAfB (w : World) (ft : Nat → Prop) (d : Nat) (rm : Nat) (cl cb : Int) (V : Vw) (F : Nat) (c : Array Value) (T : TypeId) (wx : World) : Prop := RAft w ft d rm cl cb V wx ∧ wx.heap[F]? = some (.cells c T (0, 0))
theorem RAfB.kept (h : RAfB w ft d rm cl cb V F c T wx) (hb : Below wx.heap.size wx wy) : RAfB w ft d rm cl cb V F c T wy := ⟨h.1.kept hb, (hb.block F (lt_of_heap h.2)).trans h.2⟩
theorem RAfB.drew (h : RAfB w ft d rm cl cb V F c T wx) : RAfB w ft d rm cl cb V F c T wx.drew := h.kept (Below.drew (Below.refl _ _))
theorem RAfB.step (h : RAfB w ft d rm cl cb V F c T wx) {f : FuncId} {args : Array Value} {v : Value} (hc : ∀ f1, Rs wx d f1 rm cl cb V → (∀ i, f1 i → ft i ∨ w.heap.size ≤ i) → Calls Try.prog f args wx fun e w2 => e = .returned v ∧ RAft wx f1 d rm cl2 cb2 V2 w2) (h1 : T ≠ 77) (h2 : T ≠ 74) :
    Calls Try.prog f args wx fun e w2 => e = .returned v ∧ RAfB w ft d rm cl2 cb2 V2 F c T w2 := by
  refine (h.1.stepF hc).mono ?_
  rintro e w2 ⟨he, k1, k2⟩
  exact ⟨he, k1, k2 F _ _ _ h.2 h1 h2⟩
theorem RAfB.look (h : RAfB w ft d rm cl cb V F c T wx) {f : FuncId} {args : Array Value} {v : Value} (hc : ∀ f1, Rs wx d f1 rm cl cb V → Calls Try.prog f args wx fun e w2 => e = .returned v ∧ ∃ k, w2 = wx.drewN k) (h1 : T ≠ 77) (h2 : T ≠ 74) :
    Calls Try.prog f args wx fun e w2 => e = .returned v ∧ RAfB w ft d rm cl cb V F c T w2 := by
  refine (h.1.look hc).mono ?_
  rintro e w2 ⟨he, k1, k2⟩
  exact ⟨he, k1, k2 F _ _ _ h.2 h1 h2⟩
variable {nm : ByteArray}
theorem q_size (h : Rs w d ft rm cl cb V) (hs : SV rm V) : Calls Try.prog 51 #[.pointer (some ⟨d, 0, none⟩), .string nm] w fun e w' => e = .returned (.tuple #[.int .i64 (szN (vl nm V)), .int .i64 (noE (vl nm V))]) ∧ ∃ k, w' = w.drewN k := by
  obtain ⟨fl, h1, rfl⟩ := h
  exact rsize_any d fl rm cl cb V nm w h1 hs
theorem q_synced (h : Rs w d ft rm cl cb V) (hs : SV rm V) : Calls Try.prog 52 #[.pointer (some ⟨d, 0, none⟩), .string nm] w fun e w' => e = .returned (.tuple #[.int .i64 (syN (vl nm V)), .int .i64 (noE (vl nm V))]) ∧ ∃ k, w' = w.drewN k := by
  obtain ⟨fl, h1, rfl⟩ := h
  exact rsynced_any d fl rm cl cb V nm w h1 hs
theorem q_remove (h : Rs w d ft rm cl cb V) (hs : SV rm V) : Calls Try.prog 56 #[.pointer (some ⟨d, 0, none⟩), .string nm] w fun e w' => e = .returned (.int .i64 (noE (vl nm V))) ∧ RAft w ft d rm cl cb (vdel nm V) w' := by
  obtain ⟨fl, h1, rfl⟩ := h
  exact rremove_any d fl rm cl cb V nm w h1 hs
theorem q_create (h : Rs w d ft rm cl cb V) (hs : SV rm V) (hn : nm.size ≤ maxLen) : Calls Try.prog 29 #[.pointer (some ⟨d, 0, none⟩), .string nm] w fun e w' => e = .returned (.int .i64 (crE nm V)) ∧ RAft w ft d rm cl cb (crV nm V) w' := by
  obtain ⟨fl, h1, rfl⟩ := h
  exact rcreate_any d fl rm cl cb V nm w h1 hs hn
theorem q_cut (h : Rs w d ft rm cl cb V) (hs : SV rm V) (a : Int) : Calls Try.prog 57 #[.pointer (some ⟨d, 0, none⟩), .string nm, .int .i64 a] w fun e w' => e = .returned (.int .i64 (cuE (vl nm V) a)) ∧ RAft w ft d rm cl cb (cuV nm a V) w' := by
  obtain ⟨fl, h1, rfl⟩ := h
  exact rcut_any d fl rm cl cb V nm a w h1 hs
theorem q_over (h : Rs w d ft rm cl cb V) (hs : SV rm V) (a : Int) (s : ByteArray) (ha : a ≤ 9223372036854775807) : Calls Try.prog 80 #[.pointer (some ⟨d, 0, none⟩), .string nm, .int .i64 a, .string s] w fun e w' => e = .returned (.int .i64 (ovE (vl nm V) a s)) ∧ RAft w ft d rm cl cb (ovV nm a s V) w' := by
  obtain ⟨fl, h1, rfl⟩ := h
  exact rover_any d fl rm cl cb V nm a s w h1 hs ha
theorem q_append (h : Rs w d ft rm cl cb V) (hs : SV rm V) (s : ByteArray) : Calls Try.prog 31 #[.pointer (some ⟨d, 0, none⟩), .string nm, .string s] w fun e w' => e = .returned (.tuple #[.int .i64 (apN (vl nm V) rm (vt V) s), .int .i64 (apE (vl nm V) rm (vt V) s)]) ∧ RAft w ft d rm cl cb (apV nm rm s V) w' := by
  obtain ⟨fl, h1, rfl⟩ := h
  exact rappend_any d fl rm cl cb V nm s w h1 hs
end
set_option maxHeartbeats 4000000 in
set_option maxRecDepth 20000 in
theorem rwrite_any (d : Nat) (ft : Nat → Prop) (rm : Nat) (cl cb : Int) (V : Vw) (nm : ByteArray) (a : Int) (D : ByteArray) (w : World) (h : Rs w d ft rm cl cb V) (hs : SV rm V) (hok : WrOk (a, D)) :
    Calls Try.prog 58 #[.pointer (some ⟨d, 0, none⟩), .string nm, .agg #[.int .i64 a, .string D]] w fun e w' => e = .returned (.tuple #[]) ∧ RAft w ft d rm cl cb (wrV rm nm (a, D) V) w' := by
  have hL := hs.szN nm
  have HS := hid hs
  have SZ : Hid (∀ (wx : World) f1, Rs wx d f1 rm cl cb V → Calls Try.prog 51 #[.pointer (some ⟨d, 0, none⟩), .string nm] wx fun e w' => e = .returned (.tuple #[.int .i64 (szN (vl nm V)), .int .i64 (noE (vl nm V))]) ∧ ∃ k, w' = wx.drewN k) := fun wx f1 h1 => q_size h1 HS.out
  obtain ⟨o1, o2, o3⟩ := hok
  simp only at o1 o2 o3
  obtain ⟨wA, hwA⟩ : ∃ wA, wA = w.alloc (Obj.cells #[.int .i64 a, .string D] 69) := ⟨_, rfl⟩
  have hA := heap_new w (Obj.cells #[.int .i64 a, .string D] 69)
  rw [← hwA] at hA
  have HAF : Hid (RAfB w ft d rm cl cb V w.heap.size #[.int .i64 a, .string D] 69 wA) := ⟨(RAft.start h).kept (by rw [hwA]; exact bel_alloc _ _), hA⟩
  have hwA' := hwA.symm
  clear hwA hA h hs
  cases hv : vl nm V with
  | none =>
    have HW0 : Hid (wrV rm nm (a, D) V = V) := wr_none hv _
    rw [hv] at SZ
    simp only [szN, noE] at SZ
    clear hv
    go_enter Try.func58, Try.ntmps58
    go_wp2_with fail
    refine (HAF.out.look (fun f1 h1 => SZ.out _ f1 h1) (by decide) (by decide)).mono ?_
    rintro e w1 ⟨rfl, hf1⟩
    have HF1 := hid hf1
    clear hf1 HAF SZ
    go_wp2_with fail
    refine bodyPost_ret (v := .tuple #[]) (by simp [results, Try.results58, go_sem]) rfl ⟨rfl, ?_⟩
    rw [HW0.out]
    exact HF1.out.1
  | some x =>
    have HWV : Hid (∀ X, (¬ (a < 0 ∨ (szN (vl nm V) : Int) < a) → X = apV nm rm (D.extract (wrN (szN (vl nm V)) a D) D.size) (ovV nm a (D.extract 0 (wrN (szN (vl nm V)) a D)) V)) → (a < 0 ∨ (szN (vl nm V) : Int) < a → X = V) → X = wrV rm nm (a, D) V) := by
      intro X h1 h2
      unfold wrV
      split
      · exact h2 (by assumption)
      · exact h1 (by assumption)
    rw [hv] at SZ HWV hL
    simp only [szN, noE] at SZ HWV hL
    clear hv
    generalize x.1.length = L at *
    go_enter Try.func58, Try.ntmps58
    go_wp2_with fail
    refine (HAF.out.look (fun f1 h1 => SZ.out _ f1 h1) (by decide) (by decide)).mono ?_
    rintro e w1 ⟨rfl, hf1⟩
    have HF1 := hid hf1
    clear hf1 HAF SZ
    have a0 : w1.cell? ⟨w.heap.size, 0, none⟩ = some (.int .i64 a) := (cell_of HF1.out.2).trans rfl
    have a1 : w1.cell? ⟨w.heap.size, 1, none⟩ = some (.string D) := (cell_of HF1.out.2).trans rfl
    by_cases h0 : a < 0
    · go_wp2_with fail
      refine bodyPost_ret (v := .tuple #[]) (by simp [results, Try.results58, go_sem]) rfl ⟨rfl, ?_⟩
      rw [← HWV.out V (fun hx => absurd (Or.inl h0) hx) (fun _ => rfl)]
      exact HF1.out.1
    · by_cases h1 : (L : Int) < a
      · go_wp2_with fail
        refine bodyPost_ret (v := .tuple #[]) (by simp [results, Try.results58, go_sem]) rfl ⟨rfl, ?_⟩
        rw [← HWV.out V (fun hx => absurd (Or.inr h1) hx) (fun _ => rfl)]
        exact HF1.out.1
      · obtain ⟨p, rfl⟩ : ∃ p : Nat, a = p := ⟨a.toNat, by omega⟩
        obtain ⟨n, hnd⟩ : ∃ n, n = wrN L (p : Int) D := ⟨_, rfl⟩
        have hnle : n ≤ D.size := by rw [hnd]; unfold wrN; omega
        have hnI : (if (L : Int) - p < 0 then (0 : Int) else if (D.size : Int) < (L : Int) - p then (D.size : Int) else (L : Int) - p) = (n : Int) := by
          rw [hnd]; unfold wrN; simp only [Int.toNat_natCast]
          split
          · omega
          · split <;> omega
        have hwp : wrap64 ((L : Int) - p) = (L : Int) - p := by unfold wrap64; omega
        have HHD : Hid (∀ wx, Calls Try.prog 42 #[.int .i64 ((L : Int) - p), .int .i64 0, .int .i64 D.size] wx fun e w' => e = .returned (.int .i64 n) ∧ w' = wx) := fun wx => by have := held_any ((L : Int) - p) 0 D.size wx; rw [hnI] at this; exact this
        have hnIle : (n : Int) ≤ D.size := by omega
        have HWV2 : Hid (apV nm rm (D.extract n D.size) (ovV nm p (D.extract 0 n) V) = wrV rm nm ((p : Int), D) V) := HWV.out _ (fun _ => by rw [hnd]) (fun hx => by omega)
        have HNL := hid (And.intro hnd hnle)
        have HP := hid (show (p : Int) ≤ 9223372036854775807 by omega)
        clear HWV hnd hnle hnI
        go_wp2_with fail
        refine (HHD.out _).mono ?_
        rintro e wh ⟨rfl, rfl⟩
        generalize hV1 : ovV nm p (D.extract 0 n) V = V1 at *
        have HV1 := hid hV1
        have HS1 : Hid (SV rm V1) := by rw [← hV1]; exact HS.out.ov nm _ _
        clear hV1
        go_wp2_with fail
        go_region_held3 (fun x => x.cell? ⟨w.heap.size, 0, none⟩ = some (.int .i64 p) ∧ x.cell? ⟨w.heap.size, 1, none⟩ = some (.string D)) ((first | assumption | exact ⟨by assumption, by assumption⟩ | go_keep)) ((go_at_call 80; refine ((show RAfB w ft d rm cl cb V w.heap.size #[.int .i64 p, .string D] 69 _ from (by first | exact HF1.out | exact HF1.out.drew)).step (fun f1 h1 _ => q_over h1 HS.out (p : Int) (D.extract 0 n) HP.out) (by decide) (by decide)).mono ?_; rintro e w5 ⟨rfl, hf5⟩; have b0 : w5.cell? ⟨w.heap.size, 0, none⟩ = some (.int .i64 p) := (cell_of hf5.2).trans rfl; have b1 : w5.cell? ⟨w.heap.size, 1, none⟩ = some (.string D) := (cell_of hf5.2).trans rfl))
        rw [HV1.out] at hf5
        have HF5 := hid hf5
        clear hf5 HF1 a0 a1
        go_wp2_with fail
        refine (HF5.out.step (fun f1 h1 _ => q_append h1 HS1.out (D.extract n D.size)) (by decide) (by decide)).mono ?_
        rintro e w6 ⟨rfl, hf6⟩
        have HF6 := hid hf6
        clear hf6 HF5 b0 b1
        go_wp2_with fail
        go_end0
        exact ⟨rfl, by rw [← HWV2.out]; exact HF6.out.1⟩
end Go.Proofs.Ythjbhfhdepepmaa
namespace Go.Proofs.Ythjbhfhdepepmaa
open Go.RowKit
set_option maxHeartbeats 1000000 in
theorem rgood_any (nm : ByteArray) (w : World) : Calls Try.prog 50 #[.string nm] w fun e w' => e = .returned (.bool (decide (1 ≤ nm.size ∧ nm.size ≤ 255))) ∧ w' = w := by
  by_cases h1 : 1 ≤ nm.size
  · have h1I : (1 : Int) ≤ nm.size := by omega
    by_cases h2 : nm.size ≤ 255
    · have h2I : (nm.size : Int) ≤ 255 := by omega
      have HE : Hid (decide (1 ≤ nm.size ∧ nm.size ≤ 255) = true) := decide_eq_true ⟨h1, h2⟩
      rw [HE.out]
      go_enter Try.func50, Try.ntmps50
      go_wp2_with fail
      go_ret
      exact ⟨rfl, rfl⟩
    · have h2I : ¬ (nm.size : Int) ≤ 255 := by omega
      have HE : Hid (decide (1 ≤ nm.size ∧ nm.size ≤ 255) = false) := decide_eq_false (fun h => h2 h.2)
      rw [HE.out]
      go_enter Try.func50, Try.ntmps50
      go_wp2_with fail
      go_ret
      exact ⟨rfl, rfl⟩
  · have h1I : ¬ (1 : Int) ≤ nm.size := by omega
    have HE : Hid (decide (1 ≤ nm.size ∧ nm.size ≤ 255) = false) := decide_eq_false (fun h => h1 h.1)
    rw [HE.out]
    go_enter Try.func50, Try.ntmps50
    go_wp2_with fail
    go_ret
    exact ⟨rfl, rfl⟩
set_option maxHeartbeats 4000000 in
set_option maxRecDepth 20000 in
theorem rharmall_any (d : Nat) (ft : Nat → Prop) (rm : Nat) (cl cb : Int) (V : Vw) (a : Option Addr) (cap : Nat) (ms : List Ft3) (fs : List Ftp) (w : World) (h : Rs w d ft rm cl cb V) (hs : SV rm V) (hF : Fts w a ms) (hR : Ftw w ft ms fs) (haf : ∀ b off, a = some ⟨b, off, none⟩ → ms ≠ [] → ¬ ft b) (hl : ms.length ≤ 140737488355328) :
    Calls Try.prog 24 #[.pointer (some ⟨d, 0, none⟩), .slice a ms.length cap] w fun e w' => e = .returned (.tuple #[]) ∧ RAft w ft d rm cl cb (hms rm fs V) w' := by
  have HS := hid hs
  have HF := hid hF
  have HR := hid hR
  have HAF := hid haf
  have HD := hid (RAft.start h)
  generalize hN : ms.length = N at *
  have HN := hid hN
  clear hN h hs hF hR haf
  go_enter Try.func24, Try.ntmps24
  go_wp2_with fail
  go_loopg [4] N (fun k i wr => ∃ j : Nat, j + k = N ∧ i = .int .i64 j ∧ Hid (RAft w ft d rm cl cb (hms rm (fs.take j) V) wr))
  case atStart => exact ⟨0, by omega, rfl, HD⟩
  case round =>
    clear HD
    obtain ⟨j, hj, rfl, HQ⟩ := hrel
    by_cases hlt : j < N
    · obtain ⟨k', rfl⟩ : ∃ k', gk = k' + 1 := ⟨gk - 1, by omega⟩
      have hltI : (j : Int) < N := by omega
      have hjf : j < fs.length := by rw [← HR.out.1, HN.out]; exact hlt
      obtain ⟨r1, r2, r3, r4, r5, r6, r7, r8⟩ := HR.out.2 j hjf
      rcases HF.out with rfl | ⟨b, off, rfl, hbl, hc⟩
      · exact absurd hlt (by rw [← HN.out]; simp)
      obtain ⟨q0, q1, q2⟩ := hc j (by rw [HN.out]; exact hlt)
      have hbe : wr.heap[b]? = w.heap[b]? := HQ.out.blk hbl (HAF.out b off rfl (fun e => by rw [e] at HN; have := HN.out; simp at this; omega))
      have hce : ∀ o, wr.cell? ⟨b, o, none⟩ = w.cell? ⟨b, o, none⟩ := fun o => by simp only [World.cell?, hbe]
      rw [← hce] at q0 q1 q2
      have hsz : w.heap.size ≤ wr.heap.size := HQ.out.size
      have hblr : b < wr.heap.size := Nat.lt_of_lt_of_le hbl hsz
      have HE := hid (hms_at (rm := rm) (V := V) hjf)
      have HSj := hid (HS.out.hms (fs.take j))
      generalize hms rm (fs.take j) V = U at *
      generalize fs.getD j p00 = P at *
      generalize ms.getD j t00 = T at *
      obtain ⟨pn, pk, pw⟩ := P
      obtain ⟨tn, tk, oa, on, oc⟩ := T
      simp only [ovS] at r1 r2 r3 r4 r5 r6 r7 r8 q0 q1 q2
      subst r1 r2 r3
      have HG := hid (fun wx => rgood_any tn wx)
      have HJ := hid hj
      have HWx := hid r4
      have HWn := hid r5
      have HNm := hid r6
      have HOk := hid r8
      have HR7 := hid r7
      have HFs : Hid (w.heap.size ≤ wr.heap.size) := hsz
      have HQa : Hid (RAfB w ft d rm cl cb U wr.heap.size #[.string tn, .int .i64 tk, .slice oa pw.length oc] 24 (wr.alloc (Obj.cells #[.string tn, .int .i64 tk, .slice oa pw.length oc] 24))) := ⟨HQ.out.kept (bel_alloc _ _), heap_new wr _⟩
      have f0 : (wr.alloc (Obj.cells #[.string tn, .int .i64 tk, .slice oa pw.length oc] 24)).cell? ⟨wr.heap.size, 0, none⟩ = some (.string tn) := (cell_of (heap_new wr _)).trans rfl
      have f1 : (wr.alloc (Obj.cells #[.string tn, .int .i64 tk, .slice oa pw.length oc] 24)).cell? ⟨wr.heap.size, 1, none⟩ = some (.int .i64 tk) := (cell_of (heap_new wr _)).trans rfl
      have f2 : (wr.alloc (Obj.cells #[.string tn, .int .i64 tk, .slice oa pw.length oc] 24)).cell? ⟨wr.heap.size, 2, none⟩ = some (.slice oa pw.length oc) := (cell_of (heap_new wr _)).trans rfl
      clear hc hj hbe hce hsz r4 r5 r6 r7 r8 hjf hlt HQ hbl HF HAF
      by_cases hg : 1 ≤ tn.size ∧ tn.size ≤ 255
      · rw [decide_eq_true hg] at HG
        have HE2 : Hid (hmV rm (tn, tk, pw) U = hms rm (fs.take (j + 1)) V) := by show _ = _; rw [HE.out]; unfold hm1; rw [if_pos hg]
        clear hg HE
        by_cases hk : tk < 0
        · have HM : Hid (hmV rm (tn, tk, pw) U = vdel tn U) := if_pos hk
          go_wp2_with fail
          refine (HG.out _).mono ?_
          rintro e wg ⟨rfl, rfl⟩
          go_wp2_with fail
          refine (HQa.out.step (fun f1 h1 _ => q_remove h1 HSj.out) (by decide) (by decide)).mono ?_
          rintro e w2 ⟨rfl, hf2⟩
          have HX : Hid (RAft w ft d rm cl cb (hms rm (fs.take (j + 1)) V) w2) := by rw [← HE2.out, HM.out]; exact hf2.1
          clear hf2 HQa
          go_wp2_with fail
          go_roundg k'
          case measure => omega
          case rel => exact ⟨j + 1, by have := HJ.out; omega, congrArg (Value.int .i64) (by omega), HX⟩
        · have HM : Hid (hmV rm (tn, tk, pw) U = wrs rm tn pw (cuV tn tk (crV tn U))) := if_neg hk
          have HSc : Hid (SV rm (crV tn U)) := HSj.out.cr tn
          have HSu : Hid (SV rm (cuV tn tk (crV tn U))) := HSc.out.cu tn tk
          go_wp2_with fail
          refine (HG.out _).mono ?_
          rintro e wg ⟨rfl, rfl⟩
          go_wp2_with fail
          refine (HQa.out.step (fun f1 h1 _ => q_create h1 HSj.out HNm.out) (by decide) (by decide)).mono ?_
          rintro e w2 ⟨rfl, hf2⟩
          have HF2 := hid hf2
          clear hf2 HQa f0 f1 f2
          have f0 : w2.cell? ⟨wr.heap.size, 0, none⟩ = some (.string tn) := (cell_of HF2.out.2).trans rfl
          have f1 : w2.cell? ⟨wr.heap.size, 1, none⟩ = some (.int .i64 tk) := (cell_of HF2.out.2).trans rfl
          go_wp2_with fail
          refine (HF2.out.step (fun f1 h1 _ => q_cut h1 HSc.out tk) (by decide) (by decide)).mono ?_
          rintro e w3 ⟨rfl, hf3⟩
          have HF3 := hid hf3
          clear hf3 HF2 f0 f1
          generalize hpl : pw.length = PL at *
          have HPL := hid hpl
          clear hpl
          have hplI : (PL : Int) ≤ 140737488355328 := by have := HR7.out; omega
          generalize cuV tn tk (crV tn U) = U2 at *
          go_wp2_with fail
          generalize wr.heap.size = F at *
          go_loopg [6] PL (fun p i wx => ∃ q : Nat, q + p = PL ∧ i = .int .i64 q ∧ Hid (RAfB w ft d rm cl cb (wrs rm tn (pw.take q) U2) F #[.string tn, .int .i64 tk, .slice oa PL oc] 24 wx))
          case atStart => exact ⟨0, by omega, rfl, HF3⟩
          case round =>
            clear HF3
            obtain ⟨q, hq, rfl, HQ⟩ := hrel
            have f0 : wr.cell? ⟨F, 0, none⟩ = some (.string tn) := (cell_of HQ.out.2).trans rfl
            have f2 : wr.cell? ⟨F, 2, none⟩ = some (.slice oa PL oc) := (cell_of HQ.out.2).trans rfl
            by_cases hlq : q < PL
            · obtain ⟨p, rfl⟩ : ∃ p, gk = p + 1 := ⟨gk - 1, by omega⟩
              have hlqI : (q : Int) < PL := by omega
              have hqw : q < pw.length := by rw [HPL.out]; exact hlq
              have hWA := hid (wrs_at (rm := rm) (nm := tn) (V := U2) hqw)
              have hmem : pw.getD q w00 ∈ pw := by rw [List.getD_eq_getElem?_getD, List.getElem?_eq_getElem hqw]; exact List.getElem_mem _
              have hok := HOk.out _ hmem
              rcases HWx.out with e | ⟨bb, oo, rfl, hbb, hcc⟩
              · exact absurd hqw (by rw [e]; simp)
              obtain ⟨y0, y1⟩ := hcc q hqw
              have hbe : wr.heap[bb]? = w.heap[bb]? := HQ.out.1.blk hbb (HWn.out bb oo rfl (fun e => by rw [e] at hqw; simp at hqw))
              have hce : ∀ o, wr.cell? ⟨bb, o, none⟩ = w.cell? ⟨bb, o, none⟩ := fun o => by simp only [World.cell?, hbe]
              rw [← hce] at y0 y1
              have hbr : bb < wr.heap.size := Nat.lt_of_lt_of_le hbb HQ.out.1.size
              generalize pw.getD q w00 = x at *
              obtain ⟨xa, xD⟩ := x
              simp only at y0 y1
              have HSq := hid (HSu.out.wrs tn (pw.take q))
              have HQJ := hid hq
              have HBL : Hid (∀ V2 w5, RAfB w ft d rm cl cb V2 F #[.string tn, .int .i64 tk, .slice (some ⟨bb, oo, none⟩) PL oc] 24 w5 → w5.cell? ⟨F, 0, none⟩ = some (.string tn) ∧ w5.cell? ⟨F, 2, none⟩ = some (.slice (some ⟨bb, oo, none⟩) PL oc) ∧ w5.cell? ⟨bb, oo + q * 2, none⟩ = some (.int .i64 xa) ∧ w5.cell? ⟨bb, oo + q * 2 + 1, none⟩ = some (.string xD)) := fun V2 w5 h5 => by
                have hb5 : w5.heap[bb]? = wr.heap[bb]? := (h5.1.blk hbb (HWn.out bb oo rfl (fun e => by rw [e] at hqw; simp at hqw))).trans hbe.symm
                refine ⟨(cell_of h5.2).trans rfl, (cell_of h5.2).trans rfl, ?_, ?_⟩
                · rw [← y0]; simp only [World.cell?, hb5]
                · rw [← y1]; simp only [World.cell?, hb5]
              clear hcc hbe hce hbb hmem hqw hq
              go_wp2_with fail
              go_region_held3 (fun x => x.cell? ⟨F, 0, none⟩ = some (.string tn) ∧ x.cell? ⟨F, 2, none⟩ = some (.slice (some ⟨bb, oo, none⟩) PL oc) ∧ x.cell? ⟨bb, oo + q * 2, none⟩ = some (.int .i64 xa) ∧ x.cell? ⟨bb, oo + q * 2 + 1, none⟩ = some (.string xD)) ((first | assumption | exact ⟨by assumption, by assumption, by assumption, by assumption⟩ | go_keep)) ((first | (go_at_call 58; refine ((show RAfB w ft d rm cl cb (wrs rm tn (pw.take q) U2) F #[.string tn, .int .i64 tk, .slice (some ⟨bb, oo, none⟩) PL oc] 24 _ from (by first | exact HQ.out | exact HQ.out.drew)).step (fun f1 h1 _ => rwrite_any d f1 rm cl cb _ tn xa xD _ h1 HSq.out hok) (by decide) (by decide)).mono ?_; rintro e w5 ⟨rfl, hf5⟩; obtain ⟨s0, s1, s2, s3⟩ := HBL.out _ _ hf5)))
              have HF5 : Hid (RAfB w ft d rm cl cb (wrs rm tn (pw.take (q + 1)) U2) F #[.string tn, .int .i64 tk, .slice (some ⟨bb, oo, none⟩) PL oc] 24 w5) := by rw [hWA.out]; exact hf5
              clear hf5 HQ y0 y1 f0 f2 s0 s1 s2 s3 HBL
              go_wp2_with fail
              go_roundg p
              case measure => omega
              case rel => exact ⟨q + 1, by have := HQJ.out; omega, by first | rfl | exact congrArg (Value.int .i64) (by omega), HF5⟩
            · have hlqI : ¬ (q : Int) < PL := by omega
              have HX : Hid (RAft w ft d rm cl cb (hms rm (fs.take (j + 1)) V) wr) := by
                rw [← HE2.out, HM.out]
                have := HQ.out.1
                rw [List.take_of_length_le (by rw [HPL.out]; omega)] at this
                exact this
              clear HQ
              go_wp2_with fail
              go_roundg k'
              case measure => omega
              case rel => exact ⟨j + 1, by have := HJ.out; omega, congrArg (Value.int .i64) (by omega), HX⟩
      · have HE2 : Hid (U = hms rm (fs.take (j + 1)) V) := by show _ = _; rw [HE.out]; unfold hm1; rw [if_neg hg]
        rw [decide_eq_false hg] at HG
        have HX : Hid (RAft w ft d rm cl cb (hms rm (fs.take (j + 1)) V) (wr.alloc (Obj.cells #[.string tn, .int .i64 tk, .slice oa pw.length oc] 24))) := by rw [← HE2.out]; exact HQa.out.1
        clear hg HE HE2 HQa
        go_wp2_with fail
        refine (HG.out _).mono ?_
        rintro e wg ⟨rfl, rfl⟩
        go_wp2_with fail
        go_roundg k'
        case measure => omega
        case rel => exact ⟨j + 1, by have := HJ.out; omega, congrArg (Value.int .i64) (by omega), HX⟩
    · have hltI : ¬ (j : Int) < N := by omega
      have HJ : Hid (fs.take j = fs) := List.take_of_length_le (by rw [← HR.out.1, HN.out]; omega)
      rw [HJ.out] at HQ
      go_wp2_with fail
      go_end0
      exact ⟨rfl, HQ.out⟩
end Go.Proofs.Ythjbhfhdepepmaa
namespace Go.Proofs.Ythjbhfhdepepmaa
open Go.RowKit
set_option maxHeartbeats 4000000 in
set_option maxRecDepth 20000 in
theorem rfate_b (a : Option Addr) (cap : Nat) (ms : List Ft3) (nm : ByteArray) (w : World) (hF : Fts w a ms) (hl : ms.length ≤ 140737488355328) :
    Calls Try.prog 53 #[.slice a ms.length cap, .string nm] w fun e w' => e = .returned (.tuple #[ftS (ff3 ms nm), .bool (ms.find? (fun f => decide (f.1 = nm))).isSome]) ∧ Below w.heap.size w w' := by
  have HF := hid hF
  clear hF
  generalize hN : ms.length = N at *
  have HN := hid hN
  clear hN
  obtain ⟨wz, hwz⟩ : ∃ wz, wz = w.alloc (Obj.cells #[.string ⟨#[]⟩, .int .i64 0, .slice none 0 0] 24) := ⟨_, rfl⟩
  have hFz := heap_new w (Obj.cells #[.string ⟨#[]⟩, .int .i64 0, .slice none 0 0] 24)
  rw [← hwz] at hFz
  have hbz : Below w.heap.size w wz := by rw [hwz]; exact bel_alloc _ _
  have z0 : wz.cell? ⟨w.heap.size, 0, none⟩ = some (.string ⟨#[]⟩) := (cell_of hFz).trans rfl
  have z1 : wz.cell? ⟨w.heap.size, 1, none⟩ = some (.int .i64 0) := (cell_of hFz).trans rfl
  have z2 : wz.cell? ⟨w.heap.size, 2, none⟩ = some (.slice none 0 0) := (cell_of hFz).trans rfl
  have f0 : wz.frozen? ⟨w.heap.size, 0, none⟩ = false := froz_of hFz
  have f1 : wz.frozen? ⟨w.heap.size, 1, none⟩ = false := froz_of hFz
  have f2 : wz.frozen? ⟨w.heap.size, 2, none⟩ = false := froz_of hFz
  have hwz' := hwz.symm
  have HBZ := hid hbz
  have HFZ := hid hFz
  clear hwz hFz hbz
  go_enter Try.func53, Try.ntmps53
  go_wp2_with fail
  go_loopg [6] N (fun k i wr => ∃ j : Nat, j + k = N ∧ i = .int .i64 j ∧ wr = wz ∧ Hid (∀ i, i < j → (ms.getD i t00).1 ≠ nm))
  case atStart => exact ⟨0, by omega, rfl, rfl, fun i hi => by omega⟩
  case round =>
    obtain ⟨j, hk, rfl, rfl, HJ⟩ := hrel
    by_cases hlt : j < N
    · obtain ⟨k, rfl⟩ : ∃ k, gk = k + 1 := ⟨gk - 1, by omega⟩
      have hltD : decide ((j : Int) < N) = true := by simp; omega
      have hltI : (j : Int) < N := by omega
      have EW : Hid (wrap64 ((j : Int) + 1) = ((j + 1 : Nat) : Int)) := by show _ = _; unfold wrap64; omega
      rcases HF.out with rfl | ⟨b, off, rfl, hbl, hcc⟩
      · exact absurd hlt (by rw [← HN.out]; simp)
      have hjm : j < ms.length := by rw [HN.out]; exact hlt
      obtain ⟨q0, q1, q2⟩ := hcc j hjm
      rw [← HBZ.out.cell (p := ⟨b, off + j * 3, none⟩) hbl] at q0
      rw [← HBZ.out.cell (p := ⟨b, off + j * 3 + 1, none⟩) hbl] at q1
      rw [← HBZ.out.cell (p := ⟨b, off + j * 3 + 2, none⟩) hbl] at q2
      by_cases he : (ms.getD j t00).1 = nm
      · have HFD := hid (find_take HJ.out hjm he)
        have te := tq_eq nm
        generalize ms.getD j t00 = T at *
        obtain ⟨tn, tk, oa, on, oc⟩ := T
        simp only [ovS] at q0 q1 q2 he
        subst he
        clear hcc hjm HJ
        go_wp2_with fail
        refine bodyPost_ret (v := .tuple #[ftS (tn, tk, oa, on, oc), .bool true]) ?_ rfl ⟨by unfold ff3; rw [HFD.out]; rfl, ((HBZ.out.setCell (Nat.le_refl _) _).setCell (Nat.le_refl _) _).setCell (Nat.le_refl _) _⟩
        obtain ⟨c0, c1, c2⟩ := set3 (u0 := .string tn) (u1 := .int .i64 tk) (u2 := .slice oa on oc) HFZ.out
        generalize ((wr.setCell ⟨w.heap.size, 0, none⟩ (.string tn)).setCell ⟨w.heap.size, 1, none⟩ (.int .i64 tk)).setCell ⟨w.heap.size, 2, none⟩ (.slice oa on oc) = wc at *
        simp [results, Try.results53, go_sem, ftS, ovS, c0, c1, c2]
      · have te := tq_ne he
        have HJ2 : Hid (∀ i, i < j + 1 → (ms.getD i t00).1 ≠ nm) := by
          intro i hi
          by_cases e : i = j
          · rw [e]; exact he
          · exact HJ.out i (by omega)
        generalize ms.getD j t00 = T at *
        obtain ⟨tn, tk, oa, on, oc⟩ := T
        simp only [ovS] at q0 q1 q2 he te
        clear hcc hjm HJ he
        go_wp2_with fail
        go_roundg k
        case measure => omega
        case rel => exact ⟨j + 1, by omega, by first | exact congrArg (Value.int .i64) EW.out | rfl, rfl, HJ2⟩
    · have hltD : decide ((j : Int) < N) = false := by simp; omega
      have HFD := hid (find_none' (ms := ms) (nm := nm) (fun i hi => HJ.out i (by rw [HN.out] at hi; omega)))
      clear HJ
      go_wp2_with fail
      refine bodyPost_ret (v := .tuple #[ftS t00, .bool false]) ?_ rfl ⟨by unfold ff3; rw [HFD.out]; rfl, ((HBZ.out.setCell (Nat.le_refl _) _).setCell (Nat.le_refl _) _).setCell (Nat.le_refl _) _⟩
      obtain ⟨c0, c1, c2⟩ := set3 (u0 := .string ⟨#[]⟩) (u1 := .int .i64 0) (u2 := .slice none 0 0) HFZ.out
      generalize ((wr.setCell ⟨w.heap.size, 0, none⟩ (.string ⟨#[]⟩)).setCell ⟨w.heap.size, 1, none⟩ (.int .i64 0)).setCell ⟨w.heap.size, 2, none⟩ (.slice none 0 0) = wc at *
      simp [results, Try.results53, go_sem, ftS, ovS, t00, c0, c1, c2]
      try rfl
theorem Fts.take {w : World} {a : Option Addr} {ms : List Ft3} (h : Fts w a ms) (j : Nat) : Fts w a (ms.take j) := by
  rcases h with rfl | ⟨b, off, h1, h2, h3⟩
  · left; simp
  · refine Or.inr ⟨b, off, h1, h2, fun i hi => ?_⟩
    rw [List.length_take] at hi
    have e : (ms.take j).getD i t00 = ms.getD i t00 := by rw [List.getD_eq_getElem?_getD, List.getD_eq_getElem?_getD, List.getElem?_take, if_pos (by omega)]
    rw [e]
    exact h3 i (by omega)
theorem again_iff {ms : List Ft3} {nm : ByteArray} {i j : Nat} (hi : fx (ms.map (·.1)) nm = some i) (hij : i ≤ j) (hj : j < ms.length) : ((ms.take j).find? (fun f => decide (f.1 = nm))).isSome = decide (i < j) := by
  unfold fx at hi
  rw [List.findIdx?_eq_some_iff_getElem] at hi
  obtain ⟨h1, h2, h3⟩ := hi
  rw [List.length_map] at h1
  simp only [List.getElem_map, decide_eq_true_eq] at h2
  by_cases hlt : i < j
  · rw [decide_eq_true hlt, List.find?_isSome]
    exact ⟨ms[i], List.mem_take_iff_getElem.2 ⟨i, by omega, rfl⟩, by simpa using h2⟩
  · rw [decide_eq_false hlt]
    have : (ms.take j).find? (fun f => decide (f.1 = nm)) = none := by
      rw [List.find?_eq_none]
      intro x hx
      obtain ⟨q, hq, rfl⟩ := List.mem_take_iff_getElem.1 hx
      have := h3 q (by omega)
      simpa using this
    rw [this]
    rfl
theorem fitW_no1 {kp : Int} {sy : Nat} {ws : List (Int × ByteArray)} {x : Int × ByteArray} (hm : x ∈ ws) (h : x.1 < sy ∨ kp < x.1 ∨ kp - x.1 < x.2.size) : ws.all (fitW kp sy) = false := by
  rw [List.all_eq_false]
  exact ⟨x, hm, by unfold fitW; rw [decide_eq_false (by omega)]; decide⟩
set_option maxHeartbeats 4000000 in
set_option maxRecDepth 20000 in
theorem rcheck_any (d : Nat) (ft : Nat → Prop) (rm : Nat) (cl cb : Int) (V : Vw) (a : Option Addr) (cap : Nat) (ms : List Ft3) (fs : List Ftp) (w : World) (h : Rs w d ft rm cl cb V) (hs : SV rm V) (hF : Fts w a ms) (hR : Ftw w (fun _ => False) ms fs) (hl : ms.length ≤ 140737488355328) (hcap : ms.length ≤ cap) :
    Calls Try.prog 17 #[.pointer (some ⟨d, 0, none⟩), .slice a ms.length cap] w fun e w' => e = .returned (.int .i64 (chk V fs)) ∧ Below w.heap.size w w' := by
  have HNM : Hid (ms.map (·.1) = fs.map (·.1)) := by
    show _ = _
    apply List.ext_getElem (by simp [hR.1])
    intro i h1 h2
    have h3 : i < fs.length := by simpa using h2
    have := (hR.2 i h3).1
    simp only [List.getElem_map]
    rw [List.getD_eq_getElem?_getD, List.getD_eq_getElem?_getD, List.getElem?_eq_getElem (by simpa using h1), List.getElem?_eq_getElem h3] at this
    exact this
  have HD : Hid (∀ wx, Below w.heap.size w wx → Rs wx d ft rm cl cb V) := fun wx hb => h.kept hb
  have HFw : Hid (∀ wx, Below w.heap.size w wx → Fts wx a ms) := fun wx hb => hF.kept hb
  have HR := hid hR
  have HS := hid hs
  clear h hs hF hR
  generalize hM : ms.length = M at *
  have HM := hid hM
  clear hM
  go_enter Try.func17, Try.ntmps17
  go_wp2_with fail
  go_loopg [5] M (fun k i wr => ∃ j : Nat, j + k = M ∧ i = .int .i64 j ∧ Hid (ckA V fs j = 0) ∧ Hid (Below w.heap.size w wr))
  case atStart => exact ⟨0, by omega, rfl, rfl, Below.refl _ _⟩
  case round =>
    obtain ⟨j, hj, rfl, HC, HB⟩ := hrel
    have hbw : Below w.heap.size w wr := HB.out
    by_cases hlt : j < M
    · obtain ⟨k', rfl⟩ : ∃ k', gk = k' + 1 := ⟨gk - 1, by omega⟩
      have hltI : (j : Int) < M := by omega
      have hjf : j < fs.length := by rw [← HR.out.1, HM.out]; exact hlt
      obtain ⟨r1, r2, r3, r4, _, r6, r7, r8⟩ := HR.out.2 j hjf
      have r4' := r4.kept hbw
      clear r4
      have hFr := HFw.out wr hbw
      have HFT : Hid (∀ wx, Below w.heap.size w wx → Fts wx a (ms.take j)) := fun wx hx => (HFw.out wx hx).take j
      have hjt : (ms.take j).length = j := by rw [List.length_take, HM.out]; omega
      rcases hFr with e | ⟨b, off, rfl, hbl, hc⟩
      · exact absurd hlt (by rw [← HM.out, e]; simp)
      obtain ⟨q0, q1, q2⟩ := hc j (by rw [HM.out]; exact hlt)
      have hnj : (fs.map (·.1))[j]? = some (fs.getD j p00).1 := by rw [List.getElem?_map, List.getElem?_eq_getElem hjf, List.getD_eq_getElem?_getD, List.getElem?_eq_getElem hjf]; rfl
      have HE : Hid (ck1 V fs j = ckc V (fs.map (·.1)) j (fs.getD j p00)) := rfl
      generalize fs.getD j p00 = P at *
      generalize ms.getD j t00 = T at *
      obtain ⟨pn, pk, pw⟩ := P
      obtain ⟨tn, tk, oa, on, oc⟩ := T
      simp only [ovS] at r1 r2 r3 r6 r7 r8 q0 q1 q2 r4' hnj
      subst r1 r2 r3
      have HG := hid (fun wx => rgood_any tn wx)
      have HJ := hid hj
      obtain ⟨i0, hi0, hij⟩ := fx_has hnj
      have HAG : Hid (((ms.take j).find? (fun f => decide (f.1 = tn))).isSome = decide (i0 < j)) := again_iff (by rw [HNM.out]; exact hi0) hij (by rw [HM.out]; exact hlt)
      obtain ⟨wa, hwa⟩ : ∃ wa, wa = wr.alloc (Obj.cells #[.string tn, .int .i64 tk, .slice oa pw.length oc] 24) := ⟨_, rfl⟩
      have hFn := heap_new wr (Obj.cells #[.string tn, .int .i64 tk, .slice oa pw.length oc] 24)
      rw [← hwa] at hFn
      have hba : Below wr.heap.size wr wa := by rw [hwa]; exact bel_alloc _ _
      have f0 : wa.cell? ⟨wr.heap.size, 0, none⟩ = some (.string tn) := (cell_of hFn).trans rfl
      have f1 : wa.cell? ⟨wr.heap.size, 1, none⟩ = some (.int .i64 tk) := (cell_of hFn).trans rfl
      have f2 : wa.cell? ⟨wr.heap.size, 2, none⟩ = some (.slice oa pw.length oc) := (cell_of hFn).trans rfl
      have HBw : Hid (Below w.heap.size w wa) := hbw.trans (hba.mono hbw.size)
      have HSz := hid (fun k => q_size (nm := tn) (HD.out (wa.drewN k) (drewN_bel' HBw.out k)) HS.out)
      have HSy := hid (fun k => q_synced (nm := tn) (HD.out (wa.drewN k) (drewN_bel' HBw.out k)) HS.out)
      obtain ⟨T2, hT2⟩ : ∃ T2, ff3 (ms.take j) tn = T2 := ⟨_, rfl⟩
      obtain ⟨yn, yk, yo, yN, yc⟩ := T2
      have FT : Hid (∀ x, Below wa.heap.size wa x → Calls Try.prog 53 #[.slice (some ⟨b, off, none⟩) j cap, .string tn] x fun e w' => e = .returned (.tuple #[.agg #[.string yn, .int .i64 yk, .slice yo yN yc], .bool (decide (i0 < j))]) ∧ Below x.heap.size x w' ∧ Below wa.heap.size wa w') := fun x hx => by
        have := rfate_b (some ⟨b, off, none⟩) cap (ms.take j) tn x (HFT.out _ (HBw.out.trans (hx.mono HBw.out.size))) (by rw [hjt]; omega)
        rw [hjt, HAG.out, hT2] at this
        refine this.mono ?_
        rintro e w' ⟨he, hb⟩
        exact ⟨he, hb, hx.trans (hb.mono hx.size)⟩
      have KC : Hid (∀ x, Below wa.heap.size wa x → x.cell? ⟨wr.heap.size, 0, none⟩ = some (.string tn) ∧ x.cell? ⟨wr.heap.size, 1, none⟩ = some (.int .i64 tk) ∧ x.cell? ⟨wr.heap.size, 2, none⟩ = some (.slice oa pw.length oc)) := fun x hx => by
        have hh := (hx.block _ (lt_of_heap hFn)).trans hFn
        exact ⟨(cell_of hh).trans rfl, (cell_of hh).trans rfl, (cell_of hh).trans rfl⟩
      have HDr : Hid (∀ k, Below wa.heap.size wa (wa.drewN k).drew) := fun k => (bel_drewN wa k).drew
      have hwal : wr.heap.size < wa.heap.size := lt_of_heap hFn
      have hwne : ¬ wr.heap.size = wa.heap.size := by omega
      have hwne2 : ¬ wa.heap.size = wr.heap.size := by omega
      have HDr3 : Hid (∀ k o, Below wa.heap.size wa ((wa.drewN k).alloc o)) := fun k o => (bel_drewN wa k).alloc (Nat.le_refl _) o
      have HDr2 : Hid (∀ k, Below wa.heap.size wa (wa.drewN k)) := fun k => bel_drewN wa k
      have HWr0 : Hid (Wrs wr oa pw) := r4'
      have HWr : Hid (Wrs wa oa pw) := r4'.kept hba
      have HFN := hid hFn
      have HBA := hid hba
      have hwa' := hwa.symm
      have HIJ := hid hij
      have HI0 := hid hi0
      have HJF := hid hjf
      have hjc : j ≤ cap := by omega
      clear hc hbl hj HB hbw r4' hba hFn hwa hjf hnj hij hi0 hjt hT2
      by_cases hg : 1 ≤ tn.size ∧ tn.size ≤ 255
      · rw [decide_eq_true hg] at HG
        cases hv : vl tn V with
        | none =>
          have HE2 : Hid (chk V fs = 4) := chk_stop HC.out (by rw [HE.out]; unfold ckc; rw [if_pos hg]; simp only [hv]) (by decide) HJF.out
          rw [hv] at HSz
          simp only [szN, noE] at HSz
          clear hv hg HE hlt
          go_wp2_with (first | (go_at_call 50; refine (HG.out _).mono ?_; rintro e w2 ⟨rfl, rfl⟩) | (go_at_call 51; refine (HSz.out 0).mono ?_; rintro e w3 ⟨rfl, k3, rfl⟩) | (go_at_call 52; refine (HSy.out _).mono ?_; rintro e w4 ⟨rfl, k4, rfl⟩) | (go_at_call 53; refine (FT.out _).mono ?_; rintro e w5 ⟨rfl, hb5⟩; have HB5 := hid hb5; clear hb5))
          go_ret
          exact ⟨by rw [HE2.out]; rfl, drewN_bel' HBw.out _⟩
        | some x =>
          obtain ⟨X, sy⟩ := x
          have hmv := vl_memL hv
          have hlg := (HS.out.lng _ hmv).2
          have hck : ck1 V fs j = if fx (fs.map (·.1)) tn = some j ∧ fitB tk pw sy X.length = true then 0 else 31 := by rw [HE.out]; unfold ckc; rw [if_pos hg]; simp only [hv]
          rw [HI0.out] at hck
          rw [hv] at HSz HSy
          simp only [szN, noE, syN] at HSz HSy hlg
          clear hv hmv
          go_wp2_with (first | (go_at_call 50; refine (HG.out _).mono ?_; rintro e w2 ⟨rfl, rfl⟩) | (go_at_call 51; refine (HSz.out 0).mono ?_; rintro e w3 ⟨rfl, k3, rfl⟩) | (go_at_call 52; refine (HSy.out _).mono ?_; rintro e w4 ⟨rfl, k4, rfl⟩))
          go_cut [12] (fun c wc => c = .bool (decide (i0 < j)) ∧ Hid (∃ WA, Below wr.heap.size wr WA ∧ Below w.heap.size w WA ∧ Below WA.heap.size WA wc ∧ WA.cell? ⟨wr.heap.size, 0, none⟩ = some (.string tn) ∧ WA.cell? ⟨wr.heap.size, 1, none⟩ = some (.int .i64 tk) ∧ WA.cell? ⟨wr.heap.size, 2, none⟩ = some (.slice oa pw.length oc) ∧ wr.heap.size < WA.heap.size))
          case first =>
            go_region_held3 (fun x => x.cell? ⟨wr.heap.size, 0, none⟩ = some (.string tn) ∧ x.cell? ⟨wr.heap.size, 1, none⟩ = some (.int .i64 tk) ∧ x.cell? ⟨wr.heap.size, 2, none⟩ = some (.slice oa pw.length oc)) ((first | assumption | exact ⟨by assumption, by assumption, by assumption⟩ | go_keep)) ((first | (go_at_call 53; refine (FT.out _ (by first | exact HDr.out _ | exact HDr2.out _ | exact HDr3.out _ _)).mono ?_; rintro e w5 ⟨rfl, hb4, hb5⟩; have HBz := hid hb5; obtain ⟨s0, s1, s2⟩ := KC.out _ hb5; first | (have bx := (hb4.block _ (lt_of_heap (heap_new _ _))).trans (heap_new _ _); have bx0 : _ = some (Value.string ⟨#[]⟩) := (cell_of (i := 0) bx).trans rfl; have bx1 : _ = some (Value.int .i64 0) := (cell_of (i := 1) bx).trans rfl; have bx2 : _ = some (Value.slice none 0 0) := (cell_of (i := 2) bx).trans rfl; have bf0 := froz_of (i := 0) bx; have bf1 := froz_of (i := 1) bx; have bf2 := froz_of (i := 2) bx; have bfl := lt_of_heap bx; (try simp only [World.heap_drewN] at bx0 bx1 bx2 bf0 bf1 bf2 bfl)) | skip)))
            all_goals
              go_wp2
              go_meet
              case rel => refine ⟨rfl, _, HBA.out, HBw.out, ?_, (KC.out _ (Below.refl _ _)).1, (KC.out _ (Below.refl _ _)).2.1, (KC.out _ (Below.refl _ _)).2.2, hwal⟩; first | exact ((HBz.out.setCell (Nat.le_refl _) _).setCell (Nat.le_refl _) _).setCell (Nat.le_refl _) _ | exact HBz.out.alloc HBz.out.size _ | exact (((HBz.out.alloc HBz.out.size _).setCell HBz.out.size _).setCell HBz.out.size _).setCell HBz.out.size _
          case rest =>
            obtain ⟨rfl, HX⟩ := hcut
            obtain ⟨WA, hB1, hB2, hB3, e0, e1, e2, hwl⟩ := HX.out
            have f0 := (hB3.cell (p := ⟨wr.heap.size, 0, none⟩) hwl).trans e0
            have f1 := (hB3.cell (p := ⟨wr.heap.size, 1, none⟩) hwl).trans e1
            have f2 := (hB3.cell (p := ⟨wr.heap.size, 2, none⟩) hwl).trans e2
            have HBc : Hid (Below w.heap.size w wc) := hB2.trans (hB3.mono hB2.size)
            have HWc : Hid (Wrs wc oa pw) := (HWr0.out.kept hB1).kept hB3
            have HPL : Hid (wr.heap.size < wc.heap.size) := Nat.lt_of_lt_of_le hwl hB3.size
            clear HX hB1 hB2 hB3 e0 e1 e2 hwl HWr HWr0 KC FT HDr HDr2 HDr3 HSz HSy hwa' hwal hwne hwne2 HFN HBA HBw HAG HFT HG
            by_cases hij : i0 < j
            · have HE2 : Hid (chk V fs = 31) := chk_stop HC.out (by rw [hck, if_neg (fun h => by have := h.1; injection this with this; omega)]) (by decide) HJF.out
              rw [decide_eq_true hij]
              clear hck hij
              go_wp2_with fail
              go_ret
              exact ⟨by rw [HE2.out]; rfl, HBc.out⟩
            have hij2 : i0 = j := by have := HIJ.out; omega
            rw [decide_eq_false hij]
            by_cases hk1 : tk < (sy : Int)
            · have HE2 : Hid (chk V fs = 31) := chk_stop HC.out (by rw [hck, if_neg (fun h => by have := h.2; unfold fitB at this; rw [decide_eq_false (by omega)] at this; simp at this)]) (by decide) HJF.out
              clear hck hij hij2
              go_wp2_with fail
              go_ret
              exact ⟨by rw [HE2.out]; rfl, HBc.out⟩
            by_cases hk2 : (X.length : Int) < tk
            · have HE2 : Hid (chk V fs = 31) := chk_stop HC.out (by rw [hck, if_neg (fun h => by have := h.2; unfold fitB at this; rw [decide_eq_false (by omega)] at this; simp at this)]) (by decide) HJF.out
              clear hck hij hij2
              go_wp2_with fail
              go_ret
              exact ⟨by rw [HE2.out]; rfl, HBc.out⟩
            have HCK : Hid (ck1 V fs j = if pw.all (fitW tk sy) = true then 0 else 31) := by
              show _ = _
              rw [hck, hij2]
              have : fitB tk pw sy X.length = pw.all (fitW tk sy) := by unfold fitB; rw [decide_eq_true (by omega), Bool.true_and]
              rw [this]
              by_cases hall : pw.all (fitW tk sy) = true
              · rw [if_pos ⟨rfl, hall⟩, if_pos hall]
              · rw [if_neg (fun h => hall h.2), if_neg hall]
            clear hck hij hij2
            generalize hpl : pw.length = PL at *
            have HPN := hid hpl
            clear hpl
            generalize wr.heap.size = P0 at *
            have hplI : (PL : Int) ≤ 140737488355328 := by omega
            have hsyI : sy ≤ 1099511627776 := by omega
            have htkI : tk ≤ 1099511627776 := by omega
            go_wp2_with fail
            have HFB : Hid (∀ x, Below wc.heap.size wc x → x.cell? ⟨P0, 0, none⟩ = some (.string tn) ∧ x.cell? ⟨P0, 1, none⟩ = some (.int .i64 tk) ∧ x.cell? ⟨P0, 2, none⟩ = some (.slice oa PL oc)) := fun x hx => ⟨(hx.cell (p := ⟨P0, 0, none⟩) HPL.out).trans f0, (hx.cell (p := ⟨P0, 1, none⟩) HPL.out).trans f1, (hx.cell (p := ⟨P0, 2, none⟩) HPL.out).trans f2⟩
            clear f0 f1 f2
            go_loopg [13] PL (fun p i wx => ∃ q : Nat, q + p = PL ∧ i = .int .i64 q ∧ Hid ((pw.take q).all (fitW tk sy) = true) ∧ Hid (Below wc.heap.size wc wx))
            case atStart => exact ⟨0, by omega, rfl, rfl, Below.refl _ _⟩
            case round =>
              obtain ⟨q, hq, rfl, HA, HB⟩ := hrel
              obtain ⟨f0, f1, f2⟩ := HFB.out _ HB.out
              have hpr : P0 < wr.heap.size := Nat.lt_of_lt_of_le HPL.out HB.out.size
              by_cases hlq : q < PL
              · obtain ⟨p, rfl⟩ : ∃ p, gk = p + 1 := ⟨gk - 1, by omega⟩
                have hlqI : (q : Int) < PL := by omega
                have hqw : q < pw.length := by rw [HPN.out]; exact hlq
                have hT : (pw.take (q + 1)).all (fitW tk sy) = ((pw.take q).all (fitW tk sy) && fitW tk sy (pw.getD q w00)) := by
                  rw [List.take_succ_eq_append_getElem hqw, List.all_append, List.getD_eq_getElem?_getD, List.getElem?_eq_getElem hqw]
                  simp
                have hmem : pw.getD q w00 ∈ pw := by rw [List.getD_eq_getElem?_getD, List.getElem?_eq_getElem hqw]; exact List.getElem_mem _
                have hO := r8 _ hmem
                rcases HWc.out.kept HB.out with e | ⟨bb, oo, rfl, hbb, hcc⟩
                · exact absurd hqw (by rw [e]; simp)
                obtain ⟨y0, y1⟩ := hcc q hqw
                generalize pw.getD q w00 = x at *
                obtain ⟨xa, xD⟩ := x
                simp only at y0 y1
                unfold WrOk at hO
                simp only at hO
                have HBl := hid (HB.out.alloc HB.out.size (.cells #[.int .i64 xa, .string xD] 69))
                have HJq := hid hq
                clear hcc
                by_cases h3 : xa < sy
                · have HF : Hid (pw.all (fitW tk sy) = false) := fitW_no1 hmem (by simp only; omega)
                  have HE2 : Hid (chk V fs = 31) := chk_stop HC.out (by rw [HCK.out, HF.out]; rfl) (by decide) HJF.out
                  clear hmem
                  go_wp2_with fail
                  go_ret
                  exact ⟨by rw [HE2.out]; rfl, HBc.out.trans (HBl.out.mono HBc.out.size)⟩
                by_cases h4 : tk < xa
                · have HF : Hid (pw.all (fitW tk sy) = false) := fitW_no1 hmem (by simp only; omega)
                  have HE2 : Hid (chk V fs = 31) := chk_stop HC.out (by rw [HCK.out, HF.out]; rfl) (by decide) HJF.out
                  clear hmem
                  go_wp2_with fail
                  go_ret
                  exact ⟨by rw [HE2.out]; rfl, HBc.out.trans (HBl.out.mono HBc.out.size)⟩
                by_cases h5 : tk - xa < xD.size
                · have HF : Hid (pw.all (fitW tk sy) = false) := fitW_no1 hmem (by simp only; omega)
                  have HE2 : Hid (chk V fs = 31) := chk_stop HC.out (by rw [HCK.out, HF.out]; rfl) (by decide) HJF.out
                  clear hmem
                  go_wp2_with fail
                  go_ret
                  exact ⟨by rw [HE2.out]; rfl, HBc.out.trans (HBl.out.mono HBc.out.size)⟩
                have HT : Hid ((pw.take (q + 1)).all (fitW tk sy) = true) := by
                  show _ = _
                  rw [hT, HA.out]
                  unfold fitW
                  simp only
                  rw [decide_eq_true (by omega)]
                  rfl
                clear hT hmem
                go_wp2_with fail
                go_roundg p
                case measure => omega
                case rel => exact ⟨q + 1, by have := HJq.out; omega, by first | rfl | exact congrArg (Value.int .i64) (by omega), HT, HBl⟩
              · have hlqI : ¬ (q : Int) < PL := by omega
                have HF : (pw.all (fitW tk sy) = true) := by
                  have := HA.out
                  rw [List.take_of_length_le (by rw [HPN.out]; omega)] at this
                  exact this
                have HN : Hid (ckA V fs (j + 1) = 0) := by show _ = _; rw [ckA, if_pos HC.out, HCK.out, if_pos HF]
                have HBe : Hid (Below w.heap.size w wr) := HBc.out.trans (HB.out.mono HBc.out.size)
                clear HF
                go_wp2_with fail
                go_roundg k'
                case measure => omega
                case rel => exact ⟨j + 1, by have := HJ.out; omega, congrArg (Value.int .i64) (by omega), HN, HBe⟩
      · have HE2 : Hid (chk V fs = 3) := chk_stop HC.out (by rw [HE.out]; unfold ckc; rw [if_neg hg]) (by decide) HJF.out
        rw [decide_eq_false hg] at HG
        clear hg HE hlt
        go_wp2_with (go_at_call 50; refine (HG.out _).mono ?_; rintro e w2 ⟨rfl, rfl⟩)
        go_ret
        exact ⟨by rw [HE2.out]; rfl, HBw.out⟩
    · have hltI : ¬ (j : Int) < M := by omega
      have HJ : Hid (chk V fs = 0) := by
        have : j = fs.length := by rw [← HR.out.1, HM.out]; omega
        show chk V fs = 0
        unfold chk
        rw [← this]
        exact HC.out
      go_wp2_with fail
      go_ret
      exact ⟨by rw [HJ.out]; rfl, hbw⟩
end Go.Proofs.Ythjbhfhdepepmaa
namespace Go.Proofs.Ythjbhfhdepepmaa
open Go.RowKit
theorem fcell_one (x : ByteArray × Int) : ∀ u ∈ fcell x, u.oneCell' = true := by
  intro u hu
  simp only [fcell, List.mem_cons, List.not_mem_nil, or_false] at hu
  rcases hu with rfl | rfl | rfl <;> rfl
set_option maxHeartbeats 4000000 in
set_option maxRecDepth 20000 in
theorem rleast_any (d : Nat) (ft : Nat → Prop) (rm : Nat) (cl cb : Int) (V : Vw) (w : World) (h : Rs w d ft rm cl cb V) (hs : SV rm V) :
    Calls Try.prog 20 #[.pointer (some ⟨d, 0, none⟩)] w fun e w' => ∃ v, e = .returned v ∧ w'.ownsRow w.heap.size 24 3 v V.length (fcs (lst V)) ∧ Below w.heap.size w w' := by
  obtain ⟨i0, hi, hz0, hz1, hz2⟩ := info_parts Try.infoFt
  obtain ⟨fl, hk, rfl⟩ := h
  have hcn := hs.cnt
  have hdl : d < w.heap.size := lt_of_heap hk.blk
  have HK := hid hk
  obtain ⟨al, capl, rfl⟩ := hk.len
  have hk1 := hk.c1
  have HC1 : Hid (∀ wx, Below w.heap.size w wx → wx.cell? ⟨d, 1, none⟩ = some (.slice al V.length capl)) := fun wx hx => (hx.cell (p := ⟨d, 1, none⟩) hdl).trans hk1
  clear hk hk1 hs
  generalize hN : V.length = N at *
  have HN := hid hN
  clear hN
  go_enter Try.func20, Try.ntmps20
  go_wp2_with fail
  go_loopg [3, 4] N (fun k o i wr => ∃ j : Nat, j + k = N ∧ i = .int .i64 j ∧ Hid (wr.ownsRow w.heap.size 24 3 o j (fcs ((lst V).take j))) ∧ Hid (Below w.heap.size w wr))
  case atStart => exact ⟨0, by omega, rfl, World.ownsRow_nil _ _ _ _, Below.refl _ _⟩
  case round =>
    obtain ⟨j, hj, rfl, HO, HB⟩ := hrel
    have c1 := HC1.out _ HB.out
    have hdr : d < wr.heap.size := Nat.lt_of_lt_of_le hdl HB.out.size
    by_cases hlt : j < N
    · obtain ⟨k', rfl⟩ : ∃ k', gk = k' + 1 := ⟨gk - 1, by omega⟩
      have hltI : (j : Int) < N := by omega
      have hjV : j < V.length := by rw [HN.out]; exact hlt
      have hlx : (lst V).take (j + 1) = (lst V).take j ++ [((V.getD j x0p).1, ((V.getD j x0p).2.2 : Int))] := by
        have hl : j < (lst V).length := by unfold lst; rw [List.length_map]; exact hjV
        have e9 : (lst V)[j] = ((V.getD j x0p).1, ((V.getD j x0p).2.2 : Int)) := by
          rw [List.getD_eq_getElem?_getD, List.getElem?_eq_getElem hjV]
          simp [lst]
        rw [List.take_succ_eq_append_getElem hl, e9]
      have hsp : V = V.take j ++ V.getD j x0p :: V.drop (j + 1) := by
        rw [List.getD_eq_getElem?_getD, List.getElem?_eq_getElem hjV, Option.getD_some, List.getElem_cons_drop, List.take_append_drop]
      have hlj : (V.take j).length = j := by rw [List.length_take]; omega
      rcases HK.out.form with ⟨_, e2⟩ | ⟨g, cap', e, hcl, hfz, hgd⟩
      · rw [e2] at hjV; simp at hjV
      have hgl : g < w.heap.size := by
        have := HK.out.row.lt g (by rw [e]; rfl)
        exact this.2
      injection e with e1 e2 e3
      subst e1 e3
      have hrow : ∀ k, k < 3 → w.cell? ⟨g, j * 3 + k, none⟩ = (rfc (V.getD j x0p))[k]? := fun k hk => by
        rw [hcl _ (by omega)]
        conv => lhs; rw [hsp]
        have := rfs_at (V.take j) (V.drop (j + 1)) (V.getD j x0p) k hk
        rw [hlj] at this
        exact this
      have p0 : w.cell? ⟨g, j * 3, none⟩ = some (.string (V.getD j x0p).1) := hrow 0 (by omega)
      have p1 : w.cell? ⟨g, j * 3 + 1, none⟩ = some (.string (ba (V.getD j x0p).2.1)) := hrow 1 (by omega)
      have p2 : w.cell? ⟨g, j * 3 + 2, none⟩ = some (.int .i64 (V.getD j x0p).2.2) := hrow 2 (by omega)
      have HLX := hid hlx
      clear hlx hsp hrow hcl hfz
      generalize V.getD j x0p = x at *
      obtain ⟨nm, X, sy⟩ := x
      simp only at p0 p1 p2 HLX
      have hba := size_ba X
      have HC : Hid (∀ wx, Below w.heap.size w wx → wx.cell? ⟨d, 1, none⟩ = some (.slice (some ⟨g, 0, none⟩) N capl) ∧ wx.cell? ⟨g, j * 3, none⟩ = some (.string nm) ∧ wx.cell? ⟨g, j * 3 + 1, none⟩ = some (.string (ba X)) ∧ wx.cell? ⟨g, j * 3 + 2, none⟩ = some (.int .i64 sy)) := fun wx hx =>
        ⟨HC1.out wx hx, (hx.cell (p := ⟨g, j * 3, none⟩) hgl).trans p0, (hx.cell (p := ⟨g, j * 3 + 1, none⟩) hgl).trans p1, (hx.cell (p := ⟨g, j * 3 + 2, none⟩) hgl).trans p2⟩
      obtain ⟨_, q0, q1, q2⟩ := HC.out _ HB.out
      have hgr : g < wr.heap.size := Nat.lt_of_lt_of_le hgl HB.out.size
      have HJ := hid hj
      have hL : (fcs ((lst V).take j)).length = j * 3 := by rw [fcs_len, List.length_take]; unfold lst; rw [List.length_map]; congr 1; omega
      clear p0 p1 p2 hj hjV
      go_wp2_with fail
      obtain ⟨wB, hwB⟩ : ∃ wB, wB = wr.drew.alloc (Obj.cells #[.string nm, .int .i64 sy, .slice none 0 0] 24) := ⟨_, rfl⟩
      have HOB : Hid (wB.ownsRow w.heap.size 24 3 u3 j (fcs ((lst V).take j))) := by
        rw [hwB]
        have h1 : wr.drew.ownsRow w.heap.size 24 3 u3 j (fcs ((lst V).take j)) := HO.out
        exact h1.alloc _
      have HNB : Hid (∀ k u, (fcell (nm, (sy : Int)))[k]? = some u → wB.cell? ((⟨wr.heap.size, 0, none⟩ : Addr).add k) = some u) := by
        rw [hwB]
        exact World.news_of_block (heap_new wr.drew _)
      have HBB : Hid (Below w.heap.size w wB) := by
        rw [hwB]
        exact HB.out.drew.alloc HB.out.size _
      have hgo := hwB.symm
      have HO1 : Hid (∀ g, u3.ownBlock = some g → w.heap.size ≤ g) := fun g hg => (HO.out.lt g hg).1
      clear hwB
      obtain ⟨z0, z1, z2, z3⟩ := HC.out _ HBB.out
      go_region_held3 (fun x => x.cell? ⟨d, 1, none⟩ = some (.slice (some ⟨g, 0, none⟩) N capl) ∧ x.cell? ⟨g, j * 3, none⟩ = some (.string nm) ∧ x.cell? ⟨g, j * 3 + 1, none⟩ = some (.string (ba X)) ∧ x.cell? ⟨g, j * 3 + 2, none⟩ = some (.int .i64 sy)) ((first | assumption | exact ⟨by assumption, by assumption, by assumption, by assumption⟩ | go_keep)) ((refine step_append_lies _ (by rfl) _ _ 37 (by rfl) w.heap.size 24 i0 (.agg #[.string ⟨#[]⟩, .int .i64 0, .slice none 0 0]) 3 48 Try.underlying37 hi hz0 hz1 hz2 rfl (by decide) u3 j (fcs ((lst V).take j)) (by simp [Act.eval]) HOB.out ⟨wr.heap.size, 0, none⟩ 1 1 (fcell (nm, (sy : Int))) (by simp [Act.eval]) rfl HNB.out (fcell_one _) (by omega) (by unfold maxLen; omega) (by omega) HBB.out.size _ rfl ?_; intro g2 cap2 w1 hown hgrow hat hlt2; have hbel := HBB.out.grown hgrow HBB.out.size HO1.out; obtain ⟨d0, d1, d2, d3⟩ := HC.out _ hbel))
      go_wp2_with fail
      go_roundg k'
      case measure => omega
      case rel => exact ⟨j + 1, by have := HJ.out; omega, congrArg (Value.int .i64) (by omega), by show w1.ownsRow _ _ _ _ _ _; rw [HLX.out, fcs_app]; first | exact hown | (rw [hba] at hown; exact hown), hbel⟩
    · have hltI : ¬ (j : Int) < N := by omega
      have e : (lst V).take j = lst V := List.take_of_length_le (by unfold lst; rw [List.length_map, HN.out]; omega)
      have ej : j = N := by omega
      rw [e] at HO
      subst ej
      go_wp2_with fail
      go_ret
      exact ⟨_, rfl, HO.out, HB.out⟩
set_option maxHeartbeats 4000000 in
set_option maxRecDepth 20000 in
theorem rmost_any (d : Nat) (ft : Nat → Prop) (rm : Nat) (cl cb : Int) (V : Vw) (w : World) (h : Rs w d ft rm cl cb V) (hs : SV rm V) :
    Calls Try.prog 22 #[.pointer (some ⟨d, 0, none⟩)] w fun e w' => ∃ v, e = .returned v ∧ w'.ownsRow w.heap.size 24 3 v V.length (fcs (mst V)) ∧ Below w.heap.size w w' := by
  obtain ⟨i0, hi, hz0, hz1, hz2⟩ := info_parts Try.infoFt
  obtain ⟨fl, hk, rfl⟩ := h
  have hcn := hs.cnt
  have hdl : d < w.heap.size := lt_of_heap hk.blk
  have HK := hid hk
  obtain ⟨al, capl, rfl⟩ := hk.len
  have hk1 := hk.c1
  have HC1 : Hid (∀ wx, Below w.heap.size w wx → wx.cell? ⟨d, 1, none⟩ = some (.slice al V.length capl)) := fun wx hx => (hx.cell (p := ⟨d, 1, none⟩) hdl).trans hk1
  clear hk hk1 hs
  generalize hN : V.length = N at *
  have HN := hid hN
  clear hN
  go_enter Try.func22, Try.ntmps22
  go_wp2_with fail
  go_loopg [3, 4] N (fun k o i wr => ∃ j : Nat, j + k = N ∧ i = .int .i64 j ∧ Hid (wr.ownsRow w.heap.size 24 3 o j (fcs ((mst V).take j))) ∧ Hid (Below w.heap.size w wr))
  case atStart => exact ⟨0, by omega, rfl, World.ownsRow_nil _ _ _ _, Below.refl _ _⟩
  case round =>
    obtain ⟨j, hj, rfl, HO, HB⟩ := hrel
    have c1 := HC1.out _ HB.out
    have hdr : d < wr.heap.size := Nat.lt_of_lt_of_le hdl HB.out.size
    by_cases hlt : j < N
    · obtain ⟨k', rfl⟩ : ∃ k', gk = k' + 1 := ⟨gk - 1, by omega⟩
      have hltI : (j : Int) < N := by omega
      have hjV : j < V.length := by rw [HN.out]; exact hlt
      have hlx : (mst V).take (j + 1) = (mst V).take j ++ [((V.getD j x0p).1, ((V.getD j x0p).2.1.length : Int))] := by
        have hl : j < (mst V).length := by unfold mst; rw [List.length_map]; exact hjV
        have e9 : (mst V)[j] = ((V.getD j x0p).1, ((V.getD j x0p).2.1.length : Int)) := by
          rw [List.getD_eq_getElem?_getD, List.getElem?_eq_getElem hjV]
          simp [mst]
        rw [List.take_succ_eq_append_getElem hl, e9]
      have hsp : V = V.take j ++ V.getD j x0p :: V.drop (j + 1) := by
        rw [List.getD_eq_getElem?_getD, List.getElem?_eq_getElem hjV, Option.getD_some, List.getElem_cons_drop, List.take_append_drop]
      have hlj : (V.take j).length = j := by rw [List.length_take]; omega
      rcases HK.out.form with ⟨_, e2⟩ | ⟨g, cap', e, hcl, hfz, hgd⟩
      · rw [e2] at hjV; simp at hjV
      have hgl : g < w.heap.size := by
        have := HK.out.row.lt g (by rw [e]; rfl)
        exact this.2
      injection e with e1 e2 e3
      subst e1 e3
      have hrow : ∀ k, k < 3 → w.cell? ⟨g, j * 3 + k, none⟩ = (rfc (V.getD j x0p))[k]? := fun k hk => by
        rw [hcl _ (by omega)]
        conv => lhs; rw [hsp]
        have := rfs_at (V.take j) (V.drop (j + 1)) (V.getD j x0p) k hk
        rw [hlj] at this
        exact this
      have p0 : w.cell? ⟨g, j * 3, none⟩ = some (.string (V.getD j x0p).1) := hrow 0 (by omega)
      have p1 : w.cell? ⟨g, j * 3 + 1, none⟩ = some (.string (ba (V.getD j x0p).2.1)) := hrow 1 (by omega)
      have p2 : w.cell? ⟨g, j * 3 + 2, none⟩ = some (.int .i64 (V.getD j x0p).2.2) := hrow 2 (by omega)
      have HLX := hid hlx
      clear hlx hsp hrow hcl hfz
      generalize V.getD j x0p = x at *
      obtain ⟨nm, X, sy⟩ := x
      simp only at p0 p1 p2 HLX
      have hba := size_ba X
      have HC : Hid (∀ wx, Below w.heap.size w wx → wx.cell? ⟨d, 1, none⟩ = some (.slice (some ⟨g, 0, none⟩) N capl) ∧ wx.cell? ⟨g, j * 3, none⟩ = some (.string nm) ∧ wx.cell? ⟨g, j * 3 + 1, none⟩ = some (.string (ba X)) ∧ wx.cell? ⟨g, j * 3 + 2, none⟩ = some (.int .i64 sy)) := fun wx hx =>
        ⟨HC1.out wx hx, (hx.cell (p := ⟨g, j * 3, none⟩) hgl).trans p0, (hx.cell (p := ⟨g, j * 3 + 1, none⟩) hgl).trans p1, (hx.cell (p := ⟨g, j * 3 + 2, none⟩) hgl).trans p2⟩
      obtain ⟨_, q0, q1, q2⟩ := HC.out _ HB.out
      have hgr : g < wr.heap.size := Nat.lt_of_lt_of_le hgl HB.out.size
      have HJ := hid hj
      have hL : (fcs ((mst V).take j)).length = j * 3 := by rw [fcs_len, List.length_take]; unfold mst; rw [List.length_map]; congr 1; omega
      clear p0 p1 p2 hj hjV
      go_wp2_with fail
      obtain ⟨wB, hwB⟩ : ∃ wB, wB = wr.drew.alloc (Obj.cells #[.string nm, .int .i64 X.length, .slice none 0 0] 24) := ⟨_, rfl⟩
      have HOB : Hid (wB.ownsRow w.heap.size 24 3 u3 j (fcs ((mst V).take j))) := by
        rw [hwB]
        have h1 : wr.drew.ownsRow w.heap.size 24 3 u3 j (fcs ((mst V).take j)) := HO.out
        exact h1.alloc _
      have HNB : Hid (∀ k u, (fcell (nm, (X.length : Int)))[k]? = some u → wB.cell? ((⟨wr.heap.size, 0, none⟩ : Addr).add k) = some u) := by
        rw [hwB]
        exact World.news_of_block (heap_new wr.drew _)
      have HBB : Hid (Below w.heap.size w wB) := by
        rw [hwB]
        exact HB.out.drew.alloc HB.out.size _
      have hgo := hwB.symm
      have HO1 : Hid (∀ g, u3.ownBlock = some g → w.heap.size ≤ g) := fun g hg => (HO.out.lt g hg).1
      clear hwB
      obtain ⟨z0, z1, z2, z3⟩ := HC.out _ HBB.out
      go_region_held3 (fun x => x.cell? ⟨d, 1, none⟩ = some (.slice (some ⟨g, 0, none⟩) N capl) ∧ x.cell? ⟨g, j * 3, none⟩ = some (.string nm) ∧ x.cell? ⟨g, j * 3 + 1, none⟩ = some (.string (ba X)) ∧ x.cell? ⟨g, j * 3 + 2, none⟩ = some (.int .i64 sy)) ((first | assumption | exact ⟨by assumption, by assumption, by assumption, by assumption⟩ | go_keep)) ((refine step_append_lies _ (by rfl) _ _ 37 (by rfl) w.heap.size 24 i0 (.agg #[.string ⟨#[]⟩, .int .i64 0, .slice none 0 0]) 3 48 Try.underlying37 hi hz0 hz1 hz2 rfl (by decide) u3 j (fcs ((mst V).take j)) (by simp [Act.eval]) HOB.out ⟨wr.heap.size, 0, none⟩ 1 1 (fcell (nm, (X.length : Int))) (by simp [Act.eval]) rfl HNB.out (fcell_one _) (by omega) (by unfold maxLen; omega) (by omega) HBB.out.size _ rfl ?_; intro g2 cap2 w1 hown hgrow hat hlt2; have hbel := HBB.out.grown hgrow HBB.out.size HO1.out; obtain ⟨d0, d1, d2, d3⟩ := HC.out _ hbel))
      go_wp2_with fail
      go_roundg k'
      case measure => omega
      case rel => exact ⟨j + 1, by have := HJ.out; omega, congrArg (Value.int .i64) (by omega), by show w1.ownsRow _ _ _ _ _ _; rw [HLX.out, fcs_app]; first | exact hown | (rw [hba] at hown; exact hown), hbel⟩
    · have hltI : ¬ (j : Int) < N := by omega
      have e : (mst V).take j = mst V := List.take_of_length_le (by unfold mst; rw [List.length_map, HN.out]; omega)
      have ej : j = N := by omega
      rw [e] at HO
      subst ej
      go_wp2_with fail
      go_ret
      exact ⟨_, rfl, HO.out, HB.out⟩
end Go.Proofs.Ythjbhfhdepepmaa
namespace Go.Proofs.Ythjbhfhdepepmaa
open Go.RowKit
/-- Blocks of a type stay. -/
def TK (T : TypeId) (w w' : World) : Prop := ∀ (i : Nat) (c : Array Value) (fz : Nat × Nat), w.heap[i]? = some (.cells c T fz) → w'.heap[i]? = some (.cells c T fz)
theorem TK.below {T : TypeId} {w w' : World} (h : Below w.heap.size w w') : TK T w w' := fun _ _ _ hi => (h.block _ (lt_of_heap hi)).trans hi
theorem TK.oth {T : TypeId} {w w' : World} (h : Oth w w') (h1 : T ≠ 5) (h2 : T ≠ 107) (h3 : T ≠ 109) : TK T w w' := fun i c fz hi => h i c T fz hi h1 h2 h3
theorem TK.othR {T : TypeId} {w w' : World} (h : OthR w w') (h1 : T ≠ 77) (h2 : T ≠ 74) : TK T w w' := fun i c fz hi => h i c T fz hi h1 h2
theorem TK.othA {T : TypeId} {w w' : World} (h : OthA w w') (h1 : T ≠ 5) (h2 : T ≠ 107) (h3 : T ≠ 109) (h4 : T ≠ 77) (h5 : T ≠ 74) : TK T w w' := fun i c fz hi => h i c T fz hi h1 h2 h3 h4 h5
theorem TK.trans {T : TypeId} {a b c : World} (h : TK T a b) (k : TK T b c) : TK T a c := fun i x fz hi => k i x fz (h i x fz hi)
/-- One fate of one's own. -/
def OvOk (w : World) (x : Ft3) (f : Ftp) : Prop := x.1 = f.1 ∧ x.2.1 = f.2.1 ∧ x.2.2.2.1 = f.2.2.length ∧ Wrs w x.2.2.1 f.2.2 ∧ (∀ b off, x.2.2.1 = some ⟨b, off, none⟩ → f.2.2 ≠ [] → ∃ c fz, w.heap[b]? = some (.cells c 69 fz))
theorem OvOk.keep {w w' : World} {x : Ft3} {f : Ftp} (h : OvOk w x f) (k : TK 69 w w') : OvOk w' x f := by
  obtain ⟨h1, h2, h3, h4, h5⟩ := h
  refine ⟨h1, h2, h3, ?_, fun b off e hne => ?_⟩
  · by_cases hne : f.2.2 = []
    · exact Or.inl hne
    · rcases h4 with e | ⟨b, off, e1, e2, e3⟩
      · exact absurd e hne
      · obtain ⟨c, fz, hb⟩ := h5 b off e1 hne
        have hb' := k b c fz hb
        have hh : w'.heap[b]? = w.heap[b]? := hb'.trans hb.symm
        refine Or.inr ⟨b, off, e1, lt_of_heap hb', fun j hj => ?_⟩
        obtain ⟨z1, z2⟩ := e3 j hj
        exact ⟨by simp only [World.cell?, hh] at z1 ⊢; exact z1, by simp only [World.cell?, hh] at z2 ⊢; exact z2⟩
  · obtain ⟨c, fz, hb⟩ := h5 b off e hne
    exact ⟨c, fz, k b c fz hb⟩
/-- Fates of one's own. -/
structure FtO (w : World) (a : Option Addr) (ms : List Ft3) (fs : List Ftp) : Prop where
  F : Fts w a ms
  ty : ∀ b off, a = some ⟨b, off, none⟩ → ms ≠ [] → ∃ c fz, w.heap[b]? = some (.cells c 24 fz)
  len : ms.length = fs.length
  at1 : ∀ j, j < fs.length → OvOk w (ms.getD j t00) (fs.getD j p00)
  ok : ∀ j, j < fs.length → (fs.getD j p00).1.size ≤ maxLen ∧ (fs.getD j p00).2.2.length ≤ 140737488355328 ∧ ∀ x ∈ (fs.getD j p00).2.2, WrOk x
theorem FtO.keep {w w' : World} {a : Option Addr} {ms : List Ft3} {fs : List Ftp} (h : FtO w a ms fs) (k : TK 69 w w') (k2 : TK 24 w w') : FtO w' a ms fs := by
  refine ⟨?_, fun b off e hne => ?_, h.len, fun j hj => (h.at1 j hj).keep k, h.ok⟩
  · by_cases hne : ms = []
    · exact Or.inl hne
    · rcases h.F with e | ⟨b, off, e1, e2, e3⟩
      · exact absurd e hne
      · obtain ⟨c, fz, hb⟩ := h.ty b off e1 hne
        have hb' := k2 b c fz hb
        have hh : w'.heap[b]? = w.heap[b]? := hb'.trans hb.symm
        refine Or.inr ⟨b, off, e1, lt_of_heap hb', fun j hj => ?_⟩
        obtain ⟨z1, z2, z3⟩ := e3 j hj
        exact ⟨by simp only [World.cell?, hh] at z1 ⊢; exact z1, by simp only [World.cell?, hh] at z2 ⊢; exact z2, by simp only [World.cell?, hh] at z3 ⊢; exact z3⟩
  · obtain ⟨c, fz, hb⟩ := h.ty b off e hne
    exact ⟨c, fz, k2 b c fz hb⟩
theorem FtO.ftw {w : World} {a : Option Addr} {ms : List Ft3} {fs : List Ftp} (h : FtO w a ms fs) (ft : Nat → Prop) (hd : ∀ b c T fz, w.heap[b]? = some (.cells c T fz) → T = 69 ∨ T = 24 → ¬ ft b) : Ftw w ft ms fs := by
  refine ⟨h.len, fun j hj => ?_⟩
  obtain ⟨k1, k2, k3, k4, k5⟩ := h.at1 j hj
  obtain ⟨o1, o2, o3⟩ := h.ok j hj
  refine ⟨k1, k2, k3, k4, fun b off e hne => ?_, o1, o2, o3⟩
  obtain ⟨c, fz, hb⟩ := k5 b off e hne
  exact hd b c _ fz hb (Or.inl rfl)
theorem FtO.haf {w : World} {a : Option Addr} {ms : List Ft3} {fs : List Ftp} (h : FtO w a ms fs) (ft : Nat → Prop) (hd : ∀ b c T fz, w.heap[b]? = some (.cells c T fz) → T = 69 ∨ T = 24 → ¬ ft b) : ∀ b off, a = some ⟨b, off, none⟩ → ms ≠ [] → ¬ ft b := fun b off e hne => by
  obtain ⟨c, fz, hb⟩ := h.ty b off e hne
  exact hd b c _ fz hb (Or.inr rfl)
theorem ds_ty {w : World} {d : Nat} {ft : Nat → Prop} {rm : Nat} {cl cb : Int} {V : Vw} (h : Ds w d ft rm cl cb V) : ∀ b c T fz, w.heap[b]? = some (.cells c T fz) → T = 69 ∨ T = 24 → ¬ ft b := fun b c T fz hb hT => by
  rcases hT with rfl | rfl <;> exact h.out hb (by decide) (by decide) (by decide)
theorem rs_ty {w : World} {d : Nat} {ft : Nat → Prop} {rm : Nat} {cl cb : Int} {V : Vw} (h : Rs w d ft rm cl cb V) : ∀ b c T fz, w.heap[b]? = some (.cells c T fz) → T = 69 ∨ T = 24 → ¬ ft b := fun b c T fz hb hT hf => by
  obtain ⟨fl, hk, rfl⟩ := h
  rcases hf with rfl | hf
  · rw [hk.blk] at hb; injection hb with hb; injection hb with _ e _; rw [← e] at hT; revert hT; decide
  · rcases hk.row.2 with ⟨rfl, _⟩ | ⟨g, cap, cur, rfl, _, hh, _⟩
    · cases hf
    · injection hf with hf
      subst hf
      rw [hh] at hb; injection hb with hb; injection hb with _ e _; rw [← e] at hT; revert hT; decide
def wc2 (x : Int × ByteArray) : List Value := [.int .i64 x.1, .string x.2]
def wcs (l : List (Int × ByteArray)) : List Value := l.flatMap wc2
theorem wcs_len (l : List (Int × ByteArray)) : (wcs l).length = l.length * 2 := by
  induction l with
  | nil => rfl
  | cons r rs ih => simp only [wcs, List.flatMap_cons, List.length_append] at *; rw [ih]; simp [wc2]; omega
theorem wcs_one (l : List (Int × ByteArray)) : ∀ u ∈ wcs l, u.oneCell' = true := by
  intro u hu
  simp only [wcs, List.mem_flatMap] at hu
  obtain ⟨r, _, h⟩ := hu
  simp only [wc2, List.mem_cons, List.not_mem_nil, or_false] at h
  rcases h with rfl | rfl <;> rfl
theorem wcs_at (rs : List (Int × ByteArray)) : ∀ j, j < rs.length → (wcs rs)[j * 2]? = some (.int .i64 (rs.getD j w00).1) ∧ (wcs rs)[j * 2 + 1]? = some (.string (rs.getD j w00).2) := by
  induction rs with
  | nil => intro j hj; simp at hj
  | cons r rs ih =>
    intro j hj
    have e : wcs (r :: rs) = wc2 r ++ wcs rs := rfl
    cases j with
    | zero => rw [e]; exact ⟨rfl, rfl⟩
    | succ j =>
      have h := ih j (by simpa using hj)
      rw [e]
      have e3 : (wc2 r).length = 2 := rfl
      refine ⟨?_, ?_⟩
      · rw [List.getElem?_append_right (by omega), e3, show (j + 1) * 2 - 2 = j * 2 from by omega]; exact h.1
      · rw [List.getElem?_append_right (by omega), e3, show (j + 1) * 2 + 1 - 2 = j * 2 + 1 from by omega]; exact h.2
theorem Try.underWr : Try.prog.underlying 22 = some (.slice 69) := by kernel_rfl
set_option maxRecDepth 20000 in
/-- 'append([]api.Write{}, list...)': the writes once more, in new memory. -/
theorem wpList_copy_wrs {w : World} {ops : Array Oper} {rest : List Oper} {o : Oper} {a : Act} {Q : Exit → Act → World → Prop} (hgd : o.guard = none) (s x : Operand)
    (ho : o.op = .call { callee := .builtin .append, args := #[s, x], argTypes := #[22, 22] })
    (B : Nat) (v : Value) (hs : a.eval s = v) (hown : w.ownsRow B 69 2 v 0 []) (hB : B ≤ w.heap.size)
    (ao : Option Addr) (rs : List (Int × ByteArray)) (c : Nat) (hx : a.eval x = .slice ao rs.length c) (hv : Wrs w ao rs) (hnil : ao = none → c = 0) (h63 : rs.length ≤ 5864062014805)
    (h : ∀ v' w', w'.ownsRow B 69 2 v' rs.length (wcs rs) → w.grownBy w' v.ownBlock → wpList Try.prog ops Q rest (a.put o.dst v') w') : wpList Try.prog ops Q (o :: rest) a w := by
  obtain ⟨i0, hi, hz0, hz1, hz2⟩ := info_parts Try.infoWr
  cases ao with
  | none =>
    have h0 : rs = [] := by
      rcases hv with h | ⟨_, _, e1, _⟩
      · exact h
      · cases e1
    subst h0
    have hc := hnil rfl
    subst hc
    refine wpList_append_own_none hgd s x _ ho B 69 i0 2 Try.underWr hi v 0 [] hs hown hx ?_
    exact h v w hown ⟨rfl, rfl, rfl, Nat.le_refl _, fun _ _ _ => rfl⟩
  | some ad =>
    refine wpList_append_own w hgd s x _ ho B 69 i0 (.agg #[.int .i64 0, .string ⟨#[]⟩]) 2 24 Try.underWr hi hz0 hz1 hz2 rfl (by decide) v 0 [] hs hown ad rs.length c (wcs rs) hx (wcs_len rs) ?_ (wcs_one rs) (by unfold maxLen; omega) (by omega) hB ?_
    · intro j u hj
      rcases hv with rfl | ⟨b, off, e1, hlt, hc⟩
      · simp [wcs] at hj
      · injection e1 with e1
        subst e1
        have hj2 : j < rs.length * 2 := by have := (List.getElem?_eq_some_iff.1 hj).1; rw [wcs_len] at this; exact this
        have hr := wcs_at rs (j / 2) (by omega)
        obtain ⟨c0, c1⟩ := hc (j / 2) (by omega)
        rw [Go.WideShapes.add_plain]
        have h3 : j % 2 = 0 ∨ j % 2 = 1 := by omega
        rcases h3 with h3 | h3
        · have ej : j = j / 2 * 2 := by omega
          rw [← ej] at c0 hr
          rw [c0, ← hr.1]
          exact hj
        · have ej : j = j / 2 * 2 + 1 := by omega
          have ea : off + j = off + j / 2 * 2 + 1 := by omega
          rw [ea, c1, ← hr.2, ← ej]
          exact hj
    · intro v' w' hown' hgrow _
      rw [Nat.zero_add, List.nil_append] at hown'
      exact h v' w' hown' hgrow
end Go.Proofs.Ythjbhfhdepepmaa
namespace Go.Proofs.Ythjbhfhdepepmaa
open Go.RowKit
def mc3 (x : Ft3) : List Value := [.string x.1, .int .i64 x.2.1, ovS x.2.2]
def mcs (l : List Ft3) : List Value := l.flatMap mc3
theorem mcs_len (l : List Ft3) : (mcs l).length = l.length * 3 := by
  induction l with
  | nil => rfl
  | cons r rs ih => simp only [mcs, List.flatMap_cons, List.length_append] at *; rw [ih]; simp [mc3]; omega
theorem mcs_snoc (a : List Ft3) (e : Ft3) : mcs (a ++ [e]) = mcs a ++ mc3 e := by simp [mcs]
theorem mc3_one (x : Ft3) : ∀ u ∈ mc3 x, u.oneCell' = true := by
  intro u hu
  simp only [mc3, ovS, List.mem_cons, List.not_mem_nil, or_false] at hu
  rcases hu with rfl | rfl | rfl <;> rfl
theorem mcs_at (rs : List Ft3) : ∀ j, j < rs.length → (mcs rs)[j * 3]? = some (.string (rs.getD j t00).1) ∧ (mcs rs)[j * 3 + 1]? = some (.int .i64 (rs.getD j t00).2.1) ∧ (mcs rs)[j * 3 + 2]? = some (ovS (rs.getD j t00).2.2) := by
  induction rs with
  | nil => intro j hj; simp at hj
  | cons r rs ih =>
    intro j hj
    have e : mcs (r :: rs) = mc3 r ++ mcs rs := rfl
    cases j with
    | zero => rw [e]; exact ⟨rfl, rfl, rfl⟩
    | succ j =>
      have h := ih j (by simpa using hj)
      rw [e]
      have e3 : (mc3 r).length = 3 := rfl
      refine ⟨?_, ?_, ?_⟩
      · rw [List.getElem?_append_right (by omega), e3, show (j + 1) * 3 - 3 = j * 3 from by omega]; exact h.1
      · rw [List.getElem?_append_right (by omega), e3, show (j + 1) * 3 + 1 - 3 = j * 3 + 1 from by omega]; exact h.2.1
      · rw [List.getElem?_append_right (by omega), e3, show (j + 1) * 3 + 2 - 3 = j * 3 + 2 from by omega]; exact h.2.2
theorem mkcapG (N : Nat) (hN : N ≤ 2932031007403) (w : World) : (Instr.makeSlice 37 (.int .i64 0) (.int .i64 N)).run Try.prog w = .ok (.slice (some ⟨w.heap.size, 0, none⟩) 0 N) (w.alloc (.cells (madeCells #[.string ⟨#[]⟩, .int .i64 0, .slice none 0 0] (N * 3)) 24)) := by
  obtain ⟨i0, hi, hz0, hz1, hz2⟩ := info_parts Try.infoFt
  have h := run_make (P := Try.prog) w 37 24 i0 (.agg #[.string ⟨#[]⟩, .int .i64 0, .slice none 0 0]) Try.underlying37 hi hz0 .i64 .i64 0 N (by omega) (by omega) (by rw [hz2]; omega) (by omega)
  rw [hz1, show (Value.agg #[.string ⟨#[]⟩, .int .i64 0, .slice none 0 0]).cells = #[.string ⟨#[]⟩, .int .i64 0, .slice none 0 0] from rfl] at h
  simpa using h
theorem made_capG (N : Nat) (hN : N ≤ 2932031007403) (w : World) : (w.alloc (.cells (madeCells #[.string ⟨#[]⟩, .int .i64 0, .slice none 0 0] (N * 3)) 24)).ownsRow w.heap.size 24 3 (.slice (some ⟨w.heap.size, 0, none⟩) 0 N) 0 (mcs []) := by
  refine ⟨rfl, Or.inr ⟨w.heap.size, N, _, rfl, Nat.le_refl _, heap_new _ _, Nat.zero_le _, by unfold maxLen; omega, size_madeCells _ _, ?_⟩⟩
  simp [mcs]
theorem wrs_own {w : World} {B : Nat} {v : Value} {pw : List (Int × ByteArray)} (h : w.ownsRow B 69 2 v pw.length (wcs pw)) : ∃ a c, v = .slice a pw.length c ∧ Wrs w a pw ∧ (∀ b off, a = some ⟨b, off, none⟩ → ∃ x fz, w.heap[b]? = some (.cells x 69 fz)) ∧ (∀ k, v.ownBlock = some k → B ≤ k) := by
  rcases h.2 with ⟨rfl, h0⟩ | ⟨g, cap, cur, rfl, hb, hh, _⟩
  · exact ⟨none, 0, by rw [h0], Or.inl (List.length_eq_zero_iff.1 h0), (fun _ _ e => by cases e), (fun _ e => by cases e)⟩
  · refine ⟨some ⟨g, 0, none⟩, cap, rfl, ?_, (fun b off e => ?_), (fun k hk => (h.lt k hk).1)⟩
    · refine Or.inr ⟨g, 0, rfl, lt_of_heap hh, fun j hj => ?_⟩
      have hr := wcs_at pw j hj
      rw [Nat.zero_add]
      exact ⟨(h.cellAt (j * 2) (by omega)).trans hr.1, (h.cellAt (j * 2 + 1) (by omega)).trans hr.2⟩
    · injection e with e
      injection e with e _ _
      subst e
      exact ⟨_, _, hh⟩
theorem fts_own {w : World} {B : Nat} {v : Value} {L : List Ft3} (h : w.ownsRow B 24 3 v L.length (mcs L)) : ∃ a c, v = .slice a L.length c ∧ Fts w a L ∧ (∀ b off, a = some ⟨b, off, none⟩ → ∃ x fz, w.heap[b]? = some (.cells x 24 fz)) := by
  rcases h.2 with ⟨rfl, h0⟩ | ⟨g, cap, cur, rfl, hb, hh, _⟩
  · exact ⟨none, 0, by rw [h0], Or.inl (List.length_eq_zero_iff.1 h0), (fun _ _ e => by cases e)⟩
  · refine ⟨some ⟨g, 0, none⟩, cap, rfl, ?_, (fun b off e => ?_)⟩
    · refine Or.inr ⟨g, 0, rfl, lt_of_heap hh, fun j hj => ?_⟩
      have hr := mcs_at L j hj
      rw [Nat.zero_add]
      exact ⟨(h.cellAt (j * 3) (by omega)).trans hr.1, (h.cellAt (j * 3 + 1) (by omega)).trans hr.2.1, (h.cellAt (j * 3 + 2) (by omega)).trans hr.2.2⟩
    · injection e with e
      injection e with e _ _
      subst e
      exact ⟨_, _, hh⟩
theorem TK.own {T e : TypeId} {w w' : World} {v : Value} {B size n : Nat} {xs : List Value} (hg : w.grownBy w' v.ownBlock) (ho : w.ownsRow B e size v n xs) (hne : T ≠ e) : TK T w w' := fun i c fz hi => by
  refine (hg.block i (lt_of_heap hi) (fun h => ?_)).trans hi
  rcases ho.2 with ⟨rfl, _⟩ | ⟨g, cap, cur, rfl, _, hh, _⟩
  · cases h
  · simp only [Value.ownBlock, Option.some.injEq] at h
    subst h
    rw [hh] at hi
    injection hi with hi
    injection hi with _ e1 _
    exact hne e1.symm
theorem TK.set {T T' : TypeId} {w : World} {b o : Nat} {v : Value} {c : Array Value} {fz : Nat × Nat} (h : w.heap[b]? = some (.cells c T' fz)) (hne : T ≠ T') : TK T w (w.setCell ⟨b, o, none⟩ v) := fun i c' fz' hi => by
  refine (Below.heap_setCell w _ v i (fun e => ?_)).trans hi
  simp only at e
  subst e
  rw [h] at hi
  injection hi with hi
  injection hi with _ e1 _
  exact hne e1.symm
theorem TK.alloc {T : TypeId} {w : World} (o : Obj) : TK T w (w.alloc o) := fun i _ _ hi => (Below.heap_alloc w o i (lt_of_heap hi)).trans hi
theorem own_nilA (w : World) (T : TypeId) (n b : Nat) (hb : b = w.heap.size) : (w.alloc (.cells #[] T)).ownsRow b T n (.slice (some ⟨b, 0, none⟩) 0 0) 0 [] := by
  subst hb
  exact ⟨by simp, Or.inr ⟨w.heap.size, 0, #[], rfl, Nat.le_refl _, heap_new _ _, Nat.zero_le _, by unfold maxLen; omega, by simp, by simp⟩⟩
set_option maxRecDepth 20000 in
set_option maxHeartbeats 4000000 in
theorem copied_any (a : Option Addr) (cap : Nat) (ms : List Ft3) (fs : List Ftp) (w : World) (hF : Fts w a ms) (hR : Ftw w (fun _ => False) ms fs) (hnil : ∀ j, j < fs.length → ((ms.getD j t00).2.2.1 = none → (ms.getD j t00).2.2.2.2 = 0) ∧ (fs.getD j p00).2.2.length ≤ 5864062014805) (hl : ms.length ≤ 2932031007402) :
    Calls Try.prog 15 #[.slice a ms.length cap] w fun e w' => ∃ a' ms' cap', e = .returned (.slice a' ms'.length cap') ∧ ms'.length = ms.length ∧ FtO w' a' ms' fs ∧ Below w.heap.size w w' := by
  have HFw : Hid (∀ wx, Below w.heap.size w wx → Fts wx a ms) := fun wx hb => hF.kept hb
  have HR := hid hR
  have HNI := hid hnil
  generalize hM : ms.length = M at *
  have HM := hid hM
  have hmk := fun w => mkcapG (M + 1) (by omega) w
  have eN : ((M + 1 : Nat) : Int) = (M : Int) + 1 := by omega
  rw [eN] at hmk
  clear hF hR hnil eN hM
  go_enter Try.func15, Try.ntmps15
  go_wp2_with fail
  have HM0 := hid (made_capG (M + 1) (by omega) w)
  have HB0 : Hid (Below w.heap.size w (w.alloc (.cells (madeCells #[.string ⟨#[]⟩, .int .i64 0, .slice none 0 0] ((M + 1) * 3)) 24))) := (Below.refl _ _).alloc (Nat.le_refl _) _
  generalize w.alloc (.cells (madeCells #[.string ⟨#[]⟩, .int .i64 0, .slice none 0 0] ((M + 1) * 3)) 24) = w1 at *
  clear hmk
  obtain ⟨i0, hi, hz0, hz1, hz2⟩ := info_parts Try.infoFt
  go_loopg [3, 12] M (fun k vo vi wr => ∃ (j : Nat) (L : List Ft3), j + k = M ∧ vi = .int .i64 j ∧ L.length = j ∧ Hid (∀ i, i < j → OvOk wr (L.getD i t00) (fs.getD i p00)) ∧ Hid (wr.ownsRow w.heap.size 24 3 vo j (mcs L)) ∧ Hid (Below w.heap.size w wr))
  case atStart => exact ⟨0, [], by omega, rfl, rfl, (fun i hi => by omega), HM0.out, HB0.out⟩
  case round =>
    clear HM0 HB0
    obtain ⟨j, L, hj, rfl, hL, HS, HW, HB⟩ := hrel
    by_cases hlt : j < M
    · obtain ⟨k', rfl⟩ : ∃ k', gk = k' + 1 := ⟨gk - 1, by omega⟩
      have hltI : (j : Int) < M := by omega
      have hjf : j < fs.length := by rw [← HR.out.1, HM.out]; exact hlt
      obtain ⟨r1, r2, r3, r4, _, r6, r7, r8⟩ := HR.out.2 j hjf
      obtain ⟨n1, n2⟩ := HNI.out j hjf
      have r4' := r4.kept HB.out
      clear r4
      rcases HFw.out wr HB.out with e | ⟨b, off, rfl, hbl, hc⟩
      · exact absurd hlt (by rw [← HM.out, e]; simp)
      obtain ⟨q0, q1, q2⟩ := hc j (by rw [HM.out]; exact hlt)
      have HFS : Hid (∀ x : Ftp, x = fs.getD j p00 → x = fs.getD j p00) := fun _ h => h
      have hfe : fs.getD j p00 = fs.getD j p00 := rfl
      generalize hP : fs.getD j p00 = P at *
      generalize ms.getD j t00 = T at *
      obtain ⟨pn, pk, pw⟩ := P
      obtain ⟨tn, tk, oa, on, oc⟩ := T
      simp only [ovS] at r1 r2 r3 r6 r7 r8 q0 q1 q2 r4' n1 n2
      subst r1 r2 r3
      have HP := hid hP
      have HJ := hid hj
      have HN1 := hid n1
      clear hc hj hP HFS hfe n1
      have HBw : Hid (Below wr.heap.size wr ((wr.alloc (.cells #[.string tn, .int .i64 tk, .slice oa pw.length oc] 24)).alloc (.cells #[] 69))) := ((Below.refl _ _).alloc (Nat.le_refl _) _).alloc (by simp) _
      have HNw : Hid (((wr.alloc (.cells #[.string tn, .int .i64 tk, .slice oa pw.length oc] 24)).alloc (.cells #[] 69)).heap[wr.heap.size]? = some (.cells #[.string tn, .int .i64 tk, .slice oa pw.length oc] 24 (0, 0))) := (Below.heap_alloc _ _ _ (by simp)).trans (heap_new _ _)
      go_wp2_with (at_builtin; refine wpList_copy_wrs rfl _ _ rfl (wr.heap.size + 1) _ rfl ?c0 ?c1 _ pw _ rfl ?c2 ?c3 ?c4 ?_)
      case c0 => exact own_nilA _ _ _ _ (by simp)
      case c2 => exact r4'.kept HBw.out
      case c3 => exact HN1.out
      intro v1 w2 hown1 hgrow1
      obtain ⟨a1, c1, rfl, hW1, hT1, _⟩ := wrs_own hown1
      have hbx : w2.heap[wr.heap.size]? = some (.cells #[.string tn, .int .i64 tk, .slice oa pw.length oc] 24 (0, 0)) := (hgrow1.block _ (lt_of_heap HNw.out) (by simp [Value.ownBlock])).trans HNw.out
      have HB2 : Hid (Below wr.heap.size wr w2) := HBw.out.grown hgrow1 HBw.out.size (fun k hk => by simp only [Value.ownBlock, Option.some.injEq] at hk; omega)
      have HW1 := hid hW1
      have HT1 := hid hT1
      have HBX := hid hbx
      have x0 : w2.cell? ⟨wr.heap.size, 0, none⟩ = some (.string tn) := by simp [World.cell?, hbx]
      have x1 : w2.cell? ⟨wr.heap.size, 1, none⟩ = some (.int .i64 tk) := by simp [World.cell?, hbx]
      have x2 : w2.cell? ⟨wr.heap.size, 2, none⟩ = some (.slice oa pw.length oc) := by simp [World.cell?, hbx]
      have x3 : w2.frozen? ⟨wr.heap.size, 2, none⟩ = false := by simp [World.frozen?, hbx]
      clear hown1 hgrow1 hbx hW1 hT1 HBw HNw r4' q0 q1 q2
      have HTw : Hid (TK 69 wr w2) := TK.below HB2.out
      obtain ⟨wc, hwc⟩ : ∃ wc, wc = (w2.setCell ⟨wr.heap.size, 2, none⟩ (.slice a1 pw.length c1)).alloc (.cells #[.string tn, .int .i64 tk, .slice a1 pw.length c1] 24) := ⟨_, rfl⟩
      have HBc : Hid (Below wr.heap.size wr wc) := by rw [hwc]; exact (HB2.out.setCell (Nat.le_refl _) _).alloc (by simpa using HB2.out.size) _
      have HTc : Hid (TK 69 w2 wc) := by rw [hwc]; exact (TK.set HBX.out (by decide)).trans (TK.alloc _)
      have HNb : Hid (wc.heap[w2.heap.size]? = some (.cells #[.string tn, .int .i64 tk, .slice a1 pw.length c1] 24 (0, 0))) := by
        have := heap_new (w2.setCell ⟨wr.heap.size, 2, none⟩ (.slice a1 pw.length c1)) (.cells #[.string tn, .int .i64 tk, .slice a1 pw.length c1] 24 (0, 0))
        rw [← hwc] at this
        refine hid ?_
        simpa using this
      have HOc : Hid (wc.ownsRow w.heap.size 24 3 u3 j (mcs L)) := by
        have h1 := HW.out
        refine ⟨h1.1, ?_⟩
        rcases h1.2 with h2 | ⟨g', cap, cur, h2, h3, h4, h5⟩
        · exact Or.inl h2
        · exact Or.inr ⟨g', cap, cur, h2, h3, (HBc.out.block g' (lt_of_heap h4)).trans h4, h5⟩
      have HLt : Hid (∀ k, u3.ownBlock = some k → w.heap.size ≤ k) := fun k hk => (HW.out.lt k hk).1
      have HsB : Hid (w.heap.size ≤ w2.heap.size) := Nat.le_trans HB.out.size HB2.out.size
      go_wp2_with (at_builtin; refine wpList_append_lies _ rfl _ _ 37 rfl w.heap.size 24 i0 (.agg #[.string ⟨#[]⟩, .int .i64 0, .slice none 0 0]) 3 48 Try.underlying37 hi hz0 hz1 hz2 rfl (by decide) _ j (mcs L) rfl ?d0 _ 1 1 (mc3 (tn, tk, a1, pw.length, c1)) rfl rfl ?d1 ?d2 ?d3 ?d4 ?d5 ?d6 _ rfl ?_)
      case d0 => rw [← hwc]; exact HOc.out
      case d1 =>
        intro k u h
        rw [← hwc]
        try simp only [World.size_setCell]
        rw [Go.WideShapes.add_plain, Nat.zero_add]
        simp only [mc3, ovS] at h
        simp only [World.cell?, HNb.out]
        simpa using h
      case d2 => exact mc3_one _
      case d3 => decide
      case d4 => unfold maxLen; omega
      case d5 => omega
      case d6 => have := HsB.out; simp; omega
      intro g5 cap5 w5 hown5 hgrow5 hat5 hlt5
      rw [← hwc] at hgrow5
      have HB5 : Hid (Below w.heap.size w w5) := (HB.out.trans (HBc.out.mono HB.out.size)).grown hgrow5 (Nat.le_trans HB.out.size HBc.out.size) (fun k hk => HLt.out k hk)
      have HT5 : Hid (TK 69 w2 w5) := HTc.out.trans (TK.own hgrow5 HOc.out (by decide))
      have HO5 := hid hown5
      have HN : Hid (OvOk w5 (tn, tk, a1, pw.length, c1) (tn, tk, pw)) := OvOk.keep (w := w2) ⟨rfl, rfl, rfl, HW1.out, fun b off e _ => HT1.out b off e⟩ HT5.out
      rw [← HP.out] at HN
      have HL5 : Hid ((L ++ [(tn, tk, a1, pw.length, c1)]).length = j + 1) := by refine hid ?_; rw [List.length_append, hL]; rfl
      have HS5 : Hid (∀ i, i < j + 1 → OvOk w5 ((L ++ [(tn, tk, a1, pw.length, c1)]).getD i t00) (fs.getD i p00)) := fun i hi => by
        by_cases hij : i < j
        · have e : (L ++ [(tn, tk, a1, pw.length, c1)]).getD i t00 = L.getD i t00 := by rw [List.getD_eq_getElem?_getD, List.getD_eq_getElem?_getD, List.getElem?_append_left (by omega)]
          rw [e]
          exact (HS.out i hij).keep (HTw.out.trans HT5.out)
        · have eij : i = j := by omega
          subst eij
          have e : (L ++ [(tn, tk, a1, pw.length, c1)]).getD i t00 = (tn, tk, a1, pw.length, c1) := by rw [List.getD_eq_getElem?_getD, List.getElem?_append_right (by omega), hL, Nat.sub_self]; rfl
          rw [e]
          exact HN.out
      rw [← mcs_snoc] at HO5
      generalize L ++ [(tn, tk, a1, pw.length, c1)] = L5 at *
      clear hown5 hgrow5 hat5 hlt5 hwc x0 x1 x2 x3
      go_wp2_with fail
      go_roundg k'
      case measure => omega
      case rel => exact ⟨j + 1, L5, by have := HJ.out; omega, congrArg (Value.int .i64) (by omega), HL5.out, HS5.out, HO5.out, HB5.out⟩
    · have hltI : ¬ (j : Int) < M := by omega
      have hjN : j = M := by omega
      subst hjN
      have HL := hid hL
      clear hL
      go_wp2_with fail
      go_ret
      have h2 := HW.out
      have HL2 := HL.out
      obtain ⟨a', c', rfl, k1, k2⟩ := fts_own (L := L) (by rw [HL2]; exact h2)
      refine ⟨a', L, ⟨c', rfl⟩, HL2, ⟨k1, fun b off e _ => k2 b off e, ?_, fun i hi => ?_, fun i hi => ?_⟩, HB.out⟩
      · rw [HL2, ← HM.out]; exact HR.out.1
      · exact HS.out i (by rw [← HM.out, HR.out.1]; exact hi)
      · obtain ⟨_, _, _, _, _, r6, r7, r8⟩ := HR.out.2 i hi
        exact ⟨r6, r7, r8⟩
end Go.Proofs.Ythjbhfhdepepmaa
namespace Go.Proofs.Ythjbhfhdepepmaa
open Go.RowKit
theorem ftw_names {w : World} {ft : Nat → Prop} {ms : List Ft3} {fs : List Ftp} (hR : Ftw w ft ms fs) : ms.map (·.1) = fs.map (·.1) := by
  apply List.ext_getElem (by simp [hR.1])
  intro i h1 h2
  have h3 : i < fs.length := by simpa using h2
  have := (hR.2 i h3).1
  simp only [List.getElem_map]
  rw [List.getD_eq_getElem?_getD, List.getD_eq_getElem?_getD, List.getElem?_eq_getElem (by simpa using h1), List.getElem?_eq_getElem h3] at this
  exact this
theorem Ftw.found {w : World} {ft : Nat → Prop} {ms : List Ft3} {fs : List Ftp} (hR : Ftw w ft ms fs) (nm : ByteArray) : (ff3 ms nm).2.1 = (ffx fs nm).2.1 ∧ (ff3 ms nm).2.2.2.1 = (ffx fs nm).2.2.length ∧ Wrs w (ff3 ms nm).2.2.1 (ffx fs nm).2.2 ∧ (∀ b off, (ff3 ms nm).2.2.1 = some ⟨b, off, none⟩ → (ffx fs nm).2.2 ≠ [] → ¬ ft b) ∧ (ffx fs nm).2.2.length ≤ 140737488355328 ∧ ∀ x ∈ (ffx fs nm).2.2, WrOk x := by
  have hn := ftw_names hR
  cases hf : fx (ms.map (·.1)) nm with
  | none =>
    rw [fx_find3.2 hf, fx_find.2 (by rw [← hn]; exact hf)]
    exact ⟨rfl, rfl, Or.inl rfl, fun _ _ e _ => (by cases e), by simp [p00], fun _ e => (by cases e)⟩
  | some i =>
    obtain ⟨h1, h2⟩ := fx_find.1 i (by rw [← hn]; exact hf)
    rw [fx_find3.1 i hf, h2]
    obtain ⟨_, r2, r3, r4, r5, _, r7, r8⟩ := hR.2 i h1
    exact ⟨r2, r3, r4, r5, r7, r8⟩
set_option maxHeartbeats 1000000 in
set_option maxRecDepth 20000 in
theorem rcrash_w (d : Nat) (ft : Nat → Prop) (rm : Nat) (cl cb : Int) (V : Vw) (a : Option Addr) (cap : Nat) (ms : List Ft3) (fs : List Ftp) (w : World) (h : Rs w d ft rm cl cb V) (hs : SV rm V) (hF : Fts w a ms) (hR : Ftw w ft ms fs) (haf : ∀ b off, a = some ⟨b, off, none⟩ → ms ≠ [] → ¬ ft b) (hl : ms.length ≤ 140737488355328) :
    Calls Try.prog 26 #[.pointer (some ⟨d, 0, none⟩), .slice a ms.length cap] w fun e w' => e = .returned (.tuple #[]) ∧ RAft w ft d rm cl cb (V.map (crf fs)) w' := by
  obtain ⟨fl, h, rfl⟩ := h
  have HK := hid h
  have HS := hid hs
  have HF := hid hF
  have HR := hid hR
  have HAF := hid haf
  obtain ⟨al, capl, rfl⟩ := h.len
  clear h hs hF hR haf
  generalize hM : ms.length = M at *
  have HM := hid hM
  generalize hN : V.length = N at *
  have HN := hid hN
  clear hM hN
  go_enter Try.func26, Try.ntmps26
  go_wp2_with fail
  go_loopg [4] N (fun k i wr => ∃ j : Nat, j + k = N ∧ i = .int .i64 j ∧ Hid (Rk wr d (.slice al N capl) rm cl cb ((V.take j).map (crf fs) ++ V.drop j) ∧ Ch (Rt d (.slice al N capl)) w wr))
  case atStart => exact ⟨0, by omega, rfl, ⟨HK.out, Ch.refl _ _⟩⟩
  case round =>
    obtain ⟨j, hk, rfl, HQ⟩ := hrel
    have c1 := HQ.out.1.c1
    by_cases hlt : j < N
    · obtain ⟨k, rfl⟩ : ∃ k, gk = k + 1 := ⟨gk - 1, by omega⟩
      have hltD : decide ((j : Int) < N) = true := by simp; omega
      have hltI : (j : Int) < N := by omega
      have hjV : j < V.length := by rw [HN.out]; exact hlt
      have hcnt := HS.out.cnt
      have EW := hid (winc_ j (by omega))
      obtain ⟨x, hx⟩ : ∃ x, x = V[j] := ⟨_, rfl⟩
      have hd : V.drop j = x :: V.drop (j + 1) := by rw [hx, List.drop_eq_getElem_cons hjV]
      have htk : V.take (j + 1) = V.take j ++ [x] := by rw [hx, List.take_succ_eq_append_getElem hjV]
      have hnew : (V.take (j + 1)).map (crf fs) ++ V.drop (j + 1) = (V.take j).map (crf fs) ++ crf fs x :: V.drop (j + 1) := by rw [htk]; simp
      have hq := HQ.out
      rw [hd] at hq
      have hlj : ((V.take j).map (crf fs)).length = j := by rw [List.length_map, List.length_take, HN.out]; omega
      have hlen : ((V.take j).map (crf fs) ++ x :: V.drop (j + 1)).length = N := by rw [← hd]; simp [HN.out]; omega
      have hx30 := (HS.out.lng x (by rw [hx]; exact List.getElem_mem _)).2
      obtain ⟨nm, X, sy⟩ := x
      simp only at hx30
      rcases hq.1.form with ⟨_, e2⟩ | ⟨g, cap', e, hcl, hfz, hgd⟩
      · simp at e2
      injection e with e1 e2 e3
      subst e1 e3
      clear e2
      rw [hlen] at hcl
      have q0 : wr.cell? ⟨g, j * 3, none⟩ = some (.string nm) := by rw [hcl _ (by omega)]; have := rfs_at ((V.take j).map (crf fs)) (V.drop (j + 1)) (nm, X, sy) 0 (by omega); rw [hlj] at this; exact this
      have q1 : wr.cell? ⟨g, j * 3 + 1, none⟩ = some (.string (ba X)) := by rw [hcl _ (by omega)]; have := rfs_at ((V.take j).map (crf fs)) (V.drop (j + 1)) (nm, X, sy) 1 (by omega); rw [hlj] at this; exact this
      have q2 : wr.cell? ⟨g, j * 3 + 2, none⟩ = some (.int .i64 sy) := by rw [hcl _ (by omega)]; have := rfs_at ((V.take j).map (crf fs)) (V.drop (j + 1)) (nm, X, sy) 2 (by omega); rw [hlj] at this; exact this
      obtain ⟨r2, r3, r4, r5, r7, r8⟩ := HR.out.found nm
      have hkeep : ∀ bb, bb < w.heap.size → ¬ Rt d (.slice (some ⟨g, 0, none⟩) N capl) bb → wr.heap[bb]? = w.heap[bb]? := fun bb h1 h2 => hq.2.block bb h1 h2
      have hFr : Fts wr a ms := by
        rcases HF.out with e | ⟨b, off, e1, e2, e3⟩
        · exact Or.inl e
        · by_cases hms : ms = []
          · exact Or.inl hms
          have he := hkeep b e2 (HAF.out b off e1 hms)
          refine Or.inr ⟨b, off, e1, Nat.lt_of_lt_of_le e2 hq.2.size, fun i hi => ?_⟩
          obtain ⟨z0, z1, z2⟩ := e3 i hi
          exact ⟨by simp only [World.cell?, he] at z0 ⊢; exact z0, by simp only [World.cell?, he] at z1 ⊢; exact z1, by simp only [World.cell?, he] at z2 ⊢; exact z2⟩
      have hWr : Wrs wr (ff3 ms nm).2.2.1 (ffx fs nm).2.2 := by
        rcases r4 with e | ⟨b, off, e1, e2, e3⟩
        · exact Or.inl e
        · by_cases hne : (ffx fs nm).2.2 = []
          · exact Or.inl hne
          have he := hkeep b e2 (r5 b off e1 hne)
          refine Or.inr ⟨b, off, e1, Nat.lt_of_lt_of_le e2 hq.2.size, fun i hi => ?_⟩
          obtain ⟨z0, z1⟩ := e3 i hi
          exact ⟨by simp only [World.cell?, he] at z0 ⊢; exact z0, by simp only [World.cell?, he] at z1 ⊢; exact z1⟩
      have HFA := hid (rfate_any a cap ms nm wr hFr (by rw [HM.out]; exact hl))
      have hcrf : crf fs (nm, X, sy) = (nm, lft X sy (ffx fs nm).2.1 (ffx fs nm).2.2, (lft X sy (ffx fs nm).2.1 (ffx fs nm).2.2).length) := rfl
      rw [HM.out] at HFA
      generalize ffx fs nm = P at *
      generalize ff3 ms nm = T at *
      obtain ⟨pn, pk, pw⟩ := P
      obtain ⟨tn, tk, oa, on, oc⟩ := T
      simp only [ftS, ovS] at r2 r3 r7 r8 hWr HFA hcrf
      subst r2 r3
      have HWR := hid hWr
      have HL : Hid (∀ wx, Below wr.heap.size wr wx → Calls Try.prog 11 #[.string (ba X), .int .i64 sy, .agg #[.string tn, .int .i64 tk, .slice oa pw.length oc]] wx fun e w' => e = .returned (.string (ba (lft X sy tk pw))) ∧ Below wr.heap.size wr w' ∧ Below wx.heap.size wx w') := fun wx hb =>
        (rleft_any (ba X) sy tn tk oa oc pw wx (by rw [ba_size]; omega) (HWR.out.kept hb) r7 r8).mono fun _ _ k => ⟨k.1, hb.trans (k.2.mono hb.size), k.2⟩
      have HKQ := hid hq
      have HLEN := hid hlen
      have HNW := hid hnew
      rw [hcrf] at HNW
      have HCE : Hid (∀ wx, Below wr.heap.size wr wx → wx.cell? ⟨d, 1, none⟩ = some (.slice (some ⟨g, 0, none⟩) N capl) ∧ wx.cell? ⟨g, j * 3 + 1, none⟩ = some (.string (ba X)) ∧ wx.cell? ⟨g, j * 3 + 2, none⟩ = some (.int .i64 sy)) := by
        intro wx hb
        have hdl : d < wr.heap.size := lt_of_heap hq.1.blk
        have hgl : g < wr.heap.size := (hq.1.row.lt g rfl).2
        exact ⟨(hb.cell (p := ⟨d, 1, none⟩) hdl).trans c1, (hb.cell (p := ⟨g, j * 3 + 1, none⟩) hgl).trans q1, (hb.cell (p := ⟨g, j * 3 + 2, none⟩) hgl).trans q2⟩
      clear hcl hfz hq hd htk hnew hx hjV hFr hWr r4 r5 r7 r8 hkeep HQ hlen hcrf
      go_wp2_with (go_at_call 53; refine HFA.out.mono ?_; rintro e w1 ⟨⟨bb, rfl⟩, hb1⟩; have HB1 := hid hb1; clear hb1)
      obtain ⟨w2, hw2⟩ : ∃ w2, w2 = w1.alloc (Obj.cells #[.string tn, .int .i64 tk, .slice oa pw.length oc] 24) := ⟨_, rfl⟩
      rw [← hw2]
      have hF := heap_new w1 (Obj.cells #[.string tn, .int .i64 tk, .slice oa pw.length oc] 24)
      rw [← hw2] at hF
      have HB2 : Hid (Below wr.heap.size wr w2) := HB1.out.trans ((show Below w1.heap.size w1 w2 by rw [hw2]; exact bel_alloc _ _).mono HB1.out.size)
      obtain ⟨s1, s2, s3⟩ := HCE.out w2 HB2.out
      have t0 : w2.cell? ⟨w1.heap.size, 0, none⟩ = some (.string tn) := (cell_of hF).trans rfl
      have t1 : w2.cell? ⟨w1.heap.size, 1, none⟩ = some (.int .i64 tk) := (cell_of hF).trans rfl
      have t2 : w2.cell? ⟨w1.heap.size, 2, none⟩ = some (.slice oa pw.length oc) := (cell_of hF).trans rfl
      have HL2 := hid (HL.out w2 HB2.out)
      have HL3 := hid (HL.out w2.drew HB2.out.drew)
      have HBL := hid (lt_of_heap hF)
      clear hw2 hF HFA c1 q0 q1 q2
      have hBl : w1.heap.size < w2.heap.size := HBL.out
      go_region_held3 (fun x => x.cell? ⟨d, 1, none⟩ = some (.slice (some ⟨g, 0, none⟩) N capl) ∧ x.cell? ⟨g, j * 3 + 1, none⟩ = some (.string (ba X)) ∧ x.cell? ⟨g, j * 3 + 2, none⟩ = some (.int .i64 sy) ∧ x.cell? ⟨w1.heap.size, 0, none⟩ = some (.string tn) ∧ x.cell? ⟨w1.heap.size, 1, none⟩ = some (.int .i64 tk) ∧ x.cell? ⟨w1.heap.size, 2, none⟩ = some (.slice oa pw.length oc)) ((first | assumption | exact ⟨by assumption, by assumption, by assumption, by assumption, by assumption, by assumption⟩ | go_keep)) (first | (go_at_call 11; (first | with_reducible refine HL2.out.mono ?_ | with_reducible refine HL3.out.mono ?_); rintro e w3 ⟨rfl, hb3, hb3'⟩; have HB3 := hid hb3; have hs3 := HCE.out w3 hb3; have hk3 := hs3.1; have hk4 := hs3.2.1; have hk5 := hs3.2.2; have hk0 := (hb3'.cell (p := ⟨w1.heap.size, 0, none⟩) hBl).trans t0; have hk1 := (hb3'.cell (p := ⟨w1.heap.size, 1, none⟩) hBl).trans t1; have hk2 := (hb3'.cell (p := ⟨w1.heap.size, 2, none⟩) hBl).trans t2; clear hb3 hb3' hs3))
      have hLN : ((V.take j).map (crf fs) ++ (nm, (X, sy)) :: V.drop (j + 1)).length = N := HLEN.out
      have hk3r : Rk w3 d (.slice (some ⟨g, 0, none⟩) ((V.take j).map (crf fs) ++ (nm, (X, sy)) :: V.drop (j + 1)).length capl) rm cl cb ((V.take j).map (crf fs) ++ (nm, (X, sy)) :: V.drop (j + 1)) := by rw [hLN]; exact HKQ.out.1.ch (Ch.of_below (S := fun _ => False) HB3.out) (fun _ _ e => e)
      have P1 := fun m => Rk.put (y := (lft X sy tk pw, sy)) hk3r rfl 1 (.string (ba (lft X sy tk pw))) (by omega) rfl m
      have hLN2 : ((V.take j).map (crf fs) ++ (nm, (lft X sy tk pw, sy)) :: V.drop (j + 1)).length = N := by rw [← hLN]; simp
      rw [hLN, hlj] at P1
      have P2 : ∀ m1 m2, Rk ((((w3.drewN m1).setCell ⟨g, j * 3 + 1, none⟩ (.string (ba (lft X sy tk pw)))).drewN m2).setCell ⟨g, j * 3 + 2, none⟩ (.int .i64 (lft X sy tk pw).length)) d (.slice (some ⟨g, 0, none⟩) N capl) rm cl cb ((V.take j).map (crf fs) ++ (nm, (lft X sy tk pw, (lft X sy tk pw).length)) :: V.drop (j + 1)) := by
        intro m1 m2
        have hh := P1 m1
        rw [← hLN2] at hh
        have := Rk.put (y := (lft X sy tk pw, (lft X sy tk pw).length)) hh rfl 2 (.int .i64 (lft X sy tk pw).length) (by omega) rfl m2
        rw [hLN2, hlj] at this
        exact this
      have C1 := fun m => (P1 m).c1
      have F1 : ∀ m o, ((w3.drewN m).setCell ⟨g, j * 3 + 1, none⟩ (.string (ba (lft X sy tk pw)))).frozen? ⟨g, o, none⟩ = false := fun m o => by
        have hr := (P1 m).row
        rw [hLN2] at hr
        exact hr.frozenAt o
      have F0 : ∀ o, w3.frozen? ⟨g, o, none⟩ = false := fun o => by have hr := hk3r.row; rw [hLN] at hr; exact hr.frozenAt o
      have C2 : ∀ m, ((w3.drewN m).setCell ⟨g, j * 3 + 1, none⟩ (.string (ba (lft X sy tk pw)))).cell? ⟨g, j * 3 + 2, none⟩ = some (.int .i64 sy) := fun m => by
        have hr := (P1 m).row
        rw [hLN2] at hr
        rw [hr.cellAt _ (by omega)]
        have := rfs_at ((V.take j).map (crf fs)) (V.drop (j + 1)) (nm, (lft X sy tk pw, sy)) 2 (by omega)
        rw [hlj] at this
        exact this
      have HC : Hid (∀ m1 m2, Ch (Rt d (.slice (some ⟨g, 0, none⟩) N capl)) w ((((w3.drewN m1).setCell ⟨g, j * 3 + 1, none⟩ (.string (ba (lft X sy tk pw)))).drewN m2).setCell ⟨g, j * 3 + 2, none⟩ (.int .i64 (lft X sy tk pw).length))) := fun m1 m2 =>
        ((((HKQ.out.2.then (Ch.of_below (S := fun _ => False) HB3.out) (fun _ _ e => e.elim)).drewN m1).setCell ⟨g, j * 3 + 1, none⟩ _ (fun _ => Or.inr rfl)).drewN m2).setCell ⟨g, j * 3 + 2, none⟩ _ (fun _ => Or.inr rfl)
      have HP2 := hid P2
      have hsz := ba_size (lft X sy tk pw)
      have C1' : (w3.setCell ⟨g, j * 3 + 1, none⟩ (.string (ba (lft X sy tk pw)))).cell? ⟨d, 1, none⟩ = some (.slice (some ⟨g, 0, none⟩) N capl) := C1 0
      have C2' : (w3.setCell ⟨g, j * 3 + 1, none⟩ (.string (ba (lft X sy tk pw)))).cell? ⟨g, j * 3 + 2, none⟩ = some (.int .i64 sy) := C2 0
      have F1' : (w3.setCell ⟨g, j * 3 + 1, none⟩ (.string (ba (lft X sy tk pw)))).frozen? ⟨g, j * 3 + 2, none⟩ = false := F1 0 (j * 3 + 2)
      have F0' := F0 (j * 3 + 1)
      have HNW2 := HNW
      generalize lft X sy tk pw = L at *
      generalize ba L = LB at *
      generalize L.length = LN at *
      clear P1 P2 C1 C2 F1 F0 hLN hLN2 hk3r HKQ
      go_wp2_with fail
      go_roundg k
      case measure => omega
      case rel => exact ⟨j + 1, by omega, by first | exact congrArg (Value.int .i64) EW.out | rfl, ⟨by rw [HNW2.out]; exact HP2.out 0 0, HC.out 0 0⟩⟩
    · have hltD : decide ((j : Int) < N) = false := by simp; omega
      have e1 : V.take j = V := List.take_of_length_le (by rw [HN.out]; omega)
      have e2 : V.drop j = [] := List.drop_of_length_le (by rw [HN.out]; omega)
      have hq := HQ.out
      rw [e1, e2, List.append_nil] at hq
      have HE : Hid (RAft w (Rt d (.slice al N capl)) d rm cl cb (V.map (crf fs)) wr) := ⟨_, ⟨_, hq.1, rfl⟩, hq.2, fun _ hi => Or.inl hi⟩
      clear hq HQ
      go_wp2_with fail
      go_end0
      exact ⟨rfl, HE.out⟩
end Go.Proofs.Ythjbhfhdepepmaa
namespace Go.Proofs.Ythjbhfhdepepmaa
open Go.RowKit
theorem fts_cells {w wr : World} {a : Option Addr} {ms : List Ft3} (h : Fts w a ms) (hb : Below w.heap.size w wr) {j : Nat} (hj : j < ms.length) : ∃ b off, a = some ⟨b, off, none⟩ ∧ wr.cell? ⟨b, off + j * 3, none⟩ = some (.string (ms.getD j t00).1) ∧ wr.cell? ⟨b, off + j * 3 + 1, none⟩ = some (.int .i64 (ms.getD j t00).2.1) ∧ wr.cell? ⟨b, off + j * 3 + 2, none⟩ = some (ovS (ms.getD j t00).2.2) := by
  rcases h.kept hb with e | ⟨b, off, e1, e2, e3⟩
  · rw [e] at hj; simp at hj
  · exact ⟨b, off, e1, e3 j hj⟩
theorem wrs_cells {w wr : World} {a : Option Addr} {ws : List (Int × ByteArray)} (h : Wrs w a ws) (hb : Below w.heap.size w wr) {j : Nat} (hj : j < ws.length) : ∃ b off, a = some ⟨b, off, none⟩ ∧ wr.cell? ⟨b, off + j * 2, none⟩ = some (.int .i64 (ws.getD j w00).1) ∧ wr.cell? ⟨b, off + j * 2 + 1, none⟩ = some (.string (ws.getD j w00).2) := by
  rcases h.kept hb with e | ⟨b, off, e1, e2, e3⟩
  · rw [e] at hj; simp at hj
  · exact ⟨b, off, e1, e3 j hj⟩
set_option maxRecDepth 20000 in
set_option maxHeartbeats 4000000 in
theorem samefates_w (N : Nat) (a a2 : Option Addr) (c c2 : Nat) (ms ms2 : List Ft3) (fs : List Ftp) (w : World) (hN : fs.length = N) (hF : Fts w a ms) (hR : Ftw w (fun _ => False) ms fs) (hF2 : Fts w a2 ms2) (hR2 : Ftw w (fun _ => False) ms2 fs) (hl : N ≤ 140737488355328) :
    Calls Try.prog 18 #[.slice a N c, .slice a2 N c2] w fun e w' => e = .returned (.bool true) ∧ Below w.heap.size w w' := by
  have HN := hid hN
  have HF := hid hF
  have HR := hid hR
  have HF2 := hid hF2
  have HR2 := hid hR2
  clear hN hF hR hF2 hR2
  go_enter Try.func18, Try.ntmps18
  go_wp2_with fail
  go_loopg [5] N (fun k vi wr => ∃ j : Nat, j + k = N ∧ vi = .int .i64 j ∧ Hid (Below w.heap.size w wr))
  case atStart => exact ⟨0, by omega, rfl, Below.refl _ _⟩
  case round =>
    obtain ⟨j, hj, rfl, HD⟩ := hrel
    by_cases hlt : j < N
    · obtain ⟨k', rfl⟩ : ∃ k', gk = k' + 1 := ⟨gk - 1, by omega⟩
      have hltI : (j : Int) < N := by omega
      have hjf : j < fs.length := by rw [HN.out]; exact hlt
      obtain ⟨r1, r2, r3, r4, _, r6, r7, r8⟩ := HR.out.2 j hjf
      obtain ⟨s1, s2, s3, s4, _, _, _, _⟩ := HR2.out.2 j hjf
      obtain ⟨ga, oa, rfl, z0, z1, z2⟩ := fts_cells HF.out HD.out (j := j) (by rw [HR.out.1]; exact hjf)
      obtain ⟨gb, ob, rfl, z3, z4, z5⟩ := fts_cells HF2.out HD.out (j := j) (by rw [HR2.out.1]; exact hjf)
      generalize fs.getD j p00 = P at *
      generalize ms.getD j t00 = T at *
      generalize ms2.getD j t00 = S at *
      obtain ⟨pn, pk, pw⟩ := P
      obtain ⟨tn, tk, ta, tl, tc⟩ := T
      obtain ⟨sn, sk, sa, sl, sc⟩ := S
      simp only [ovS] at r1 r2 r3 r4 r7 s1 s2 s3 s4 z0 z1 z2 z3 z4 z5
      subst r1 r2 r3
      subst s1 s2 s3
      have HW := hid (r4.kept HD.out)
      have HW2 := hid (s4.kept HD.out)
      have hg1 := World.block_lt_of_cell? _ _ z2
      have hg2 := World.block_lt_of_cell? _ _ z5
      have HZ : Hid (∀ wx, Below wr.heap.size wr wx → wx.cell? ⟨ga, oa + j * 3 + 2, none⟩ = some (.slice ta pw.length tc) ∧ wx.cell? ⟨gb, ob + j * 3 + 2, none⟩ = some (.slice sa pw.length sc)) := fun wx hb => ⟨(hb.cell (p := ⟨ga, oa + j * 3 + 2, none⟩) hg1).trans z2, (hb.cell (p := ⟨gb, ob + j * 3 + 2, none⟩) hg2).trans z5⟩
      have HJ := hid hj
      clear hj r4 s4 hjf hg1 hg2
      go_wp2_with fail
      go_big_quiet (fail)
      go_wp2_with fail
      have HDq : Hid (Below wr.heap.size wr (wr.drewN nq)) := ⟨rfl, rfl, rfl, Nat.le_refl _, fun _ _ => rfl⟩
      generalize wr.drewN nq = wy at *
      clear z0 z1 z2 z3 z4 z5
      go_loopg [6] pw.length (fun k vi wx => ∃ i : Nat, i + k = pw.length ∧ vi = .int .i64 i ∧ Hid (Below wr.heap.size wr wx))
      case atStart => exact ⟨0, by omega, rfl, HDq.out⟩
      case round =>
        obtain ⟨i, hi, rfl, HI⟩ := hrel
        obtain ⟨y0, y1⟩ := HZ.out _ HI.out
        by_cases hil : i < pw.length
        · obtain ⟨k, rfl⟩ : ∃ k, gk = k + 1 := ⟨gk - 1, by omega⟩
          have hilI : (i : Int) < pw.length := by omega
          obtain ⟨p1, q1, rfl, c0, c1⟩ := wrs_cells HW.out HI.out hil
          obtain ⟨p2, q2, rfl, c2, c3⟩ := wrs_cells HW2.out HI.out hil
          generalize pw.getD i w00 = x at *
          obtain ⟨xa, xd⟩ := x
          have HIK := hid hi
          clear hi
          go_wp2_with fail
          go_big_quiet (fail)
          have HIq := hid (HI.out.trans ((⟨rfl, rfl, rfl, Nat.le_refl _, fun _ _ => rfl⟩ : Below wr.heap.size wr (wr.drewN nq)).mono HI.out.size))
          generalize wr.drewN nq = wz at *
          clear c0 c1 c2 c3 y0 y1
          go_wp2_with fail
          go_roundg k
          case measure => have := HIK.out; omega
          case rel => exact ⟨i + 1, by have := HIK.out; omega, congrArg (Value.int .i64) (by omega), HIq.out⟩
        · have hilI : ¬ (i : Int) < pw.length := by omega
          go_wp2_with fail
          go_roundg k'
          case measure => omega
          case rel => exact ⟨j + 1, by have := HJ.out; omega, congrArg (Value.int .i64) (by omega), HD.out.trans (HI.out.mono HD.out.size)⟩
    · have hltI : ¬ (j : Int) < N := by omega
      go_wp2_with fail
      go_ret
      exact ⟨rfl, HD.out⟩
end Go.Proofs.Ythjbhfhdepepmaa
namespace Go.Proofs.Ythjbhfhdepepmaa
open Go.RowKit
section
variable {w0 : World} {w : World} {d r : Nat} {rm : Nat} {V V1 : Vw} {a : Option Addr} {cap : Nat} {ms : List Ft3} {fs : List Ftp}
theorem p_check (h : Pr w0 w0.heap.size w d r rm 0 0 V 0 0 V1) (hs : SV rm V) (hF : Fts w a ms) (hR : Ftw w (fun _ => False) ms fs) (hl : ms.length ≤ 140737488355328) :
    Calls Try.prog 16 #[.pointer (some ⟨d, 0, none⟩), .slice a ms.length cap] w fun e w' => e = .returned (.int .i64 (chk V fs)) ∧ Below w.heap.size w w' := by
  obtain ⟨fd, fr, h1, _⟩ := h
  exact check_any d fd rm 0 0 V a cap ms fs w h1 hs hF hR hl
theorem p_rcheck (h : Pr w0 w0.heap.size w d r rm 0 0 V1 0 0 V) (hs : SV rm V) (hF : Fts w a ms) (hR : Ftw w (fun _ => False) ms fs) (hl : ms.length ≤ 140737488355328) (hc : ms.length ≤ cap) :
    Calls Try.prog 17 #[.pointer (some ⟨r, 0, none⟩), .slice a ms.length cap] w fun e w' => e = .returned (.int .i64 (chk V fs)) ∧ Below w.heap.size w w' := by
  obtain ⟨fd, fr, _, h1, _⟩ := h
  exact rcheck_any r fr rm 0 0 V a cap ms fs w h1 hs hF hR hl hc
theorem p_least (h : Pr w0 w0.heap.size w d r rm 0 0 V 0 0 V1) (hs : SV rm V) :
    Calls Try.prog 19 #[.pointer (some ⟨d, 0, none⟩)] w fun e w' => ∃ g N, e = .returned (.slice (some ⟨g, 0, none⟩) N N) ∧ N = V.length ∧ w.heap.size ≤ g ∧ w'.ownsRow w.heap.size 24 3 (.slice (some ⟨g, 0, none⟩) N N) N (fcs (lst V)) ∧ Below w.heap.size w w' := by
  obtain ⟨fd, fr, h1, _⟩ := h
  exact least_any d fd rm 0 0 V w h1 hs
theorem p_most (h : Pr w0 w0.heap.size w d r rm 0 0 V 0 0 V1) (hs : SV rm V) :
    Calls Try.prog 21 #[.pointer (some ⟨d, 0, none⟩)] w fun e w' => ∃ g N, e = .returned (.slice (some ⟨g, 0, none⟩) N N) ∧ N = V.length ∧ w.heap.size ≤ g ∧ w'.ownsRow w.heap.size 24 3 (.slice (some ⟨g, 0, none⟩) N N) N (fcs (mst V)) ∧ Below w.heap.size w w' := by
  obtain ⟨fd, fr, h1, _⟩ := h
  exact most_any d fd rm 0 0 V w h1 hs
theorem p_rleast (h : Pr w0 w0.heap.size w d r rm 0 0 V1 0 0 V) (hs : SV rm V) :
    Calls Try.prog 20 #[.pointer (some ⟨r, 0, none⟩)] w fun e w' => ∃ v, e = .returned v ∧ w'.ownsRow w.heap.size 24 3 v V.length (fcs (lst V)) ∧ Below w.heap.size w w' := by
  obtain ⟨fd, fr, _, h1, _⟩ := h
  exact rleast_any r fr rm 0 0 V w h1 hs
theorem p_rmost (h : Pr w0 w0.heap.size w d r rm 0 0 V1 0 0 V) (hs : SV rm V) :
    Calls Try.prog 22 #[.pointer (some ⟨r, 0, none⟩)] w fun e w' => ∃ v, e = .returned v ∧ w'.ownsRow w.heap.size 24 3 v V.length (fcs (mst V)) ∧ Below w.heap.size w w' := by
  obtain ⟨fd, fr, _, h1, _⟩ := h
  exact rmost_any r fr rm 0 0 V w h1 hs
theorem p_same (h : Pr w0 w0.heap.size w d r rm 0 0 V 0 0 V) (hs : SV rm V) :
    Calls Try.prog 27 #[.pointer (some ⟨d, 0, none⟩), .pointer (some ⟨r, 0, none⟩)] w fun e w' => e = .returned (.bool true) ∧ Below w.heap.size w w' := by
  obtain ⟨fd, fr, h1, h2, _⟩ := h
  exact same8_any d r fd fr rm 0 0 V w h1 h2 hs
theorem p_harm (h : Pr w0 w0.heap.size w d r rm 0 0 V 0 0 V1) (hs : SV rm V) (hO : FtO w a ms fs) (hl : ms.length ≤ 140737488355328) :
    Calls Try.prog 23 #[.pointer (some ⟨d, 0, none⟩), .slice a ms.length cap] w fun e w' => e = .returned (.tuple #[]) ∧ Pr w0 w0.heap.size w' d r rm 0 0 (hms rm fs V) 0 0 V1 ∧ Oth w w' :=
  h.prog (fun fa hd => harmall_any d fa rm 0 0 V a cap ms fs w hd hs hO.F (hO.ftw fa (ds_ty hd)) (hO.haf fa (ds_ty hd)) hl) (fun _ k1 k2 => ⟨rfl, k1, k2⟩)
theorem p_crash (h : Pr w0 w0.heap.size w d r rm 0 0 V 0 0 V1) (hs : SV rm V) (hO : FtO w a ms fs) (hl : ms.length ≤ 140737488355328) :
    Calls Try.prog 25 #[.pointer (some ⟨d, 0, none⟩), .slice a ms.length cap] w fun e w' => e = .returned (.tuple #[]) ∧ Pr w0 w0.heap.size w' d r rm 0 0 (V.map (crf fs)) 0 0 V1 ∧ Oth w w' :=
  h.prog (fun fa hd => crashall_w d fa rm 0 0 V a cap ms fs w hd hs hO.F (hO.ftw fa (ds_ty hd)) (hO.haf fa (ds_ty hd)) hl) (fun _ k1 k2 => ⟨rfl, k1, k2⟩)
theorem Pr.refB (h : Pr w0 w0.heap.size w d r rm 0 0 V 0 0 V1) {Q : Ending → World → Prop} {V2 : Vw} {f : FuncId} {args : Array Value} {v : Value}
    (hc : ∀ fr, Rs w r fr rm 0 0 V1 → (∀ x, fr x → w0.heap.size ≤ x) → Calls Try.prog f args w fun e w' => e = .returned v ∧ RAft w fr r rm 0 0 V2 w') (hQ : ∀ w', Pr w0 w0.heap.size w' d r rm 0 0 V 0 0 V2 → OthA w w' → Q (.returned v) w') : Calls Try.prog f args w Q := by
  obtain ⟨fa, fb, h1, h2, h3, h4, h5, h6, h7⟩ := h
  refine (hc fb h2 h5).mono ?_
  obtain ⟨fl, h2, rfl⟩ := h2
  rintro e w' ⟨rfl, fb', k1, k2, k3⟩
  refine hQ w' ⟨fa, fb', h1.ch k2 (fun i ha hb => h3 i ha hb), k1, fun i ha hb => ?_, h4, fun i hb => ?_, Nat.le_trans h6 k2.size, h7.trans (k2.below h6 (fun i hi hf => by have := h5 i hf; omega))⟩ (h2.oth k2)
  · rcases k3 i hb with k | k
    · exact h3 i ha k
    · have := h1.lt ha; omega
  · rcases k3 i hb with k | k
    · exact h5 i k
    · omega
theorem p_rharm (h : Pr w0 w0.heap.size w d r rm 0 0 V 0 0 V1) (hs : SV rm V1) (hI : FtIn w0 a ms fs) (hl : ms.length ≤ 140737488355328) :
    Calls Try.prog 24 #[.pointer (some ⟨r, 0, none⟩), .slice a ms.length cap] w fun e w' => e = .returned (.tuple #[]) ∧ Pr w0 w0.heap.size w' d r rm 0 0 V 0 0 (hms rm fs V1) ∧ OthA w w' :=
  h.refB (fun fr hr hH => rharmall_any r fr rm 0 0 V1 a cap ms fs w hr hs (hI.fts h.below) (hI.ftw h.below hH) (hI.haf hH) hl) (fun _ k1 k2 => ⟨rfl, k1, k2⟩)
theorem p_rcrash (h : Pr w0 w0.heap.size w d r rm 0 0 V 0 0 V1) (hs : SV rm V1) (hI : FtIn w0 a ms fs) (hl : ms.length ≤ 140737488355328) :
    Calls Try.prog 26 #[.pointer (some ⟨r, 0, none⟩), .slice a ms.length cap] w fun e w' => e = .returned (.tuple #[]) ∧ Pr w0 w0.heap.size w' d r rm 0 0 V 0 0 (V1.map (crf fs)) ∧ OthA w w' :=
  h.refB (fun fr hr hH => rcrash_w r fr rm 0 0 V1 a cap ms fs w hr hs (hI.fts h.below) (hI.ftw h.below hH) (hI.haf hH) hl) (fun _ k1 k2 => ⟨rfl, k1, k2⟩)
theorem p_create (h : Pr w0 w0.heap.size w d r rm 0 0 V 0 0 V1) (nm : ByteArray) (hn : nm.size ≤ maxLen) :
    Calls Try.prog 28 #[.pointer (some ⟨d, 0, none⟩), .string nm] w fun e w' => e = .returned (.int .i64 (crE nm V)) ∧ Pr w0 w0.heap.size w' d r rm 0 0 (crV nm V) 0 0 V1 ∧ Oth w w' :=
  h.prog (fun fa hd => s_create d fa rm 0 0 V nm w hd hn) (fun _ k1 k2 => ⟨rfl, k1, k2⟩)
theorem p_rcreate (h : Pr w0 w0.heap.size w d r rm 0 0 V 0 0 V1) (hs : SV rm V1) (nm : ByteArray) (hn : nm.size ≤ maxLen) :
    Calls Try.prog 29 #[.pointer (some ⟨r, 0, none⟩), .string nm] w fun e w' => e = .returned (.int .i64 (crE nm V1)) ∧ Pr w0 w0.heap.size w' d r rm 0 0 V 0 0 (crV nm V1) ∧ OthA w w' :=
  h.refA (fun fl hk => rcreate_any r fl rm 0 0 V1 nm w hk hs hn) (fun _ k1 k2 => ⟨rfl, k1, k2⟩)
theorem p_append (h : Pr w0 w0.heap.size w d r rm 0 0 V 0 0 V1) (nm s : ByteArray) (hn : nm.size ≤ maxLen) :
    Calls Try.prog 30 #[.pointer (some ⟨d, 0, none⟩), .string nm, .string s] w fun e w' => e = .returned (.tuple #[.int .i64 (apN (vl nm V) rm (vt V) s), .int .i64 (apE (vl nm V) rm (vt V) s)]) ∧ Pr w0 w0.heap.size w' d r rm 0 0 (apV nm rm s V) 0 0 V1 ∧ Oth w w' :=
  h.prog (fun fa hd => s_append d fa rm 0 0 V nm w hd s hn) (fun _ k1 k2 => ⟨rfl, k1, k2⟩)
theorem p_rappend (h : Pr w0 w0.heap.size w d r rm 0 0 V 0 0 V1) (hs : SV rm V1) (nm s : ByteArray) :
    Calls Try.prog 31 #[.pointer (some ⟨r, 0, none⟩), .string nm, .string s] w fun e w' => e = .returned (.tuple #[.int .i64 (apN (vl nm V1) rm (vt V1) s), .int .i64 (apE (vl nm V1) rm (vt V1) s)]) ∧ Pr w0 w0.heap.size w' d r rm 0 0 V 0 0 (apV nm rm s V1) ∧ OthA w w' :=
  h.refA (fun fl hk => rappend_any r fl rm 0 0 V1 nm s w hk hs) (fun _ k1 k2 => ⟨rfl, k1, k2⟩)
end
/-- Two plain lists of fates are the same. -/
theorem same_rows (l : List (ByteArray × Int)) (g N B B2 : Nat) (v : Value) (w : World) (h1 : w.ownsRow B 24 3 (.slice (some ⟨g, 0, none⟩) N N) N (fcs l)) (h2 : w.ownsRow B2 24 3 v N (fcs l)) (hN : N = l.length) (hl : N ≤ 65536) :
    Calls Try.prog 18 #[.slice (some ⟨g, 0, none⟩) N N, v] w fun e w' => e = .returned (.bool true) ∧ Below w.heap.size w w' := by
  have e : gcs (l.map (fun x => (x, Value.slice none 0 0))) = fcs l := by
    clear h1 h2 hN
    induction l with
    | nil => rfl
    | cons x l ih => 
      show gcell (x, Value.slice none 0 0) ++ gcs (l.map _) = fcell x ++ fcs l
      rw [ih]
      rfl
  refine samefates_yes l (l.map (fun x => (x, Value.slice none 0 0))) g N B B2 v w h1 (by rw [e]; exact h2) (by rw [List.map_map]; exact List.map_id l) (fun x hx => ?_) hN hl
  obtain ⟨y, _, rfl⟩ := List.mem_map.1 hx
  exact ⟨none, 0, rfl⟩
/-- A blow: a crash or a harm, its fates where they lie, a file made behind it. -/
abbrev Blw := Bool × (Option Addr × Nat × List Ft3 × List Ftp) × ByteArray × ByteArray × Nat
def b00 : Blw := (false, (none, 0, [], []), ByteArray.empty, ByteArray.empty, 0)
def Bls (w : World) (a : Option Addr) (bs : List Blw) : Prop := bs = [] ∨ ∃ b off, a = some ⟨b, off, none⟩ ∧ b < w.heap.size ∧ ∀ j, j < bs.length → w.cell? ⟨b, off + j * 5, none⟩ = some (.bool (bs.getD j b00).1) ∧ w.cell? ⟨b, off + j * 5 + 1, none⟩ = some (.slice (bs.getD j b00).2.1.1 (bs.getD j b00).2.1.2.2.1.length (bs.getD j b00).2.1.2.1) ∧ w.cell? ⟨b, off + j * 5 + 2, none⟩ = some (.string (bs.getD j b00).2.2.1) ∧ w.cell? ⟨b, off + j * 5 + 3, none⟩ = some (.string (bs.getD j b00).2.2.2.1) ∧ w.cell? ⟨b, off + j * 5 + 4, none⟩ = some (.int .u16 (bs.getD j b00).2.2.2.2)
structure BlOk (w : World) (x : Blw) : Prop where
  ft : FtIn w x.2.1.1 x.2.1.2.2.1 x.2.1.2.2.2
  len : x.2.1.2.2.1.length ≤ 2932031007402
  cap : x.2.1.2.2.1.length ≤ x.2.1.2.1
  nil : ∀ j, j < x.2.1.2.2.2.length → ((x.2.1.2.2.1.getD j t00).2.2.1 = none → (x.2.1.2.2.1.getD j t00).2.2.2.2 = 0) ∧ (x.2.1.2.2.2.getD j p00).2.2.length ≤ 5864062014805
  nm : x.2.2.1.size ≤ maxLen
  dat : x.2.2.2.1.size ≤ maxLen
end Go.Proofs.Ythjbhfhdepepmaa
namespace Go.Proofs.Ythjbhfhdepepmaa
open Go.RowKit
theorem own_belH {w w' : World} {B n : Nat} {v : Value} {T : TypeId} {sz : Nat} {l : List Value} (h : w.ownsRow B T sz v n l) (hb : Below w.heap.size w w') : w'.ownsRow B T sz v n l := by
  refine ⟨h.1, ?_⟩
  rcases h.2 with h2 | ⟨g, cap, cur, e, hB, hg, r⟩
  · exact Or.inl h2
  · exact Or.inr ⟨g, cap, cur, e, hB, (hb.block g (lt_of_heap hg)).trans hg, r⟩
theorem bx_cells {w : World} {B : Nat} {T : TypeId} {fz : Nat × Nat} {v0 v1 v2 v3 v4 : Value} (h : w.heap[B]? = some (.cells #[v0, v1, v2, v3, v4] T fz)) : w.cell? ⟨B, 0, none⟩ = some v0 ∧ w.cell? ⟨B, 1, none⟩ = some v1 ∧ w.cell? ⟨B, 2, none⟩ = some v2 ∧ w.cell? ⟨B, 3, none⟩ = some v3 := by
  refine ⟨?_, ?_, ?_, ?_⟩ <;> simp [World.cell?, h]
theorem bls_cells {w wr : World} {a : Option Addr} {bs : List Blw} (h : Bls w a bs) (hb : Below w.heap.size w wr) {j : Nat} (hj : j < bs.length) : ∃ b off, a = some ⟨b, off, none⟩ ∧ wr.cell? ⟨b, off + j * 5, none⟩ = some (.bool (bs.getD j b00).1) ∧ wr.cell? ⟨b, off + j * 5 + 1, none⟩ = some (.slice (bs.getD j b00).2.1.1 (bs.getD j b00).2.1.2.2.1.length (bs.getD j b00).2.1.2.1) ∧ wr.cell? ⟨b, off + j * 5 + 2, none⟩ = some (.string (bs.getD j b00).2.2.1) ∧ wr.cell? ⟨b, off + j * 5 + 3, none⟩ = some (.string (bs.getD j b00).2.2.2.1) ∧ wr.cell? ⟨b, off + j * 5 + 4, none⟩ = some (.int .u16 (bs.getD j b00).2.2.2.2) := by
  rcases h with e | ⟨b, off, e1, e2, e3⟩
  · rw [e] at hj; simp at hj
  · have hh : ∀ o, wr.cell? ⟨b, o, none⟩ = w.cell? ⟨b, o, none⟩ := fun o => by simp only [World.cell?, hb.block b e2]
    refine ⟨b, off, e1, ?_⟩
    rw [hh, hh, hh, hh, hh]
    exact e3 j hj
set_option maxRecDepth 20000 in
set_option maxHeartbeats 8000000 in
theorem blows_walk (room : Int) (af : Option Addr) (capf : Nat) (fl : List (ByteArray × ByteArray × Nat)) (ab : Option Addr) (capb : Nat) (bs : List Blw) (w : World) (hFl : Fls w af fl) (hlf : fl.length ≤ 9223372036854775806) (hnf : ∀ f ∈ fl, FlOk f) (hB : Bls w ab bs) (hok : ∀ x ∈ bs, BlOk w x) (hlb : bs.length ≤ 9223372036854775806) :
    Calls Try.prog 4 #[.int .i64 room, .slice af fl.length capf, .slice ab bs.length capb] w fun e w' => e = .returned (.bool true) ∧ Below w.heap.size w w' := by
  have HFl := hid (fails_any w)
  have HLd : Hid (∀ wx, Below w.heap.size w wx → Calls Try.prog 14 #[.int .i64 room, .slice af fl.length capf] wx fun e w' => ∃ d r, e = .returned (.tuple #[.pointer (some ⟨d, 0, none⟩), .pointer (some ⟨r, 0, none⟩), .bool true]) ∧ Pr wx wx.heap.size w' d r (clamp room) 0 0 (lds (clamp room) fl) 0 0 (lds (clamp room) fl)) := fun wx hx => laid_any room af capf fl wx (by
    rcases hFl with h | ⟨b, off, h1, h2, h3⟩
    · exact Or.inl h
    · refine Or.inr ⟨b, off, h1, Nat.lt_of_lt_of_le h2 hx.size, fun j hj => ?_⟩
      have hh : wx.heap[b]? = w.heap[b]? := hx.block b h2
      have hc : ∀ o, wx.cell? ⟨b, o, none⟩ = w.cell? ⟨b, o, none⟩ := fun o => by simp [World.cell?, hh]
      rw [hc, hc, hc]
      exact h3 j hj) hlf hnf
  have hSV : SV (clamp room) (lds (clamp room) fl) := SV.lds (clamp_le _) fl
  generalize lds (clamp room) fl = V0 at *
  generalize clamp room = rm at *
  clear hFl hnf
  have HS0 := hid hSV
  have HB := hid hB
  have HOK := hid hok
  clear hSV hB hok
  generalize fl.length = NF at *
  generalize hNB : bs.length = NB at *
  have HNB := hid hNB
  clear hNB
  go_enter Try.func4, Try.ntmps4
  go_wp2_with (first | (go_at_call 9; refine HFl.out.mono ?_; rintro e w1 ⟨rfl, hb1⟩; have HB1 := hid hb1; clear hb1) | (go_at_call 14; refine (HLd.out _ HB1.out).mono ?_; rintro e w2 ⟨d, r, rfl, hp2⟩; have HT : Hid (Pr w w.heap.size w2 d r rm 0 0 V0 0 0 V0) := by (obtain ⟨fd, fr, k1, k2, k3, k4, k5, k6, k7⟩ := hp2; exact ⟨fd, fr, k1, k2, k3, fun x hx => Nat.le_trans HB1.out.size (k4 x hx), fun x hx => Nat.le_trans HB1.out.size (k5 x hx), Nat.le_trans HB1.out.size k6, HB1.out.trans (k7.mono HB1.out.size)⟩)))
  clear hp2 HFl HLd HB1
  go_loopg [26] NB (fun k i wr => ∃ (j : Nat) (V : Vw), j + k = NB ∧ i = .int .i64 j ∧ Hid (SV rm V) ∧ Hid (Pr w w.heap.size wr d r rm 0 0 V 0 0 V))
  case atStart => exact ⟨0, V0, by omega, rfl, HS0.out, HT.out⟩
  case round =>
    clear HT HS0
    obtain ⟨j, V, hk, rfl, HS, HP⟩ := hrel
    by_cases hlt : j < NB
    · obtain ⟨k', rfl⟩ : ∃ k', gk = k' + 1 := ⟨gk - 1, by omega⟩
      have hltI : (j : Int) < NB := by omega
      have hjb : j < bs.length := by rw [HNB.out]; exact hlt
      obtain ⟨b, off, rfl, q0, q1, q2, q3, q4⟩ := bls_cells HB.out HP.out.below hjb
      have HX : Hid (BlOk w (bs.getD j b00)) := HOK.out _ (by rw [List.getD_eq_getElem?_getD, List.getElem?_eq_getElem hjb]; exact List.getElem_mem _)
      generalize bs.getD j b00 = x at *
      obtain ⟨hm, ⟨fa, fc, ms, fs⟩, nm, da, sf⟩ := x
      simp only at q0 q1 q2 q3 q4
      have HL : Hid (ms.length ≤ 2932031007402) := HX.out.len
      have HIf : Hid (FtIn w fa ms fs) := HX.out.ft
      have HNm : Hid (nm.size ≤ maxLen) := HX.out.nm
      have HWA : Hid (∀ wx, Below wr.heap.size wr wx → Calls Try.prog 15 #[.slice fa ms.length fc] wx fun e w' => ∃ a' ms' cap', e = .returned (.slice a' ms.length cap') ∧ ms'.length = ms.length ∧ FtO w' a' ms' fs ∧ Below wx.heap.size wx w') := fun wx hb => by
        have hb0 := HP.out.below.trans (hb.mono (by obtain ⟨_, _, _, _, _, _, _, k, _⟩ := HP.out; exact k))
        refine (copied_any fa fc ms fs wx (HX.out.ft.fts hb0) (HX.out.ft.ftw hb0 (fun _ h => h.elim)) HX.out.nil HX.out.len).mono ?_
        rintro e w' ⟨a', ms', c', k1, k2, k3, k4⟩
        exact ⟨a', ms', c', by rw [← k2]; exact k1, k2, k3, k4⟩
      have KOc : Hid (∀ wx a' ms' c' V1 V2, ms'.length = ms.length → Pr w w.heap.size wx d r rm 0 0 V1 0 0 V2 → SV rm V1 → FtO wx a' ms' fs → Calls Try.prog 16 #[.pointer (some ⟨d, 0, none⟩), .slice a' ms.length c'] wx fun e w' => e = .returned (.int .i64 (chk V1 fs)) ∧ Below wx.heap.size wx w') := fun wx a' ms' c' V1 V2 e h1 h2 h3 => by
        rw [← e]
        exact p_check h1 h2 h3.F (h3.ftw _ (fun _ _ _ _ _ _ h => h)) (by rw [e]; have := HL.out; omega)
      have KRc : Hid (∀ wx V1 V2, Pr w w.heap.size wx d r rm 0 0 V1 0 0 V2 → SV rm V2 → Calls Try.prog 17 #[.pointer (some ⟨r, 0, none⟩), .slice fa ms.length fc] wx fun e w' => e = .returned (.int .i64 (chk V2 fs)) ∧ Below wx.heap.size wx w') := fun wx V1 V2 h1 h2 =>
        p_rcheck h1 h2 (HIf.out.fts h1.below) (HIf.out.ftw h1.below (fun _ h => h.elim)) (by have := HL.out; omega) HX.out.cap
      have KOh : Hid (∀ wx a' ms' c' V1 V2, ms'.length = ms.length → Pr w w.heap.size wx d r rm 0 0 V1 0 0 V2 → SV rm V1 → FtO wx a' ms' fs → Calls Try.prog 23 #[.pointer (some ⟨d, 0, none⟩), .slice a' ms.length c'] wx fun e w' => e = .returned (.tuple #[]) ∧ Pr w w.heap.size w' d r rm 0 0 (hms rm fs V1) 0 0 V2 ∧ Oth wx w') := fun wx a' ms' c' V1 V2 e h1 h2 h3 => by
        rw [← e]
        exact p_harm h1 h2 h3 (by rw [e]; have := HL.out; omega)
      have KOx : Hid (∀ wx a' ms' c' V1 V2, ms'.length = ms.length → Pr w w.heap.size wx d r rm 0 0 V1 0 0 V2 → SV rm V1 → FtO wx a' ms' fs → Calls Try.prog 25 #[.pointer (some ⟨d, 0, none⟩), .slice a' ms.length c'] wx fun e w' => e = .returned (.tuple #[]) ∧ Pr w w.heap.size w' d r rm 0 0 (V1.map (crf fs)) 0 0 V2 ∧ Oth wx w') := fun wx a' ms' c' V1 V2 e h1 h2 h3 => by
        rw [← e]
        exact p_crash h1 h2 h3 (by rw [e]; have := HL.out; omega)
      have KRh : Hid (∀ wx V1 V2, Pr w w.heap.size wx d r rm 0 0 V1 0 0 V2 → SV rm V2 → Calls Try.prog 24 #[.pointer (some ⟨r, 0, none⟩), .slice fa ms.length fc] wx fun e w' => e = .returned (.tuple #[]) ∧ Pr w w.heap.size w' d r rm 0 0 V1 0 0 (hms rm fs V2) ∧ OthA wx w') := fun wx V1 V2 h1 h2 =>
        p_rharm h1 h2 HIf.out (by have := HL.out; omega)
      have KRx : Hid (∀ wx V1 V2, Pr w w.heap.size wx d r rm 0 0 V1 0 0 V2 → SV rm V2 → Calls Try.prog 26 #[.pointer (some ⟨r, 0, none⟩), .slice fa ms.length fc] wx fun e w' => e = .returned (.tuple #[]) ∧ Pr w w.heap.size w' d r rm 0 0 V1 0 0 (V2.map (crf fs)) ∧ OthA wx w') := fun wx V1 V2 h1 h2 =>
        p_rcrash h1 h2 HIf.out (by have := HL.out; omega)
      have KSf : Hid (∀ wx a' ms' c', ms'.length = ms.length → Below w.heap.size w wx → FtO wx a' ms' fs → Calls Try.prog 18 #[.slice a' ms.length c', .slice fa ms.length fc] wx fun e w' => e = .returned (.bool true) ∧ Below wx.heap.size wx w') := fun wx a' ms' c' e hb h3 =>
        samefates_w ms.length a' fa c' fc ms' ms fs wx (by rw [← e]; exact h3.len.symm) h3.F (h3.ftw _ (fun _ _ _ _ _ _ h => h)) (HIf.out.fts hb) (HIf.out.ftw hb (fun _ h => h.elim)) (by have := HL.out; omega)
      have HNW := hid (heap_new wr (Obj.cells #[.bool hm, .slice fa ms.length fc, .string nm, .string da, .int .u16 sf] 42))
      have HBA := hid (bel_alloc wr (Obj.cells #[.bool hm, .slice fa ms.length fc, .string nm, .string da, .int .u16 sf] 42))
      have HJ := hid hk
      clear hk hjb
      generalize ms.length = M at *
      go_wp2_with (go_at_call 15; refine (HWA.out _ HBA.out).mono ?_; rintro e w1 ⟨a', ms', c', rfl, hml, hfo, hb1⟩; have HML := hid hml; have HFO := hid hfo; have HB1 := hid hb1; clear hml hfo hb1)
      have HBX : Hid (w1.heap[wr.heap.size]? = some (.cells #[.bool hm, .slice fa M fc, .string nm, .string da, .int .u16 sf] 42 (0, 0))) := (HB1.out.block wr.heap.size (lt_of_heap HNW.out)).trans HNW.out
      have HB1 := hid (HBA.out.trans (HB1.out.mono HBA.out.size))
      have HP1 := hid (HP.out.kept HB1.out)
      have q1 : w1.cell? ⟨wr.heap.size, 1, none⟩ = some (.slice fa M fc) := by simp [World.cell?, HBX.out]
      have KC : Hid (∀ wx, Below w1.heap.size w1 wx → wx.cell? ⟨wr.heap.size, 1, none⟩ = some (.slice fa M fc) ∧ Pr w w.heap.size wx d r rm 0 0 V 0 0 V ∧ FtO wx a' ms' fs) := fun wx hb => ⟨by have := (hb.block wr.heap.size (lt_of_heap HBX.out)).trans HBX.out; simp [World.cell?, this], HP1.out.kept hb, HFO.out.keep (TK.below hb) (TK.below hb)⟩
      have HBz := hid (Below.refl w1.heap.size w1).drew
      have K1 : Hid (∀ wx, Below w1.heap.size w1 wx → Calls Try.prog 16 #[.pointer (some ⟨d, 0, none⟩), .slice a' M c'] wx fun e w' => e = .returned (.int .i64 (chk V fs)) ∧ Below wx.heap.size wx w') := fun wx hb => KOc.out wx a' ms' c' V V HML.out (KC.out wx hb).2.1 HS.out (KC.out wx hb).2.2
      have K2 : Hid (∀ wx, Below w1.heap.size w1 wx → Calls Try.prog 17 #[.pointer (some ⟨r, 0, none⟩), .slice fa M fc] wx fun e w' => e = .returned (.int .i64 (chk V fs)) ∧ Below wx.heap.size wx w') := fun wx hb => KRc.out wx V V (KC.out wx hb).2.1 HS.out
      have K3 : Hid (∀ wx, Below w1.heap.size w1 wx → Calls Try.prog 19 #[.pointer (some ⟨d, 0, none⟩)] wx fun e w' => ∃ g N, e = .returned (.slice (some ⟨g, 0, none⟩) N N) ∧ N = V.length ∧ wx.heap.size ≤ g ∧ w'.ownsRow wx.heap.size 24 3 (.slice (some ⟨g, 0, none⟩) N N) N (fcs (lst V)) ∧ Below wx.heap.size wx w') := fun wx hb => p_least (KC.out wx hb).2.1 HS.out
      have K4 : Hid (∀ wx, Below w1.heap.size w1 wx → Calls Try.prog 20 #[.pointer (some ⟨r, 0, none⟩)] wx fun e w' => ∃ v, e = .returned v ∧ w'.ownsRow wx.heap.size 24 3 v V.length (fcs (lst V)) ∧ Below wx.heap.size wx w') := fun wx hb => p_rleast (KC.out wx hb).2.1 HS.out
      have K5 : Hid (∀ wx, Below w1.heap.size w1 wx → Calls Try.prog 21 #[.pointer (some ⟨d, 0, none⟩)] wx fun e w' => ∃ g N, e = .returned (.slice (some ⟨g, 0, none⟩) N N) ∧ N = V.length ∧ wx.heap.size ≤ g ∧ w'.ownsRow wx.heap.size 24 3 (.slice (some ⟨g, 0, none⟩) N N) N (fcs (mst V)) ∧ Below wx.heap.size wx w') := fun wx hb => p_most (KC.out wx hb).2.1 HS.out
      have K6 : Hid (∀ wx, Below w1.heap.size w1 wx → Calls Try.prog 22 #[.pointer (some ⟨r, 0, none⟩)] wx fun e w' => ∃ v, e = .returned v ∧ w'.ownsRow wx.heap.size 24 3 v V.length (fcs (mst V)) ∧ Below wx.heap.size wx w') := fun wx hb => p_rmost (KC.out wx hb).2.1 HS.out
      have hct := HS.out.cnt
      have HLL := hid (lst_len V).symm
      have HLM := hid (mst_len V).symm
      generalize hck : chk V fs = CK at *
      clear hck q0 q2 q3 q4 KOc KRc HWA HNW HBA HX HIf
      go_region_held3 (fun z => z.cell? ⟨wr.heap.size, 1, none⟩ = some (.slice fa M fc)) ((first | assumption | go_keep)) (first
        | (go_at_call 16; refine (K1.out _ HBz.out).mono ?_; rintro e wz ⟨rfl, bz⟩; have HBz := hid (HBz.out.trans (bz.mono HBz.out.size)); have y1 := (KC.out _ HBz.out).1)
        | (go_at_call 17; refine (K2.out _ HBz.out).mono ?_; rintro e wz ⟨rfl, bz⟩; have HBz := hid (HBz.out.trans (bz.mono HBz.out.size)); have y1 := (KC.out _ HBz.out).1)
        | (go_at_call 19; refine (K3.out _ HBz.out).mono ?_; rintro e wz ⟨g1, N1, rfl, hN1, _, ho1, bz⟩; subst hN1; have HRow := hid ho1; clear ho1; have HBz := hid (HBz.out.trans (bz.mono HBz.out.size)); have y1 := (KC.out _ HBz.out).1)
        | (go_at_call 20; refine (K4.out _ HBz.out).mono ?_; rintro e wz ⟨v1, rfl, ho2, bz⟩; have HSF := hid (same_rows (lst V) g1 V.length _ _ v1 wz (own_belH HRow.out bz) ho2 HLL.out hct); clear HRow ho2; have HBz := hid (HBz.out.trans (bz.mono HBz.out.size)); have y1 := (KC.out _ HBz.out).1)
        | (go_at_call 21; refine (K5.out _ HBz.out).mono ?_; rintro e wz ⟨g1, N1, rfl, hN1, _, ho1, bz⟩; subst hN1; have HRow := hid ho1; clear ho1; have HBz := hid (HBz.out.trans (bz.mono HBz.out.size)); have y1 := (KC.out _ HBz.out).1)
        | (go_at_call 22; refine (K6.out _ HBz.out).mono ?_; rintro e wz ⟨v1, rfl, ho2, bz⟩; have HSF := hid (same_rows (mst V) g1 V.length _ _ v1 wz (own_belH HRow.out bz) ho2 HLM.out hct); clear HRow ho2; have HBz := hid (HBz.out.trans (bz.mono HBz.out.size)); have y1 := (KC.out _ HBz.out).1)
        | (go_at_call 18; refine HSF.out.mono ?_; rintro e wz ⟨rfl, bz⟩; clear HSF; have HBz := hid (HBz.out.trans (bz.mono HBz.out.size)); have y1 := (KC.out _ HBz.out).1))
      have HPz := hid (KC.out _ HBz.out).2.1
      have HFz := hid (KC.out _ HBz.out).2.2
      have HXz := hid ((HBz.out.block wr.heap.size (lt_of_heap HBX.out)).trans HBX.out)
      have z0 := (bx_cells HXz.out).1
      have HBR := hid (lt_of_heap HXz.out)
      clear K1 K2 K3 K4 K5 K6 KC HFO HP1 HB1 HBX q1 HBz y1
      cases hm
      all_goals go_wp2_with (first
        | (go_at_call 23; refine (KOh.out _ a' ms' c' V V HML.out HPz.out HS.out HFz.out).mono ?_; rintro e w3 ⟨rfl, hp3, ho3⟩; have HP3 := hid hp3; have HO3 := hid ho3; have HX3 := hid (ho3 _ _ _ _ HXz.out (by decide) (by decide) (by decide)); obtain ⟨_, y1, _⟩ := bx_cells HX3.out; clear hp3 ho3)
        | (go_at_call 25; refine (KOx.out _ a' ms' c' V V HML.out HPz.out HS.out HFz.out).mono ?_; rintro e w3 ⟨rfl, hp3, ho3⟩; have HP3 := hid hp3; have HO3 := hid ho3; have HX3 := hid (ho3 _ _ _ _ HXz.out (by decide) (by decide) (by decide)); obtain ⟨_, y1, _⟩ := bx_cells HX3.out; clear hp3 ho3)
        | (go_at_call 24; refine (KRh.out _ _ _ HP3.out HS.out).mono ?_; rintro e w4 ⟨rfl, hp4, ho4⟩; have HQ4 : Hid (∃ V4, SV rm V4 ∧ Pr w w.heap.size w4 d r rm 0 0 V4 0 0 V4) := ⟨_, SV.hms fs HS.out, hp4⟩; have HX4 := hid (ho4 _ _ _ _ HX3.out (by decide) (by decide) (by decide) (by decide) (by decide)); have HF4 := hid ((HFz.out.keep (TK.oth HO3.out (by decide) (by decide) (by decide)) (TK.oth HO3.out (by decide) (by decide) (by decide))).keep (TK.othA ho4 (by decide) (by decide) (by decide) (by decide) (by decide)) (TK.othA ho4 (by decide) (by decide) (by decide) (by decide) (by decide))); clear hp4 ho4 HP3 HO3; obtain ⟨V4, hs4, hp4⟩ := HQ4.out; have HS4 := hid hs4; have HP4 := hid hp4; clear HQ4 hs4 hp4)
        | (go_at_call 26; refine (KRx.out _ _ _ HP3.out HS.out).mono ?_; rintro e w4 ⟨rfl, hp4, ho4⟩; have HQ4 : Hid (∃ V4, SV rm V4 ∧ Pr w w.heap.size w4 d r rm 0 0 V4 0 0 V4) := ⟨_, HS.out.crf fs, hp4⟩; have HX4 := hid (ho4 _ _ _ _ HX3.out (by decide) (by decide) (by decide) (by decide) (by decide)); have HF4 := hid ((HFz.out.keep (TK.oth HO3.out (by decide) (by decide) (by decide)) (TK.oth HO3.out (by decide) (by decide) (by decide))).keep (TK.othA ho4 (by decide) (by decide) (by decide) (by decide) (by decide)) (TK.othA ho4 (by decide) (by decide) (by decide) (by decide) (by decide))); clear hp4 ho4 HP3 HO3; obtain ⟨V4, hs4, hp4⟩ := HQ4.out; have HS4 := hid hs4; have HP4 := hid hp4; clear HQ4 hs4 hp4)
        | (go_at_call 27; refine (p_same HP4.out HS4.out).mono ?_; rintro e w5 ⟨rfl, hb5⟩; have HP5 := hid (HP4.out.kept hb5); have HF5 := hid (HF4.out.keep (TK.below hb5) (TK.below hb5)); have HX5 := hid ((hb5.block _ (lt_of_heap HX4.out)).trans HX4.out); obtain ⟨_, y1, _⟩ := bx_cells HX5.out; clear hb5)
        | (go_at_call 18; refine (KSf.out _ a' ms' c' HML.out HP5.out.below HF5.out).mono ?_; rintro e w6 ⟨rfl, hb6⟩; have HP6 := hid (HP5.out.kept hb6); have HX6 := hid ((hb6.block _ (lt_of_heap HX5.out)).trans HX5.out); obtain ⟨x0, x1, x2, x3⟩ := bx_cells HX6.out; clear hb6))
      all_goals have HP7 := hid (HP6.out.kept (Below.refl w6.heap.size w6).drew)
      all_goals have HX7 : Hid (w6.drew.heap[wr.heap.size]? = _) := HX6.out
      all_goals clear HX3 HX4 HP4 HF4 HP5 HF5 HX5 HPz HFz HXz KOh KOx KRh KRx KSf HP6
      all_goals go_region_held3 (fun z => z.cell? ⟨wr.heap.size, 2, none⟩ = some (.string nm)) ((first | assumption | go_keep)) (first
        | (go_at_call 28; refine (p_create HP7.out nm HNm.out).mono ?_; rintro e w8 ⟨rfl, hp8, ho8⟩; have HP8 := hid hp8; have HX8 := hid (ho8 _ _ _ _ HX7.out (by decide) (by decide) (by decide)); obtain ⟨_, _, y2, _⟩ := bx_cells HX8.out; clear hp8 ho8)
        | (go_at_call 29; refine (p_rcreate HP8.out HS4.out nm HNm.out).mono ?_; rintro e w9 ⟨rfl, hp9, ho9⟩; have HP9 := hid hp9; have HX9 := hid (ho9 _ _ _ _ HX8.out (by decide) (by decide) (by decide) (by decide) (by decide)); obtain ⟨_, _, y2, y3⟩ := bx_cells HX9.out; clear hp9 ho9))
      all_goals have HS9 := hid (HS4.out.cr nm)
      all_goals generalize crV nm V4 = V9 at *
      all_goals clear HP7 HP8 HX7 HX8 HS4
      all_goals go_wp2_with (first
        | (go_at_call 30; refine (p_append HP9.out nm da HNm.out).mono ?_; rintro e wA ⟨rfl, hpA, hoA⟩; have HPA := hid hpA; have HXA := hid (hoA _ _ _ _ HX9.out (by decide) (by decide) (by decide)); obtain ⟨_, _, y2, y3⟩ := bx_cells HXA.out; clear hpA hoA)
        | (go_at_call 31; refine (p_rappend HPA.out HS9.out nm da).mono ?_; rintro e wB ⟨rfl, hpB, hoB⟩; have HPB := hid hpB; clear hpB hoB))
      all_goals go_roundg k'
      all_goals first
        | exact ⟨j + 1, apV nm rm da V9, by have := HJ.out; omega, congrArg (Value.int .i64) (by omega), HS9.out.ap nm da, HPB.out⟩
        | omega
    · have hltI : ¬ (j : Int) < NB := by omega
      have hjN : j = NB := by omega
      go_wp2_with (go_at_call 27; refine (p_same HP.out HS.out).mono ?_; rintro e w5 ⟨rfl, hb5⟩; have HP5 := hid (HP.out.kept hb5); clear hb5)
      go_ret
      exact ⟨rfl, HP5.out.below⟩
end Go.Proofs.Ythjbhfhdepepmaa
namespace Go.Proofs.Ythjbhfhdepepmaa
open Go.ChangeShapes Go.WideShapes Go.ChangeAt Go.RowKit Go.Deep
variable {H : Type} {enc : TypeId × Value → H} {W : World}
theorem open_wrsX {fuel : Nat} {cs : List Value} {x : DataW H × List MemPlace} (h : DataW.trod enc Try.prog W 0 (fun _ => true) true fuel 22 cs = some x) (hz : ∀ n ∈ x.1.weights Try.prog 22, n ≤ reachBytes) : ∃ (a : Option Addr) (cap : Nat) (ws : List (Int × ByteArray)), cs = [.slice a ws.length cap] ∧ Wrs W a ws ∧ ws.length ≤ 5864062014805 ∧ (∀ y ∈ ws, WrOk y) ∧ (a = none → cap = 0) := by
  rcases open_slice Try.underlying22 h with ⟨hcs', hx⟩ | ⟨x', l, c, m, n, D, Pl, hcs', _, hl', hm, hmm, hx, hel⟩
  · exact ⟨none, 0, [], by simpa using hcs', Or.inl rfl, by simp, by simp, fun _ => rfl⟩
  · simp only [if_true] at hmm
    subst hx
    simp only [DataW.weights, Try.underlying22, List.length_map, List.length_range, Try.bWrite, List.mem_cons, List.mem_append] at hz
    have hl0 := hz _ (Or.inl rfl)
    have each : ∀ i, i < l → ∃ o : Int × ByteArray, W.cell? ((x'.add (i * 2)).add 0) = some (.int .i64 o.1) ∧ W.cell? ((x'.add (i * 2)).add 1) = some (.string o.2) ∧ WrOk o := by
      intro i hi
      obtain ⟨cs', e1, e2⟩ := hel i (by omega)
      rw [Try.cWrite] at e1
      obtain ⟨y, hy, hwf, hb⟩ := open_write e2
      have g := (World.cells?_some e1)
      have hb' := hz _ (Or.inr (Or.inl (w_mem_all (List.mem_map_of_mem (List.mem_range.2 hi)) _ hb)))
      refine ⟨y, ?_, ?_, (bounds_i64 hwf).1, (bounds_i64 hwf).2, ?_⟩
      · rw [g.2.2 0 (by omega), hy]; rfl
      · rw [g.2.2 1 (by omega), hy]; rfl
      · unfold reachBytes at hb'; omega
    obtain ⟨f, hf⟩ := choose_lt each
    refine ⟨some x', c, (List.range l).map f, by simpa using hcs', ?_, ?_, ?_, fun e => by cases e⟩
    · by_cases h0 : l = 0
      · left; subst h0; rfl
      · right
        obtain ⟨b, off, spot⟩ := x'
        have h00 := (hf 0 (by omega)).1
        have hspot : spot = none := by simpa [Addr.add] using World.cell?_spot h00
        subst hspot
        have hlt := World.block_lt_of_cell? _ _ h00
        refine ⟨b, off, rfl, by simpa [Addr.add] using hlt, fun j hj => ?_⟩
        have hj' : j < l := by simpa using hj
        obtain ⟨k0, k1, _⟩ := hf j hj'
        rw [Go.WideShapes.add_plain, Go.WideShapes.add_plain] at k0 k1
        have eg : ((List.range l).map f).getD j w00 = f j := by
          rw [List.getD_eq_getElem?_getD, List.getElem?_map, List.getElem?_range hj']
          rfl
        rw [eg]
        exact ⟨by simpa using k0, k1⟩
    · simp only [List.length_map, List.length_range]
      unfold reachBytes at hl0
      omega
    · intro y hy
      simp only [List.mem_map, List.mem_range] at hy
      obtain ⟨i, hi, rfl⟩ := hy
      exact (hf i hi).2.2
set_option maxRecDepth 20000 in
theorem open_fateX {fuel : Nat} {cs : List Value} {x : DataW H × List MemPlace} (h : DataW.trod enc Try.prog W 0 (fun _ => true) true fuel 24 cs = some x) (hz : ∀ n ∈ x.1.weights Try.prog 24, n ≤ reachBytes) : ∃ (nm : ByteArray) (kp : Int) (a : Option Addr) (cap : Nat) (ws : List (Int × ByteArray)), cs = [.string nm, .int .i64 kp, .slice a ws.length cap] ∧ Wrs W a ws ∧ ws.length ≤ 5864062014805 ∧ (∀ y ∈ ws, WrOk y) ∧ (a = none → cap = 0) ∧ nm.size ≤ 140737488355328 ∧ (Lit.int .i64 kp).wf = true := by
  obtain ⟨xs, n, _, rfl, hlen, hxs, hf⟩ := DataW.trod_struct Try.underlying24 h
  rw [Try.cFate] at hlen
  match xs, hxs with
  | [y0, y1, y2], _ =>
    have k0 : DataW.trod enc Try.prog W 0 (fun _ => true) true n 9 ((cs.drop 0).take (Try.prog.cellsOf 9)) = some y0 := hf 0 _ rfl
    have k1 : DataW.trod enc Try.prog W 0 (fun _ => true) true n 3 ((cs.drop 1).take (Try.prog.cellsOf 3)) = some y1 := hf 1 _ rfl
    have k2 : DataW.trod enc Try.prog W 0 (fun _ => true) true n 22 ((cs.drop 2).take (Try.prog.cellsOf 22)) = some y2 := hf 2 _ rfl
    rw [Try.cStr] at k0
    rw [Try.cI64] at k1
    rw [Try.cWrs] at k2
    have hz' : ∀ n ∈ DataW.weightsEach Try.prog [9, 3, 22] [y0.1, y1.1, y2.1], n ≤ reachBytes := by
      have e : DataW.weights Try.prog 24 (DataW.agg (H := H) [y0.1, y1.1, y2.1]) = DataW.weightsEach Try.prog [9, 3, 22] [y0.1, y1.1, y2.1] := by
        simp only [DataW.weights, Try.underlying24]
        rfl
      rw [← e]
      exact hz
    obtain ⟨nm, q0, r0, w0⟩ := DataW.trod_string Try.underlying9 k0
    obtain ⟨kp, q1, r1, w1⟩ := DataW.trod_int Try.underlying3 k1
    obtain ⟨a, cap, ws, q2, V, hl, hk, hq⟩ := open_wrsX k2 (fun n hn => hz' n (DataW.weights_mem_each (j := 2) rfl rfl n hn))
    have hnm := hz' nm.size (DataW.weights_mem_each (j := 0) (t := 9) (d := y0.1) rfl rfl _ (by rw [r0]; simp [DataW.weights]))
    match cs, hlen with
    | [c0, c1, c2], _ =>
      simp at q0 q1 q2
      subst q0 q1 q2
      exact ⟨nm, kp, a, cap, ws, rfl, V, hl, hk, hq, by unfold reachBytes at hnm; omega, w1⟩
theorem open_fatesX {fuel : Nat} {cs : List Value} {x : DataW H × List MemPlace} (h : DataW.trod enc Try.prog W 0 (fun _ => true) true fuel 37 cs = some x) (hz : ∀ n ∈ x.1.weights Try.prog 37, n ≤ reachBytes) : ∃ (a : Option Addr) (cap : Nat) (ms : List Ft3) (fs : List Ftp), cs = [.slice a ms.length cap] ∧ FtIn W a ms fs ∧ ms.length ≤ 2932031007402 ∧ ms.length ≤ cap ∧ ∀ j, j < fs.length → ((ms.getD j t00).2.2.1 = none → (ms.getD j t00).2.2.2.2 = 0) ∧ (fs.getD j p00).2.2.length ≤ 5864062014805 := by
  haveI : Inhabited (Ft3 × Ftp) := ⟨(t00, p00)⟩
  rcases open_slice Try.underlying37 h with ⟨hcs', hx⟩ | ⟨x', l, c, m, n, D, Pl, hcs', _, hl', hm, hmm, hx, hel⟩
  · exact ⟨none, 0, [], [], by simpa using hcs', ⟨Or.inl rfl, rfl, fun j hj => by simp at hj⟩, by simp, by simp, fun j hj => by simp at hj⟩
  · simp only [if_true] at hmm
    subst hx
    simp only [DataW.weights, Try.underlying37, List.length_map, List.length_range, Try.bFate, List.mem_cons, List.mem_append] at hz
    have hl0 := hz _ (Or.inl rfl)
    have each : ∀ i, i < l → ∃ o : Ft3 × Ftp, W.cell? ((x'.add (i * 3)).add 0) = some (.string o.1.1) ∧ W.cell? ((x'.add (i * 3)).add 1) = some (.int .i64 o.1.2.1) ∧ W.cell? ((x'.add (i * 3)).add 2) = some (ovS o.1.2.2) ∧ ((o.1.2.2.1 = none → o.1.2.2.2.2 = 0) ∧ o.2.2.2.length ≤ 5864062014805) ∧ o.1.1 = o.2.1 ∧ o.1.2.1 = o.2.2.1 ∧ o.1.2.2.2.1 = o.2.2.2.length ∧ Wrs W o.1.2.2.1 o.2.2.2 ∧ o.2.2.2.length ≤ 140737488355328 ∧ (∀ y ∈ o.2.2.2, WrOk y) ∧ o.2.1.size ≤ 140737488355328 ∧ (Lit.int .i64 o.2.2.1).wf = true := by
      intro i hi
      obtain ⟨cs', e1, e2⟩ := hel i (by omega)
      rw [Try.cFate] at e1
      obtain ⟨nm, kp, ao, co, ws, hcs, V, hl2, hk2, hq2, hn2, wf2⟩ := open_fateX e2 (fun n hn => hz n (by
        first
        | exact Or.inr (Or.inl (w_mem_all (by simp; exact ⟨i, by omega, rfl⟩) n hn))
        | exact Or.inr (w_mem_all (by simp; exact ⟨i, by omega, rfl⟩) n hn)))
      have g := (World.cells?_some e1)
      refine ⟨((nm, kp, ao, ws.length, co), (nm, kp, ws)), ?_, ?_, ?_, ⟨hq2, hl2⟩, rfl, rfl, rfl, V, Nat.le_trans hl2 (by decide), hk2, hn2, wf2⟩
      · rw [g.2.2 0 (by omega), hcs]; rfl
      · rw [g.2.2 1 (by omega), hcs]; rfl
      · rw [g.2.2 2 (by omega), hcs]; rfl
    obtain ⟨f, hf⟩ := choose_lt each
    have eg : ∀ j, j < l → ((List.range l).map (fun i => (f i).1)).getD j t00 = (f j).1 := fun j hj => by
      rw [List.getD_eq_getElem?_getD, List.getElem?_map, List.getElem?_range hj]
      rfl
    have eg2 : ∀ j, j < l → ((List.range l).map (fun i => (f i).2)).getD j p00 = (f j).2 := fun j hj => by
      rw [List.getD_eq_getElem?_getD, List.getElem?_map, List.getElem?_range hj]
      rfl
    refine ⟨some x', c, (List.range l).map (fun i => (f i).1), (List.range l).map (fun i => (f i).2), by simpa using hcs', ⟨?_, by simp, ?_⟩, ?_, ?_, ?_⟩
    · by_cases h0 : l = 0
      · left; subst h0; rfl
      · right
        obtain ⟨b, off, spot⟩ := x'
        have h00 := (hf 0 (by omega)).1
        have hspot : spot = none := by simpa [Addr.add] using World.cell?_spot h00
        subst hspot
        have hlt := World.block_lt_of_cell? _ _ h00
        refine ⟨b, off, rfl, by simpa [Addr.add] using hlt, fun j hj => ?_⟩
        have hj' : j < l := by simpa using hj
        obtain ⟨k0, k1, k2, _⟩ := hf j hj'
        rw [Go.WideShapes.add_plain, Go.WideShapes.add_plain] at k0 k1 k2
        rw [eg j hj']
        exact ⟨by simpa using k0, k1, k2⟩
    · intro j hj
      have hj' : j < l := by simpa using hj
      obtain ⟨_, _, _, _, k3⟩ := hf j hj'
      rw [eg j hj', eg2 j hj']
      exact k3
    · simp only [List.length_map, List.length_range]
      unfold reachBytes at hl0
      omega
    · simpa using hl'
    · intro j hj
      have hj' : j < l := by simpa using hj
      obtain ⟨_, _, _, k3, _⟩ := hf j hj'
      rw [eg j hj', eg2 j hj']
      exact k3

theorem Try.cBlow : Try.prog.cellsOf 42 = 5 := by kernel_rfl
theorem Try.bBlow : Try.prog.bytesOf 42 = 72 := by kernel_rfl
theorem Try.cBoolB : Try.prog.cellsOf 4 = 1 := by kernel_rfl
theorem Try.cFtsB : Try.prog.cellsOf 37 = 1 := by kernel_rfl
set_option maxRecDepth 40000 in
theorem open_blow {fuel : Nat} {cs : List Value} {x : DataW H × List MemPlace} (h : DataW.trod enc Try.prog W 0 (fun _ => true) true fuel 42 cs = some x) (hz : ∀ n ∈ x.1.weights Try.prog 42, n ≤ reachBytes) : ∃ b : Blw, cs = [.bool b.1, .slice b.2.1.1 b.2.1.2.2.1.length b.2.1.2.1, .string b.2.2.1, .string b.2.2.2.1, .int .u16 b.2.2.2.2] ∧ BlOk W b := by
  obtain ⟨xs, n, _, rfl, hlen, hxs, hf⟩ := DataW.trod_struct Try.underlying42 h
  rw [Try.cBlow] at hlen
  match xs, hxs with
  | [y0, y1, y2], _ =>
    have k0 : DataW.trod enc Try.prog W 0 (fun _ => true) true n 4 ((cs.drop 0).take (Try.prog.cellsOf 4)) = some y0 := hf 0 _ rfl
    have k1 : DataW.trod enc Try.prog W 0 (fun _ => true) true n 37 ((cs.drop 1).take (Try.prog.cellsOf 37)) = some y1 := hf 1 _ rfl
    have k2 : DataW.trod enc Try.prog W 0 (fun _ => true) true n 40 ((cs.drop 2).take (Try.prog.cellsOf 40)) = some y2 := hf 2 _ rfl
    rw [Try.cBoolB] at k0
    rw [Try.cFtsB] at k1
    rw [Try.cFile] at k2
    have hz' : ∀ n ∈ DataW.weightsEach Try.prog [4, 37, 40] [y0.1, y1.1, y2.1], n ≤ reachBytes := by
      have e : DataW.weights Try.prog 42 (DataW.agg (H := H) [y0.1, y1.1, y2.1]) = DataW.weightsEach Try.prog [4, 37, 40] [y0.1, y1.1, y2.1] := by
        simp only [DataW.weights, Try.underlying42]
        rfl
      rw [← e]
      exact hz
    obtain ⟨hm, q0, r0⟩ := DataW.trod_bool Try.underlying4 k0
    obtain ⟨fa, fc, ms, fs, q1, hI, hl, hc, hn⟩ := open_fatesX k1 (fun n hn => hz' n (DataW.weights_mem_each (j := 1) rfl rfl n hn))
    obtain ⟨f, q2, hok⟩ := open_file k2 (fun n hn => hz' n (DataW.weights_mem_each (j := 2) rfl rfl n hn))
    match cs, hlen with
    | [c0, c1, c2, c3, c4], _ =>
      simp at q0 q1 q2
      obtain ⟨q2, q3, q4⟩ := q2
      subst q0 q1 q2 q3 q4
      exact ⟨(hm, (fa, fc, ms, fs), f.1, f.2.1, f.2.2), rfl, ⟨hI, hl, hc, hn, hok.1, hok.2.1⟩⟩
theorem open_blows {fuel : Nat} {cs : List Value} {x : DataW H × List MemPlace} (h : DataW.trod enc Try.prog W 0 (fun _ => true) true fuel 32 cs = some x) (hz : ∀ n ∈ x.1.weights Try.prog 32, n ≤ reachBytes) : ∃ (a : Option Addr) (cap : Nat) (fs : List Blw), cs = [.slice a fs.length cap] ∧ Bls W a fs ∧ fs.length ≤ 9223372036854775806 ∧ ∀ f ∈ fs, BlOk W f := by
  haveI : Inhabited Blw := ⟨b00⟩
  rcases open_slice Try.underlying32 h with ⟨hcs', hx⟩ | ⟨x', l, c, m, n, D, Pl, hcs', _, hl', hm, hmm, hx, hel⟩
  · exact ⟨none, 0, [], by simpa using hcs', Or.inl rfl, by simp, by simp⟩
  · simp only [if_true] at hmm
    subst hx
    simp only [DataW.weights, Try.underlying32, List.length_map, List.length_range, Try.bBlow, List.mem_cons, List.mem_append] at hz
    have hl0 := hz _ (Or.inl rfl)
    have each : ∀ i, i < l → ∃ o : Blw, (W.cell? ((x'.add (i * 5)).add 0) = some (.bool o.1) ∧ W.cell? ((x'.add (i * 5)).add 1) = some (.slice o.2.1.1 o.2.1.2.2.1.length o.2.1.2.1) ∧ W.cell? ((x'.add (i * 5)).add 2) = some (.string o.2.2.1) ∧ W.cell? ((x'.add (i * 5)).add 3) = some (.string o.2.2.2.1) ∧ W.cell? ((x'.add (i * 5)).add 4) = some (.int .u16 o.2.2.2.2)) ∧ BlOk W o := by
      intro i hi
      obtain ⟨cs', e1, e2⟩ := hel i (by omega)
      rw [Try.cBlow] at e1
      obtain ⟨o, hcs, hok⟩ := open_blow e2 (fun n hn => hz n (by
        first
        | exact Or.inr (Or.inl (w_mem_allF (by simp; exact ⟨i, by omega, rfl⟩) n hn))
        | exact Or.inr (w_mem_allF (by simp; exact ⟨i, by omega, rfl⟩) n hn)))
      have g := (World.cells?_some e1)
      refine ⟨o, ⟨?_, ?_, ?_, ?_, ?_⟩, hok⟩
      · rw [g.2.2 0 (by omega), hcs]; rfl
      · rw [g.2.2 1 (by omega), hcs]; rfl
      · rw [g.2.2 2 (by omega), hcs]; rfl
      · rw [g.2.2 3 (by omega), hcs]; rfl
      · rw [g.2.2 4 (by omega), hcs]; rfl
    obtain ⟨f, hf⟩ := choose_lt each
    refine ⟨some x', c, (List.range l).map f, by simpa using hcs', ?_, ?_, ?_⟩
    · by_cases h0 : l = 0
      · left; subst h0; rfl
      · right
        obtain ⟨b, off, spot⟩ := x'
        have h00 := (hf 0 (by omega)).1.1
        have hspot : spot = none := by simpa [Addr.add] using World.cell?_spot h00
        subst hspot
        have hlt := World.block_lt_of_cell? _ _ h00
        refine ⟨b, off, rfl, by simpa [Addr.add] using hlt, fun j hj => ?_⟩
        have hj' : j < l := by simpa using hj
        obtain ⟨⟨k0, k1, k2, k3, k4⟩, _⟩ := hf j hj'
        rw [Go.WideShapes.add_plain, Go.WideShapes.add_plain] at k0 k1 k2 k3 k4
        have eg : ((List.range l).map f).getD j b00 = f j := by
          rw [List.getD_eq_getElem?_getD, List.getElem?_map, List.getElem?_range hj']
          rfl
        rw [eg]
        exact ⟨by simpa using k0, k1, k2, k3, k4⟩
    · simp only [List.length_map, List.length_range]
      unfold reachBytes at hl0
      omega
    · intro y hy
      simp only [List.mem_map, List.mem_range] at hy
      obtain ⟨i, hi, rfl⟩ := hy
      exact (hf i hi).2
end Go.Proofs.Ythjbhfhdepepmaa
