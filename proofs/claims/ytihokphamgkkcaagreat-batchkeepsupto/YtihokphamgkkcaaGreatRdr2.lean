/- The record's reader: what headers answers, of whatever bytes, wherever it stands. -/
import Derived.Test.YtihokphamgkkcaaGreatRdr1
namespace Go.Proofs.YtihokphamgkkcaaGreat
open Go.RowKit
theorem uq_le {s : ByteArray} {k e : Nat} (hk : k ≤ s.size) : (uq s k e).2.1 ≤ s.size := by
  unfold uq
  split
  · exact hk
  · split
    · have := (rd_bds (tl s k)).2.2; rw [tl_size] at this; dsimp only; omega
    · exact hk
theorem vq_le {s : ByteArray} {k e : Nat} (hk : k ≤ s.size) : (vq s k e).2.1 ≤ s.size := by
  unfold vq
  split
  · exact hk
  · split
    · have := (rd_bds (tl s k)).2.2; rw [tl_size] at this; dsimp only; omega
    · exact hk
theorem vq_bd {s : ByteArray} {k e : Nat} : I64 (vq s k e).1 := by
  unfold vq
  split
  · exact ⟨by dsimp only; omega, by dsimp only; omega⟩
  · split
    · have := (rd_bds (tl s k)).1; exact M.uz_bd (by omega) this
    · exact ⟨by dsimp only; omega, by dsimp only; omega⟩
theorem uq_bd {s : ByteArray} {k e : Nat} : (uq s k e).1 < 18446744073709551616 := by
  unfold uq
  split
  · dsimp only; omega
  · split
    · have := (rd_bds (tl s k)).1; dsimp only; omega
    · dsimp only; omega
theorem fx_le {n : Nat} {s : ByteArray} {k e : Nat} (hk : k ≤ s.size) : (fx n s k e).2.1 ≤ s.size := by
  unfold fx
  split
  · exact hk
  · split
    · assumption
    · exact hk
theorem tq_le {m : Int} {s : ByteArray} {k e : Nat} (hk : k ≤ s.size) : (tq m s k e).2.1 ≤ s.size := by
  unfold tq
  split
  · exact hk
  · split
    · exact hk
    · split
      · rename_i h; exact h.2
      · exact hk
theorem oq_le {m : Int} {s : ByteArray} {k e : Nat} (hk : k ≤ s.size) : (oq m s k e).2.2.1 ≤ s.size := by
  unfold oq
  split
  · exact hk
  · split
    · exact hk
    · split
      · have := (rd_bds (tl s k)).2.2; rw [tl_size] at this; dsimp only; omega
      · split
        · rename_i h; exact h.2.2
        · exact hk
theorem fl_zero {f e : Nat} (h : fl f e = 0) : f = 0 ∧ e = 0 := by
  unfold fl at h
  split at h
  · exact absurd h (by assumption)
  · exact ⟨by omega, h⟩
theorem fl_read {f e e' : Nat} (h : fl f e ≠ 0) (he : e ≠ 0 → e' = e) : fl f e' = fl f e := by
  unfold fl at *
  split
  · rfl
  · rename_i hf; rw [if_neg hf] at h; exact he h
theorem fl_rf {f e : Nat} (b : Bool) (why : Nat) (h : fl f e ≠ 0) : fl (rf b why f e) e = fl f e := by
  unfold rf
  rw [if_neg (fun x => h x.2)]
theorem rf_no (why f e : Nat) : rf false why f e = f := by unfold rf; rw [if_neg (by simp)]
theorem rf_yes {why f e : Nat} (h : fl f e = 0) : rf true why f e = why := by unfold rf; rw [if_pos ⟨rfl, h⟩]
/-- What headers are read, of a reader at k with the faults f and e. -/
def hres (f e : Nat) (p : ByteArray) (k : Nat) : Except Nat (List Hdr × Nat) := if fl f e ≠ 0 then .error (fl f e) else if (uq p k 0).2.2 ≠ 0 then .error (uq p k 0).2.2 else if 1024 < (uq p k 0).1 then .error 5 else hdq p (uq p k 0).1 (uq p k 0).2.1
theorem hstep (f e : Nat) (p : ByteArray) (k c k1 e1 f4 : Nat) (hu : uq p k e = (c, k1, e1)) (h4 : f4 = rf (decide ((1024 : Int) < (c : Int))) 5 f e1) :
    (fl f4 e1 ≠ 0 → hres f e p k = .error (fl f4 e1)) ∧ (fl f4 e1 = 0 → f4 = 0 ∧ e1 = 0 ∧ c ≤ 1024 ∧ hres f e p k = hdq p c k1) := by
  unfold hres
  by_cases h0 : fl f e = 0
  · obtain ⟨rfl, rfl⟩ := fl_zero h0
    rw [if_neg (by simpa using h0), hu]
    dsimp only
    by_cases he : e1 = 0
    · subst he
      rw [if_neg (by simp)]
      by_cases hc : 1024 < c
      · rw [decide_eq_true (show (1024 : Int) < (c : Int) by omega), rf_yes (by rfl)] at h4
        subst h4
        rw [if_pos hc]
        exact ⟨fun _ => rfl, fun h => by cases h⟩
      · rw [decide_eq_false (show ¬ (1024 : Int) < (c : Int) by omega), rf_no] at h4
        subst h4
        rw [if_neg hc]
        exact ⟨fun h => absurd rfl h, fun _ => ⟨rfl, rfl, by omega, rfl⟩⟩
    · have e4 : fl f4 e1 = e1 := by
        rw [h4, fl_rf _ _ (show fl 0 e1 ≠ 0 from he)]; rfl
      rw [e4, if_pos he]
      exact ⟨fun _ => rfl, fun h => absurd h he⟩
  · rw [if_pos h0]
    have e1' : e ≠ 0 → e1 = e := fun he => by rw [uq_stale he] at hu; injection hu with _ hu; injection hu with _ hu; exact hu.symm
    have h1 := fl_read h0 e1'
    have e4 : fl f4 e1 = fl f e := by rw [h4, fl_rf _ _ (by rw [h1]; exact h0), h1]
    rw [e4]
    exact ⟨fun _ => rfl, fun h => absurd h h0⟩
theorem hdq_step (p : ByteArray) (g kk : Nat) (T : ByteArray) (kt et : Nat) (O : Bool) (D : ByteArray) (ko eo : Nat) (hT : tq MX p kk 0 = (T, kt, et)) (hO : oq MX p kt et = (O, D, ko, eo)) :
    (eo ≠ 0 → hdq p (g + 1) kk = .error eo) ∧ (eo = 0 → hdq p (g + 1) kk = pre [(T, O, D)] (hdq p g ko)) := by
  conv => rhs; rhs; lhs; unfold hdq
  conv => lhs; rhs; lhs; unfold hdq
  rw [hT]
  dsimp only
  by_cases he : et = 0
  · subst he
    rw [if_neg (by simp), hO]
    dsimp only
    exact ⟨fun h => by rw [if_pos h], fun h => by rw [if_neg (by simpa using h)]⟩
  · rw [oq_stale he] at hO
    injection hO with _ hO
    injection hO with _ hO
    injection hO with _ hO
    rw [if_pos he, hO]
    exact ⟨fun _ => rfl, fun h => absurd (hO.trans h) he⟩
/-- What headers leaves. -/
def HPost (q pb : Nat) (p : ByteArray) (B : Nat) (R : Except Nat (List Hdr × Nat)) (w : World) (r : Ending) (w' : World) : Prop :=
  ∃ v hs f' k' e', r = .returned v ∧ OwnH w' B v hs ∧ RR w' q pb f' ∧ Rd w' pb p k' e' ∧ k' ≤ p.size ∧ Ch (fun i => i = pb ∨ i = q) w w' ∧ (fl f' e' ≠ 0 → R = .error (fl f' e')) ∧ (fl f' e' = 0 → R = .ok (hs, k'))
set_option maxHeartbeats 1000000 in
set_option maxRecDepth 20000 in
theorem headers_bad (q pb f : Nat) (p : ByteArray) (k e : Nat) (w : World) (h : RR w q pb f) (hr : Rd w pb p k e) (hq : pb ≠ q) (hk : k ≤ p.size) (hs : p.size ≤ 9223372036854775807) (c k1 e1 f4 : Nat) (hu : uq p k e = (c, k1, e1)) (h4 : f4 = rf (decide ((1024 : Int) < (c : Int))) 5 f e1) (hz : fl f4 e1 ≠ 0) :
    Calls Tryz.prog 165 #[.pointer (some ⟨q, 0, none⟩)] w (HPost q pb p w.heap.size (hres f e p k) w) := by
  have hst := hstep f e p k c k1 e1 f4 hu h4
  have hk1 := uq_le (e := e) hk
  have hcb := uq_bd (s := p) (k := k) (e := e)
  have cu := uvarint_any pb p k e w hr hk hs
  rw [hu] at hk1 hcb cu
  dsimp only at hk1 hcb cu
  have c0 := h.c0
  have hlq := h.lt
  have hlb := hr.lt
  have CU := hid cu
  have H := hid h
  have HK1 := hid hk1
  have HCB := hid hcb
  have HSZ := hid hs
  have HST := hid hst
  have HF4 := hid h4
  clear cu h hr hu hk1 hcb hk hs hst h4
  have hne : (((fl f4 e1 : Nat) : Int) != 0) = true := by rw [bne_iff_ne]; omega
  have HS := hid (HST.out.1 hz)
  have HZ := hid hz
  go_enter Tryz.func165, Tryz.ntmps165
  go_wp2_with fail
  refine CU.out.mono ?_
  rintro r w1 ⟨rfl, hr1, hc1⟩
  have h1 : RR w1 q pb f := H.out.ch hc1 (fun h => hq h.symm)
  have cr := refuse_any q pb f p k1 e1 5 (decide ((1024 : Int) < (c : Int))) w1 h1 hr1 hq
  rw [← HF4.out] at cr
  have CR := hid cr
  have HC1 := hid hc1
  clear h1 hr1 hc1 cr
  go_wp2_with fail
  refine CR.out.mono ?_
  rintro r w2 ⟨rfl, h2, hr2, hc2⟩
  have HC2 : Hid (Ch (fun i => i = pb ∨ i = q) w w2) := (HC1.out.mono (fun _ _ h => Or.inl h)).then hc2 (fun _ _ h => Or.inr h)
  have CF := hid (failed_any q pb f4 p k1 e1 w2 h2 hr2)
  have H2 := hid h2
  have HR2 := hid hr2
  have d0 := h2.c0
  clear h2 hr2 hc2
  generalize hFE : fl f4 e1 = FE at *
  have HFE := hid hFE
  clear hFE hz
  go_wp2_with (go_at_call 117; refine CF.out.mono ?_; rintro e w' ⟨rfl, rfl⟩)
  go_ret
  exact ⟨_, [], f4, k1, e1, rfl, ownH_nil _ _, H2.out, HR2.out, HK1.out, HC2.out, fun _ => by rw [HFE.out]; exact HS.out, fun h => absurd (HFE.out.symm.trans h) HZ.out⟩
set_option maxHeartbeats 1000000 in
set_option maxRecDepth 20000 in
theorem headers_none (q pb f : Nat) (p : ByteArray) (k e : Nat) (w : World) (h : RR w q pb f) (hr : Rd w pb p k e) (hq : pb ≠ q) (hk : k ≤ p.size) (hs : p.size ≤ 9223372036854775807) (c k1 e1 f4 : Nat) (hu : uq p k e = (c, k1, e1)) (h4 : f4 = rf (decide ((1024 : Int) < (c : Int))) 5 f e1) (hz : fl f4 e1 = 0) (hc : c = 0) :
    Calls Tryz.prog 165 #[.pointer (some ⟨q, 0, none⟩)] w (HPost q pb p w.heap.size (hres f e p k) w) := by
  have hst := hstep f e p k c k1 e1 f4 hu h4
  have hk1 := uq_le (e := e) hk
  have hcb := uq_bd (s := p) (k := k) (e := e)
  have cu := uvarint_any pb p k e w hr hk hs
  rw [hu] at hk1 hcb cu
  dsimp only at hk1 hcb cu
  have c0 := h.c0
  have hlq := h.lt
  have hlb := hr.lt
  have CU := hid cu
  have H := hid h
  have HK1 := hid hk1
  have HCB := hid hcb
  have HSZ := hid hs
  have HST := hid hst
  have HF4 := hid h4
  clear cu h hr hu hk1 hcb hk hs hst h4
  obtain ⟨s1, s2, s3, s4⟩ := HST.out.2 hz
  subst s1 s2
  rw [hc] at s4
  have HS : Hid (hres f e p k = .ok ([], k1)) := s4
  have hceq : ((c : Int) == 0) = true := by rw [beq_iff_eq]; omega
  clear hc
  go_enter Tryz.func165, Tryz.ntmps165
  go_wp2_with fail
  refine CU.out.mono ?_
  rintro r w1 ⟨rfl, hr1, hc1⟩
  have h1 : RR w1 q pb f := H.out.ch hc1 (fun h => hq h.symm)
  have cr := refuse_any q pb f p k1 0 5 (decide ((1024 : Int) < (c : Int))) w1 h1 hr1 hq
  rw [← HF4.out] at cr
  have CR := hid cr
  have HC1 := hid hc1
  clear h1 hr1 hc1 cr
  go_wp2_with fail
  refine CR.out.mono ?_
  rintro r w2 ⟨rfl, h2, hr2, hc2⟩
  have HC2 : Hid (Ch (fun i => i = pb ∨ i = q) w w2) := (HC1.out.mono (fun _ _ h => Or.inl h)).then hc2 (fun _ _ h => Or.inr h)
  have CF := hid (failed_any q pb 0 p k1 0 w2 h2 hr2)
  have H2 := hid h2
  have HR2 := hid hr2
  have d0 := h2.c0
  clear h2 hr2 hc2
  have e0 : fl 0 0 = 0 := rfl
  rw [e0] at CF
  clear hz s3 s4 e0
  go_wp2_with (go_at_call 117; refine CF.out.mono ?_; rintro e w' ⟨rfl, rfl⟩)
  go_ret
  exact ⟨_, [], 0, k1, 0, rfl, ownH_nil _ _, H2.out, HR2.out, HK1.out, HC2.out, fun h => absurd rfl h, fun _ => HS.out⟩
set_option maxHeartbeats 1000000 in
set_option maxRecDepth 20000 in
theorem headers_some (q pb f : Nat) (p : ByteArray) (k e : Nat) (w : World) (h : RR w q pb f) (hr : Rd w pb p k e) (hq : pb ≠ q) (hk : k ≤ p.size) (hs : p.size ≤ 9223372036854775807) (c k1 e1 f4 : Nat) (hu : uq p k e = (c, k1, e1)) (h4 : f4 = rf (decide ((1024 : Int) < (c : Int))) 5 f e1) (hz : fl f4 e1 = 0) (hc : c ≠ 0) :
    Calls Tryz.prog 165 #[.pointer (some ⟨q, 0, none⟩)] w (HPost q pb p w.heap.size (hres f e p k) w) := by
  have hst := hstep f e p k c k1 e1 f4 hu h4
  have hk1 := uq_le (e := e) hk
  have hcb := uq_bd (s := p) (k := k) (e := e)
  have cu := uvarint_any pb p k e w hr hk hs
  rw [hu] at hk1 hcb cu
  dsimp only at hk1 hcb cu
  have c0 := h.c0
  have hlq := h.lt
  have hlb := hr.lt
  have CU := hid cu
  have H := hid h
  have HK1 := hid hk1
  have HCB := hid hcb
  have HSZ := hid hs
  have HST := hid hst
  have HF4 := hid h4
  clear cu h hr hu hk1 hcb hk hs hst h4
  obtain ⟨i0, hi, hz0, hz1, hz2⟩ := info_parts Tryz.infoHdr
  obtain ⟨s1, s2, s3, s4⟩ := HST.out.2 hz
  subst s1 s2
  have HS := hid s4
  have HS3 := hid s3
  clear s3
  have hcne : ((c : Int) == 0) = false := by rw [beq_eq_false_iff_ne]; omega
  go_enter Tryz.func165, Tryz.ntmps165
  go_wp2_with fail
  refine CU.out.mono ?_
  rintro r w1 ⟨rfl, hr1, hc1⟩
  have h1 : RR w1 q pb f := H.out.ch hc1 (fun h => hq h.symm)
  have cr := refuse_any q pb f p k1 0 5 (decide ((1024 : Int) < (c : Int))) w1 h1 hr1 hq
  rw [← HF4.out] at cr
  have CR := hid cr
  have HC1 := hid hc1
  clear h1 hr1 hc1 cr
  go_wp2_with fail
  refine CR.out.mono ?_
  rintro r w2 ⟨rfl, h2, hr2, hc2⟩
  have HC2 : Hid (Ch (fun i => i = pb ∨ i = q) w w2) := (HC1.out.mono (fun _ _ h => Or.inl h)).then hc2 (fun _ _ h => Or.inr h)
  have CF := hid (failed_any q pb 0 p k1 0 w2 h2 hr2)
  have H2 := hid h2
  have HR2 := hid hr2
  have d0 := h2.c0
  clear h2 hr2 hc2
  have e0 : fl 0 0 = 0 := rfl
  rw [e0] at CF
  clear hz s4 e0
  have CL := hid (rleft_any pb p k1 0 w2 HR2.out HK1.out HSZ.out)
  go_wp2_with (go_at_call 117; refine CF.out.mono ?_; rintro e w2 ⟨rfl, rfl⟩)
  refine CL.out.mono ?_
  rintro r w3 ⟨rfl, nd, rfl⟩
  have hsz2 := HC2.out.size
  have hs := HSZ.out
  have hk1 := HK1.out
  have s3 := HS3.out
  obtain ⟨CAP, hCAP, hle⟩ : ∃ CAP : Nat, min (wrap64 (c : Int)) (((p.size : Int) - k1) / 2) = (CAP : Int) ∧ CAP ≤ 1024 := ⟨(min (wrap64 (c : Int)) (((p.size : Int) - k1) / 2)).toNat, by unfold wrap64; omega, by unfold wrap64; omega⟩
  obtain ⟨w4, hmk, hown, hgrow⟩ := run_make_own (P := Tryz.prog) (w2.drewN nd) w.heap.size 47 51 i0 (.agg #[.string ⟨#[]⟩, .bool false, .string ⟨#[]⟩]) 3 Tryz.underHdrs hi hz0 hz1 .i64 .i64 CAP (by rw [hz2]; omega) (by unfold maxLen; omega) hsz2
  have HO4 := hid (show OwnH w4 w.heap.size _ [] from hown)
  have hb4 : Below (w2.drewN nd).heap.size (w2.drewN nd) w4 := (Below.refl _ _).grown hgrow (Nat.le_refl _) (fun k hk => by cases hk)
  have HC4 : Hid (Ch (fun i => i = pb ∨ i = q) w w4) := (HC2.out.drewN nd).trans (Ch.of_below hb4)
  have H4 : Hid (RR w4 q pb 0) := (hb4.block q H2.out.lt).trans H2.out
  have HR4 : Hid (Rd w4 pb p k1 0) := (HR2.out.drewN nd).below hb4 HR2.out.lt
  clear hown hgrow hb4
  go_wp2_with fail
  clear hmk hCAP
  go_loopg [5, 6, 7, 8, 9, 40] c (fun g o x6 x7 x8 x9 i wr => ∃ (j kk : Nat) (acc : List Hdr), j + g = c ∧ i = .int .u64 j ∧ Hid (acc.length = j) ∧ Hid (kk ≤ p.size) ∧ Hid (hdq p c k1 = pre acc (hdq p g kk)) ∧ Hid (OwnH wr w.heap.size o acc) ∧ Hid (RR wr q pb 0) ∧ Hid (Rd wr pb p kk 0) ∧ Hid (Ch (fun i => i = pb ∨ i = q) w wr))
  case atStart => exact ⟨0, k1, [], by omega, rfl, rfl, hk1, (pre_nil _).symm, HO4, H4, HR4, HC4⟩
  case round =>
    clear HO4 H4 HR4 HC4
    obtain ⟨j, kk, acc, hk, rfl, HA, HKK, HP, HO, HRR, HRD, HCH⟩ := hrel
    by_cases hlt : j < c
    · obtain ⟨g, rfl⟩ : ∃ g, gk = g + 1 := ⟨gk - 1, by omega⟩
      have c0' := HRR.out.c0
      obtain ⟨T, kt, et, hT⟩ : ∃ T kt et, tq MX p kk 0 = (T, kt, et) := ⟨_, _, _, rfl⟩
      obtain ⟨O, D, ko, eo, hO⟩ : ∃ O D ko eo, oq MX p kt et = (O, D, ko, eo) := ⟨_, _, _, _, rfl⟩
      have HST2 := hid (hdq_step p g kk T kt et O D ko eo hT hO)
      have ct := rtext_any pb p kk 0 9223372036854775807 wr HRD.out HKK.out hs (by omega) (by omega)
      have hkt := tq_le (m := MX) (e := 0) HKK.out
      rw [hT] at ct hkt
      have hko := oq_le (m := MX) (e := et) hkt
      have co := fun w5 h5 => ropt_any pb p kt et 9223372036854775807 w5 h5 hkt hs (by omega) (by omega)
      rw [hO] at hko
      simp only [hO] at co
      dsimp only at ct hkt hko
      have CT := hid ct
      have CO := hid co
      have HKO := hid hko
      have hlt' : (j : Int) < c := by omega
      have HLT := hid hlt
      clear ct co hT hO hkt hko
      go_wp2_with fail
      refine CT.out.mono ?_
      rintro r w5 ⟨rfl, hr5, hc5⟩
      have h5 : RR w5 q pb 0 := HRR.out.ch hc5 (fun h => hq h.symm)
      have c5 := h5.c0
      have HC5 := hid hc5
      have H5 := hid h5
      have HR5 := hid hr5
      clear hc5 h5 hr5
      go_wp2_with fail
      refine (CO.out w5 HR5.out).mono ?_
      rintro r w6 ⟨rfl, hr6, hc6⟩
      have h6 : RR w6 q pb 0 := H5.out.ch hc6 (fun h => hq h.symm)
      have HC6 : Hid (Ch (fun i => i = pb ∨ i = q) w w6) := (HCH.out.then HC5.out (fun _ _ h => Or.inl h)).then hc6 (fun _ _ h => Or.inl h)
      have hown0 : wr.ownsRow w.heap.size 51 3 u5 acc.length (hcs acc) := HO.out
      have ho6 : w6.ownsRow w.heap.size 51 3 u5 acc.length (hcs acc) := own_apart hown0 (fun x hx => by
        have hb := World.ownsRow.lt hown0 x hx
        have h1 := HC5.out.block x hb.2 (by omega)
        exact (hc6.block x (Nat.lt_of_lt_of_le hb.2 HC5.out.size) (by omega)).trans h1)
      have H6 := hid h6
      have HR6 := hid hr6
      clear h6 hr6 hc6 hown0 HO
      have hsz6 := HC6.out.size
      by_cases he : eo = 0
      · subst he
        have HN := hid (HST2.out.2 rfl)
        have hal := HA.out
        rw [hal] at ho6
        clear HST2
        go_wp2_with (at_builtin; refine wpList_append_own _ rfl _ _ 47 rfl w.heap.size 51 i0 (.agg #[.string ⟨#[]⟩, .bool false, .string ⟨#[]⟩]) 3 40 Tryz.underHdrs hi hz0 hz1 hz2 rfl (by decide) _ _ _ rfl ((ho6.alloc _).alloc _) ⟨w6.heap.size + 1, 0, none⟩ 1 1 (hc1 (T, O, D)) rfl rfl ?c1 ?c2 ?c3 ?c4 ?c5 ?_)
        case c1 => exact cells_newN _ (hc1 (T, O, D)) _ _ (by simp)
        case c2 => exact hc1_one _
        case c3 => unfold maxLen; omega
        case c4 => omega
        case c5 => simp; omega
        intro v' w7 hown7 hgrow7 _
        have hb7 : Below w.heap.size (w6.alloc (.cells #[.bool O, .string D] 46)) w7 := bel_step (Below.refl _ _) (ho6.alloc _) (by simp; omega) hgrow7
        have hc7 : Ch (fun i => i = pb ∨ i = q) w w7 := ⟨hb7.os.trans HC6.out.os, hb7.tape.trans HC6.out.tape, hb7.output.trans HC6.out.output, Nat.le_trans hsz6 (Nat.le_trans (by simp) hb7.size), fun i hi hs => ((hb7.block i hi).trans (Below.heap_alloc _ _ _ (by omega))).trans (HC6.out.block i hi hs)⟩
        have H7 : Hid (RR w7 q pb 0) := ((hb7.block q hlq).trans (Below.heap_alloc _ _ _ (by omega))).trans H6.out
        have HR7 : Hid (Rd w7 pb p ko 0) := ((hb7.block pb hlb).trans (Below.heap_alloc _ _ _ (by omega))).trans HR6.out
        have HC7 := hid hc7
        have HO7 : Hid (OwnH w7 w.heap.size v' (acc ++ [(T, O, D)])) := ownH_snoc hown7 HA.out
        clear hown7 hgrow7 ho6 hb7 hc7
        go_wp2_with fail
        go_roundg g
        case measure => omega
        case rel => exact ⟨j + 1, ko, acc ++ [(T, O, D)], by omega, by go_num, by show _ = _; rw [List.length_append, HA.out]; rfl, HKO, by show _ = _; rw [HP.out, HN.out, pre_pre], HO7, H7, HR7, HC7⟩
      · have hne : ((eo : Int) != 0) = true := by rw [bne_iff_ne]; omega
        have HN := hid (HST2.out.1 he)
        have HE := hid he
        clear he HST2 ho6
        go_wp2_with fail
        go_ret
        have hfl : fl 0 eo = eo := rfl
        refine ⟨_, [], 0, ko, eo, rfl, ownH_nil _ _, heap_alloc_at H6.out, HR6.out.alloc _, HKO.out, HC6.out.alloc _, fun _ => ?_, fun h => absurd h HE.out⟩
        rw [hfl, HS.out, HP.out, HN.out]
        rfl
    · have hj : gk = 0 := by omega
      subst hj
      have HF : Hid (hres f e p k = .ok (acc, kk)) := by show _ = _; rw [HS.out, HP.out]; simp [hdq, pre]
      go_wp2_with fail
      go_ret
      exact ⟨_, acc, 0, kk, 0, rfl, HO.out, HRR.out, HRD.out, HKK.out, HCH.out, fun h => absurd rfl h, fun _ => HF.out⟩
theorem headers_any (q pb f : Nat) (p : ByteArray) (k e : Nat) (w : World) (h : RR w q pb f) (hr : Rd w pb p k e) (hq : pb ≠ q) (hk : k ≤ p.size) (hs : p.size ≤ 9223372036854775807) :
    Calls Tryz.prog 165 #[.pointer (some ⟨q, 0, none⟩)] w (HPost q pb p w.heap.size (hres f e p k) w) := by
  obtain ⟨c, k1, e1, hu⟩ : ∃ c k1 e1, uq p k e = (c, k1, e1) := ⟨_, _, _, rfl⟩
  by_cases hz : fl (rf (decide ((1024 : Int) < (c : Int))) 5 f e1) e1 = 0
  · by_cases hc : c = 0
    · exact headers_none q pb f p k e w h hr hq hk hs c k1 e1 _ hu rfl hz hc
    · exact headers_some q pb f p k e w h hr hq hk hs c k1 e1 _ hu rfl hz hc
  · exact headers_bad q pb f p k e w h hr hq hk hs c k1 e1 _ hu rfl hz
end Go.Proofs.YtihokphamgkkcaaGreat
