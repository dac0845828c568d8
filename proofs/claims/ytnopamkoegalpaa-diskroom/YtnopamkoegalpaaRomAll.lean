/- DiskRoom: the walk. -/
import Derived.Test.YtnopamkoegalpaaRomV
namespace Go.Proofs.Ytnopamkoegalpaa
open Go.RowKit
theorem dn_no (o : Op5) (rm : Nat) (V : Vw) (h2 : o.k ≠ 2) (h : dnE o rm V ≠ 0) : dnV o rm V = V := by
  unfold dnE at h
  unfold dnV
  by_cases h1 : o.k = 1
  · rw [if_pos h1] at h ⊢
    unfold crV
    rw [if_neg h]
  rw [if_neg h1] at h ⊢
  rw [if_neg h2] at h ⊢
  by_cases h3 : o.k = 3
  · rw [if_pos h3] at h ⊢
    unfold cuE at h
    unfold cuV
    cases hv : vl o.nm V with
    | none => rfl
    | some x =>
      rw [hv] at h
      simp only at h ⊢
      split at h
      · exact absurd rfl h
      · rename_i hf
        rw [if_neg hf]
  rw [if_neg h3] at h ⊢
  by_cases h7 : o.k = 7
  · rw [if_neg (by omega), if_neg (by omega)]
  rw [if_neg h7] at h
  have hv : vl o.nm V = none := by
    cases hv : vl o.nm V with
    | none => rfl
    | some x => rw [hv] at h; exact absurd rfl h
  by_cases h4 : o.k = 4
  · rw [if_pos h4]
    unfold synV
    rw [hv]
  rw [if_neg h4]
  by_cases h5 : o.k = 5
  · rw [if_pos h5]
    exact vdel_no hv
  rw [if_neg h5]
set_option maxHeartbeats 8000000 in
set_option maxRecDepth 20000 in
theorem room_walk (room : Int) (a : Option Addr) (cap : Nat) (os : List Op5) (w : World) (hl : os.length ≤ 9223372036854775807) (hz : ∀ o ∈ os, OpOk o) (V : Scr w a os) :
    Calls Try.prog 7 #[.int .i64 room, .slice a os.length cap] w fun e w' => e = .returned (.bool true) ∧ Below w.heap.size w w' := by
  have HV := hid V
  have HZ := hid hz
  have HL := hid hl
  clear V hz hl
  have HFX := hid (fixed_any w)
  go_enter Try.func7, Try.ntmps7
  go_wp2_with (first | (go_at_call 9; refine HFX.out.mono ?_; rintro e w1 ⟨rfl, hb1⟩; have HB1 := hid hb1; clear hb1) | (go_at_call 10; refine (o_new w _ w.heap.size _ HB1.out HB1.out.size).mono ?_; rintro e w2 ⟨d, rfl, h2⟩; have H2 := hid h2; clear h2))
  clear HFX
  have HRM : Hid ((clamp room : Int) = min (max room 0) 1099511627776) := by show _ = _; unfold clamp; omega
  generalize clamp room = rm at *
  go_loopg [7] os.length (fun k i wr => ∃ (j : Nat) (cl cb : Int) (V : Vw), j + k = os.length ∧ i = .int .i64 j ∧ Hid (One w w.heap.size wr d rm cl cb V) ∧ Hid (Vn V))
  case atStart => exact ⟨0, 0, 0, [], by omega, rfl, H2, hid ⟨by simp, by simp⟩⟩
  case round =>
    clear H2
    obtain ⟨j, cl, cb, V, hk, rfl, HT, HVN⟩ := hrel
    by_cases hlt : j < os.length
    · obtain ⟨k, rfl⟩ : ∃ k, gk = k + 1 := ⟨gk - 1, by omega⟩
      rcases HV.out with rfl | ⟨b, off, rfl, hbl, hc⟩
      · simp at hlt
      obtain ⟨q0, q1, q2, q3, q4⟩ := hc j hlt
      have hK := HZ.out _ (scr_mem hlt)
      generalize os.getD j o0 = o at *
      have hbw := HT.out.below
      have k0 := (hbw.cell (p := ⟨b, off + j * 5, none⟩) hbl).trans q0
      have k1 := (hbw.cell (p := ⟨b, off + j * 5 + 1, none⟩) hbl).trans q1
      have k2 := (hbw.cell (p := ⟨b, off + j * 5 + 2, none⟩) hbl).trans q2
      have k3 := (hbw.cell (p := ⟨b, off + j * 5 + 3, none⟩) hbl).trans q3
      have k4 := (hbw.cell (p := ⟨b, off + j * 5 + 4, none⟩) hbl).trans q4
      have hltI : (j : Int) < os.length := by omega
      have HK := hid hK
      clear hc q0 q1 q2 q3 q4 hK hbw
      obtain ⟨Kd, nm, A, B, S⟩ := o
      simp only at k0 k1 k2 k3 k4
      obtain ⟨wo, hwo⟩ : ∃ wo, wo = wr.alloc (.cells #[.int .i64 Kd, .string nm, .int .i64 A, .int .i64 B, .string S] 31) := ⟨_, rfl⟩
      have HOB : Hid (wo.heap[wr.heap.size]? = some (.cells #[.int .i64 Kd, .string nm, .int .i64 A, .int .i64 B, .string S] 31 (0, 0))) := by rw [hwo]; exact heap_new _ _
      have HT1 : Hid (One w w.heap.size wo d rm cl cb V) := by rw [hwo]; exact HT.out.kept (bel_alloc wr _)
      have HUS := hid (o_used w w.heap.size d rm cl cb V wo HT1.out)
      obtain ⟨sz, hsz⟩ : ∃ sz, szN (vl nm V) = sz := ⟨_, rfl⟩
      obtain ⟨ne, hne⟩ : ∃ ne, noE (vl nm V) = ne := ⟨_, rfl⟩
      have HSZ : Hid (∀ k, Calls Try.prog 24 #[.pointer (some ⟨d, 0, none⟩), .string nm] (wo.drewN k) fun e w' => e = .returned (.tuple #[.int .i64 sz, .int .i64 ne]) ∧ ∃ k', w' = (wo.drewN k).drewN k') := fun k => by
        have := o_size w w.heap.size d rm cl cb V nm (wo.drewN k) (HT1.out.drewN k) HK.out.1
        rw [hsz, hne] at this
        exact this
      have HSE := hid hsz
      have HNE := hid hne
      clear hsz hne
      rw [hwo] at HUS HSZ
      go_upto_if 52 with (first | (go_at_call 26; refine HUS.out.mono ?_; rintro e w4 ⟨rfl, k4, rfl⟩) | (go_at_call 24; refine (HSZ.out _).mono ?_; rintro e w5 ⟨rfl, k5, rfl⟩))
      go_cut [12] (fun _ wc => ∃ (cl' cb' : Int) (V' : Vw), Hid (One w w.heap.size wc d rm cl' cb' V') ∧ Hid (Vn V'))
      case first =>
        have HWO : Hid (wo = wr.alloc (.cells #[.int .i64 Kd, .string nm, .int .i64 A, .int .i64 B, .string S] 31)) := hwo
        have hrise : V.Pairwise (fun a b => bytesBefore a.1.data.toList b.1.data.toList = true) := by obtain ⟨ft, hds, _⟩ := HT1.out; exact hds.rise
        have hlens : (∀ x ∈ V, x.1.size ≤ maxLen ∧ x.2.1.length ≤ 1073741824 ∧ x.2.2 ≤ x.2.1.length) ∧ vt V ≤ rm ∧ rm ≤ 1099511627776 := by obtain ⟨ft, hds, _⟩ := HT1.out; exact hds.lens
        have HRI := hid hrise
        have HLE := hid hlens
        clear hrise hlens HUS HSZ hwo
        by_cases e6 : Kd = 6
        · subst e6
          cases hvl : vl nm V with
          | none =>
            obtain rfl : sz = 0 := by have := HSE.out; rw [hvl] at this; exact this.symm
            obtain rfl : ne = 4 := by have := HNE.out; rw [hvl] at this; exact this.symm
            have HVL := hid hvl
            clear hvl
            have HOV : Hid (∀ (q : Nat) (Q : Ending → World → Prop), (∀ w', One w w.heap.size w' d rm cl cb (V) → Oth ((wr.alloc (.cells #[.int .i64 6, .string nm, .int .i64 A, .int .i64 B, .string S] 31)).drewN q) w' → Q (.returned (.int .i64 4)) w') → Calls Try.prog 27 #[.pointer (some ⟨d, 0, none⟩), .string nm, .int .i64 A, .string S] ((wr.alloc (.cells #[.int .i64 6, .string nm, .int .i64 A, .int .i64 B, .string S] 31)).drewN q) Q) := fun q Q hQ => by
              rw [← HWO.out] at hQ ⊢
              refine (HT1.out.drewN q).first (fun fa h => ?_) hQ
              have := s_over d fa rm cl cb V nm _ h A S HK.out.1 HK.out.2
              unfold ovV ovE at this
              rw [HVL.out] at this
              exact this
            have eU : vt V = vt V := rfl
            have HUU : Hid (∀ w', One w w.heap.size w' d rm cl cb (V) → Calls Try.prog 26 #[.pointer (some ⟨d, 0, none⟩)] w' fun e w'' => e = .returned (.int .i64 (vt V)) ∧ ∃ k, w'' = w'.drewN k) := fun w' h => by have := o_used w w.heap.size d rm cl cb (V) w' h; rw [eU] at this; exact this
            have HOBq : Hid (∀ q, ((wr.alloc (.cells #[.int .i64 6, .string nm, .int .i64 A, .int .i64 B, .string S] 31)).drewN q).heap[wr.heap.size]? = some (.cells #[.int .i64 6, .string nm, .int .i64 A, .int .i64 B, .string S] 31 (0, 0))) := fun q => by rw [← HWO.out]; exact HOB.out
            as_aux_lemma =>
              go_wp2_with (first | (go_at_call 27; refine HOV.out _ _ ?_; intro w6 h6 o6; have hob6 := o6 wr.heap.size _ _ _ (HOBq.out _) (by decide) (by decide) (by decide); have c60 := (cell_of (i := 0) hob6).trans rfl; have c61 := (cell_of (i := 1) hob6).trans rfl; have c62 := (cell_of (i := 2) hob6).trans rfl; have c63 := (cell_of (i := 3) hob6).trans rfl; have c64 := (cell_of (i := 4) hob6).trans rfl; have H6 := hid h6; clear h6 o6 hob6) | (go_at_call 26; refine (HUU.out _ H6.out).mono ?_; rintro e w7 ⟨rfl, k7, rfl⟩))
              go_meet
              case rel => exact ⟨cl, cb, _, hid (H6.out.drewN _), HVN⟩
          | some x =>
            obtain rfl : sz = x.1.length := by have := HSE.out; rw [hvl] at this; exact this.symm
            obtain rfl : ne = 0 := by have := HNE.out; rw [hvl] at this; exact this.symm
            have HVL := hid hvl
            clear hvl
            have hxl := (HLE.out.1 _ (vl_mem HVL.out)).2.1
            simp only at hxl
            cases hh : has5 x.1.length A S.size with
            | true =>
              have hh' := of_decide_eq_true hh
              obtain ⟨An, rfl⟩ : ∃ An : Nat, A = An := ⟨A.toNat, by omega⟩
              have HHH := hid hh
              obtain ⟨M, hM⟩ : ∃ M : Nat, (x.1.length : Int) - An = M := ⟨x.1.length - An, by omega⟩
              have q2 : IntKind.i64.wrap ((x.1.length : Int) - An) = M := by rw [hM]; simp only [IntKind.wrap, IntKind.bits, IntKind.signed, Bool.true_and]; split <;> rename_i h <;> simp at h <;> omega
              have q1 : decide ((An : Int) ≤ x.1.length) = true := by simp; omega
              have q1' : An ≤ x.1.length := by omega
              have q3 : decide ((S.size : Int) ≤ M) = true := by simp; omega
              have q3' : S.size ≤ M := by omega
              have hsz2 : S.data.toList.length = S.size := by rw [← Lib.size_eq]
              have eU : vt (vset nm (ovr x.1 An S.data.toList, x.2) V) = vt V := by have := vt_set (y := (ovr x.1 An S.data.toList, x.2)) HRI.out HVL.out; simp only at this; rw [ovr_len _ _ _ (by omega)] at this; omega
              have HEU := hid eU
              clear hh hh' hM hxl hsz2 eU
              have HOV : Hid (∀ (q : Nat) (Q : Ending → World → Prop), (∀ w', One w w.heap.size w' d rm cl cb (vset nm (ovr x.1 An S.data.toList, x.2) V) → Oth ((wr.alloc (.cells #[.int .i64 6, .string nm, .int .i64 (An : Int), .int .i64 B, .string S] 31)).drewN q) w' → Q (.returned (.int .i64 0)) w') → Calls Try.prog 27 #[.pointer (some ⟨d, 0, none⟩), .string nm, .int .i64 (An : Int), .string S] ((wr.alloc (.cells #[.int .i64 6, .string nm, .int .i64 (An : Int), .int .i64 B, .string S] 31)).drewN q) Q) := fun q Q hQ => by
                rw [← HWO.out] at hQ ⊢
                refine (HT1.out.drewN q).first (fun fa h => ?_) hQ
                have := s_over d fa rm cl cb V nm _ h (An : Int) S HK.out.1 HK.out.2
                unfold ovV ovE at this
                rw [HVL.out] at this
                simp only [HHH.out, if_true, Int.toNat_natCast] at this
                exact this
              have HUU : Hid (∀ w', One w w.heap.size w' d rm cl cb (vset nm (ovr x.1 An S.data.toList, x.2) V) → Calls Try.prog 26 #[.pointer (some ⟨d, 0, none⟩)] w' fun e w'' => e = .returned (.int .i64 (vt V)) ∧ ∃ k, w'' = w'.drewN k) := fun w' h => by have := o_used w w.heap.size d rm cl cb (vset nm (ovr x.1 An S.data.toList, x.2) V) w' h; rw [HEU.out] at this; exact this
              have HOBq : Hid (∀ q, ((wr.alloc (.cells #[.int .i64 6, .string nm, .int .i64 (An : Int), .int .i64 B, .string S] 31)).drewN q).heap[wr.heap.size]? = some (.cells #[.int .i64 6, .string nm, .int .i64 (An : Int), .int .i64 B, .string S] 31 (0, 0))) := fun q => by rw [← HWO.out]; exact HOB.out
              as_aux_lemma =>
                go_wp2_with (first | (go_at_call 27; refine HOV.out _ _ ?_; intro w6 h6 o6; have hob6 := o6 wr.heap.size _ _ _ (HOBq.out _) (by decide) (by decide) (by decide); have c60 := (cell_of (i := 0) hob6).trans rfl; have c61 := (cell_of (i := 1) hob6).trans rfl; have c62 := (cell_of (i := 2) hob6).trans rfl; have c63 := (cell_of (i := 3) hob6).trans rfl; have c64 := (cell_of (i := 4) hob6).trans rfl; have H6 := hid h6; clear h6 o6 hob6) | (go_at_call 26; refine (HUU.out _ H6.out).mono ?_; rintro e w7 ⟨rfl, k7, rfl⟩))
                go_meet
                case rel => exact ⟨cl, cb, _, hid (H6.out.drewN _), hid HVN.out.set⟩
            | false =>
              have HHH := hid hh
              have hno : ¬ (0 ≤ A ∧ 0 ≤ (S.size : Int) ∧ (S.size : Int) ≤ x.1.length - A) := of_decide_eq_false hh
              have eU : vt V = vt V := rfl
              have HOV : Hid (∀ (q : Nat) (Q : Ending → World → Prop), (∀ w', One w w.heap.size w' d rm cl cb (V) → Oth ((wr.alloc (.cells #[.int .i64 6, .string nm, .int .i64 A, .int .i64 B, .string S] 31)).drewN q) w' → Q (.returned (.int .i64 1)) w') → Calls Try.prog 27 #[.pointer (some ⟨d, 0, none⟩), .string nm, .int .i64 A, .string S] ((wr.alloc (.cells #[.int .i64 6, .string nm, .int .i64 A, .int .i64 B, .string S] 31)).drewN q) Q) := fun q Q hQ => by
                rw [← HWO.out] at hQ ⊢
                refine (HT1.out.drewN q).first (fun fa h => ?_) hQ
                have := s_over d fa rm cl cb V nm _ h A S HK.out.1 HK.out.2
                unfold ovV ovE at this
                rw [HVL.out] at this
                simp only [HHH.out, Bool.false_eq_true, if_false] at this
                exact this
              by_cases g1 : 0 ≤ A
              · obtain ⟨An, rfl⟩ : ∃ An : Nat, A = An := ⟨A.toNat, by omega⟩
                by_cases g2 : An ≤ x.1.length
                · obtain ⟨M, hM⟩ : ∃ M : Nat, (x.1.length : Int) - An = M := ⟨x.1.length - An, by omega⟩
                  have q2 : IntKind.i64.wrap ((x.1.length : Int) - An) = M := by rw [hM]; simp only [IntKind.wrap, IntKind.bits, IntKind.signed, Bool.true_and]; split <;> rename_i h <;> simp at h <;> omega
                  have q1 : decide ((An : Int) ≤ x.1.length) = true := by simp; omega
                  have q3 : decide ((S.size : Int) ≤ M) = false := by simp; omega
                  have q3' : ¬ S.size ≤ M := by omega
                  clear hh hno hM hxl g1
                  have HUU : Hid (∀ w', One w w.heap.size w' d rm cl cb (V) → Calls Try.prog 26 #[.pointer (some ⟨d, 0, none⟩)] w' fun e w'' => e = .returned (.int .i64 (vt V)) ∧ ∃ k, w'' = w'.drewN k) := fun w' h => by have := o_used w w.heap.size d rm cl cb (V) w' h; rw [eU] at this; exact this
                  have HOBq : Hid (∀ q, ((wr.alloc (.cells #[.int .i64 6, .string nm, .int .i64 (An : Int), .int .i64 B, .string S] 31)).drewN q).heap[wr.heap.size]? = some (.cells #[.int .i64 6, .string nm, .int .i64 (An : Int), .int .i64 B, .string S] 31 (0, 0))) := fun q => by rw [← HWO.out]; exact HOB.out
                  as_aux_lemma =>
                    go_wp2_with (first | (go_at_call 27; refine HOV.out _ _ ?_; intro w6 h6 o6; have hob6 := o6 wr.heap.size _ _ _ (HOBq.out _) (by decide) (by decide) (by decide); have c60 := (cell_of (i := 0) hob6).trans rfl; have c61 := (cell_of (i := 1) hob6).trans rfl; have c62 := (cell_of (i := 2) hob6).trans rfl; have c63 := (cell_of (i := 3) hob6).trans rfl; have c64 := (cell_of (i := 4) hob6).trans rfl; have H6 := hid h6; clear h6 o6 hob6) | (go_at_call 26; refine (HUU.out _ H6.out).mono ?_; rintro e w7 ⟨rfl, k7, rfl⟩))
                    go_meet
                    case rel => exact ⟨cl, cb, _, hid (H6.out.drewN _), HVN⟩
                · have q1 : decide ((An : Int) ≤ x.1.length) = false := by simp; omega
                  clear hh hno hxl g1
                  have HUU : Hid (∀ w', One w w.heap.size w' d rm cl cb (V) → Calls Try.prog 26 #[.pointer (some ⟨d, 0, none⟩)] w' fun e w'' => e = .returned (.int .i64 (vt V)) ∧ ∃ k, w'' = w'.drewN k) := fun w' h => by have := o_used w w.heap.size d rm cl cb (V) w' h; rw [eU] at this; exact this
                  have HOBq : Hid (∀ q, ((wr.alloc (.cells #[.int .i64 6, .string nm, .int .i64 (An : Int), .int .i64 B, .string S] 31)).drewN q).heap[wr.heap.size]? = some (.cells #[.int .i64 6, .string nm, .int .i64 (An : Int), .int .i64 B, .string S] 31 (0, 0))) := fun q => by rw [← HWO.out]; exact HOB.out
                  as_aux_lemma =>
                    go_wp2_with (first | (go_at_call 27; refine HOV.out _ _ ?_; intro w6 h6 o6; have hob6 := o6 wr.heap.size _ _ _ (HOBq.out _) (by decide) (by decide) (by decide); have c60 := (cell_of (i := 0) hob6).trans rfl; have c61 := (cell_of (i := 1) hob6).trans rfl; have c62 := (cell_of (i := 2) hob6).trans rfl; have c63 := (cell_of (i := 3) hob6).trans rfl; have c64 := (cell_of (i := 4) hob6).trans rfl; have H6 := hid h6; clear h6 o6 hob6) | (go_at_call 26; refine (HUU.out _ H6.out).mono ?_; rintro e w7 ⟨rfl, k7, rfl⟩))
                    go_meet
                    case rel => exact ⟨cl, cb, _, hid (H6.out.drewN _), HVN⟩
              · have q0 : decide (0 ≤ A) = false := by simp; omega
                clear hh hno hxl g1
                have HUU : Hid (∀ w', One w w.heap.size w' d rm cl cb (V) → Calls Try.prog 26 #[.pointer (some ⟨d, 0, none⟩)] w' fun e w'' => e = .returned (.int .i64 (vt V)) ∧ ∃ k, w'' = w'.drewN k) := fun w' h => by have := o_used w w.heap.size d rm cl cb (V) w' h; rw [eU] at this; exact this
                have HOBq : Hid (∀ q, ((wr.alloc (.cells #[.int .i64 6, .string nm, .int .i64 A, .int .i64 B, .string S] 31)).drewN q).heap[wr.heap.size]? = some (.cells #[.int .i64 6, .string nm, .int .i64 A, .int .i64 B, .string S] 31 (0, 0))) := fun q => by rw [← HWO.out]; exact HOB.out
                as_aux_lemma =>
                  go_wp2_with (first | (go_at_call 27; refine HOV.out _ _ ?_; intro w6 h6 o6; have hob6 := o6 wr.heap.size _ _ _ (HOBq.out _) (by decide) (by decide) (by decide); have c60 := (cell_of (i := 0) hob6).trans rfl; have c61 := (cell_of (i := 1) hob6).trans rfl; have c62 := (cell_of (i := 2) hob6).trans rfl; have c63 := (cell_of (i := 3) hob6).trans rfl; have c64 := (cell_of (i := 4) hob6).trans rfl; have H6 := hid h6; clear h6 o6 hob6) | (go_at_call 26; refine (HUU.out _ H6.out).mono ?_; rintro e w7 ⟨rfl, k7, rfl⟩))
                  go_meet
                  case rel => exact ⟨cl, cb, _, hid (H6.out.drewN _), HVN⟩
        · obtain ⟨sx, hsx⟩ : ∃ sx, dnS ⟨Kd, nm, A, B, S⟩ V = sx := ⟨_, rfl⟩
          obtain ⟨nx, hnx⟩ : ∃ nx, dnN ⟨Kd, nm, A, B, S⟩ rm V = nx := ⟨_, rfl⟩
          obtain ⟨ex, hex⟩ : ∃ ex, dnE ⟨Kd, nm, A, B, S⟩ rm V = ex := ⟨_, rfl⟩
          obtain ⟨V2, hV2⟩ : ∃ V2, dnV ⟨Kd, nm, A, B, S⟩ rm V = V2 := ⟨_, rfl⟩
          have HV2 : Hid (Vn V2) := by rw [← hV2]; exact Vn.dn _ _ HVN.out
          have HDN : Hid (∀ (q : Nat) (Q : Ending → World → Prop), (∀ w', One w w.heap.size w' d rm (dnC ⟨Kd, nm, A, B, S⟩ V cl) (dnB ⟨Kd, nm, A, B, S⟩ V cb) V2 → Oth ((wr.alloc (.cells #[.int .i64 Kd, .string nm, .int .i64 A, .int .i64 B, .string S] 31)).drewN q) w' → Q (.returned (.tuple #[.string sx, .int .i64 nx, .int .i64 ex])) w') → Calls Try.prog 19 #[.iface 24 (.pointer (some ⟨d, 0, none⟩)), .agg #[.int .i64 Kd, .string nm, .int .i64 A, .int .i64 B, .string S]] ((wr.alloc (.cells #[.int .i64 Kd, .string nm, .int .i64 A, .int .i64 B, .string S] 31)).drewN q) Q) := fun q Q hQ => by
            rw [← HWO.out] at hQ ⊢
            refine (HT1.out.drewN q).first (fun fa h => ?_) hQ
            have := done_any d fa rm cl cb V ⟨Kd, nm, A, B, S⟩ HK.out.1 HK.out.2 _ h
            rw [hsx, hnx, hex, hV2] at this
            exact this
          have HOBq : Hid (∀ q, ((wr.alloc (.cells #[.int .i64 Kd, .string nm, .int .i64 A, .int .i64 B, .string S] 31)).drewN q).heap[wr.heap.size]? = some (.cells #[.int .i64 Kd, .string nm, .int .i64 A, .int .i64 B, .string S] 31 (0, 0))) := fun q => by rw [← HWO.out]; exact HOB.out
          have HEX := hid hex
          have HNX := hid hnx
          have HDV := hid hV2
          clear hsx hnx hex hV2
          generalize dnC ⟨Kd, nm, A, B, S⟩ V cl = cl2 at HDN
          generalize dnB ⟨Kd, nm, A, B, S⟩ V cb = cb2 at HDN
          by_cases e2 : Kd = 2
          · subst e2
            cases hvl : vl nm V with
            | none =>
              obtain rfl : ne = 4 := by have := HNE.out; rw [hvl] at this; exact this.symm
              obtain rfl : ex = 4 := by have := HEX.out; simp (config := {decide := true}) only [dnE, hvl, if_true, if_false, apE] at this; exact this.symm
              have eV : V2 = V := by have := HDV.out; simp (config := {decide := true}) only [dnV, if_true, if_false] at this; unfold apV at this; rw [hvl] at this; exact this.symm
              have HEV := hid eV
              clear hvl eV
              have HUU : Hid (∀ w', One w w.heap.size w' d rm cl2 cb2 V2 → Calls Try.prog 26 #[.pointer (some ⟨d, 0, none⟩)] w' fun e w'' => e = .returned (.int .i64 (vt V)) ∧ ∃ k, w'' = w'.drewN k) := fun w' h => by have := o_used w w.heap.size d rm cl2 cb2 V2 w' h; rw [HEV.out] at this; exact this
              as_aux_lemma =>
                go_wp2_with (first | (go_at_call 19; refine HDN.out _ _ ?_; intro w6 h6 o6; have hob6 := o6 wr.heap.size _ _ _ (HOBq.out _) (by decide) (by decide) (by decide); have c60 := (cell_of (i := 0) hob6).trans rfl; have c61 := (cell_of (i := 1) hob6).trans rfl; have c62 := (cell_of (i := 2) hob6).trans rfl; have c63 := (cell_of (i := 3) hob6).trans rfl; have c64 := (cell_of (i := 4) hob6).trans rfl; have H6 := hid h6; clear h6 o6 hob6) | (go_at_call 26; refine (HUU.out _ H6.out).mono ?_; rintro e w7 ⟨rfl, k7, rfl⟩))
                go_meet
                case rel => exact ⟨cl2, cb2, V2, hid (H6.out.drewN _), HV2⟩
            | some x =>
              obtain rfl : sz = x.1.length := by have := HSE.out; rw [hvl] at this; exact this.symm
              obtain rfl : ne = 0 := by have := HNE.out; rw [hvl] at this; exact this.symm
              have HVL := hid hvl
              have hxl := (HLE.out.1 _ (vl_mem HVL.out)).2.1
              simp only at hxl
              have hle := HLE.out.2
              have hrm := HRM.out
              have hN1 : nx = apN (some x) rm (vt V) S := by have := HNX.out; simp (config := {decide := true}) only [dnN, hvl, if_true] at this; exact this.symm
              have hE1 : ex = if nx < S.size then 2 else 0 := by have := HEX.out; simp (config := {decide := true}) only [dnE, hvl, if_true, if_false, apE] at this; rw [hN1]; exact this.symm
              have hNe : nx = min (min S.size (rm - vt V)) (1073741824 - x.1.length) := hN1
              have eU : vt V2 = vt V + nx := by
                have := HDV.out
                simp (config := {decide := true}) only [dnV, if_true, if_false] at this
                unfold apV at this
                rw [hvl] at this
                simp only at this
                rw [← this]
                have h5 := vt_set (y := (x.1 ++ S.data.toList.take (apN (some x) rm (vt V) S), x.2)) HRI.out hvl
                simp only at h5
                rw [List.length_append, List.length_take, ← Lib.size_eq, ← hN1] at h5
                rw [← hN1]
                omega
              obtain ⟨X, hX⟩ : ∃ X : Nat, min (max room 0) 1099511627776 - ((vt V : Nat) : Int) = X := ⟨rm - vt V, by omega⟩
              obtain ⟨Y, hY⟩ : ∃ Y : Nat, (1073741824 : Int) - (x.1.length : Int) = Y := ⟨1073741824 - x.1.length, by omega⟩
              have eX : IntKind.i64.wrap (min (max room 0) 1099511627776 - ((vt V : Nat) : Int)) = X := by rw [hX]; simp only [IntKind.wrap, IntKind.bits, IntKind.signed, Bool.true_and]; split <;> rename_i h <;> simp at h <;> omega
              have eY : IntKind.i64.wrap ((1073741824 : Int) - (x.1.length : Int)) = Y := by rw [hY]; simp only [IntKind.wrap, IntKind.bits, IntKind.signed, Bool.true_and]; split <;> rename_i h <;> simp at h <;> omega
              have eW : IntKind.i64.wrap (((vt V : Nat) : Int) + nx) = ((vt V : Nat) : Int) + nx := by simp only [IntKind.wrap, IntKind.bits, IntKind.signed, Bool.true_and]; split <;> rename_i h <;> simp at h <;> omega
              have fin : (X < S.size ∧ Y < X ∧ nx = Y ∧ ex = 2) ∨ (X < S.size ∧ ¬ Y < X ∧ nx = X ∧ ex = 2) ∨ (¬ X < S.size ∧ Y < S.size ∧ nx = Y ∧ ex = 2) ∨ (¬ X < S.size ∧ ¬ Y < S.size ∧ nx = S.size ∧ ex = 0) := by rw [hE1]; split <;> omega
              have HEU : Hid (((vt V2 : Nat) : Int) = ((vt V : Nat) : Int) + nx) := by show _ = _; rw [eU]; omega
              have HUU : Hid (∀ w', One w w.heap.size w' d rm cl2 cb2 V2 → Calls Try.prog 26 #[.pointer (some ⟨d, 0, none⟩)] w' fun e w'' => e = .returned (.int .i64 (((vt V : Nat) : Int) + nx)) ∧ ∃ k, w'' = w'.drewN k) := fun w' h => by have := o_used w w.heap.size d rm cl2 cb2 V2 w' h; rw [HEU.out] at this; exact this
              have eM : IntKind.i64.wrap ((vt V : Nat) : Int) = ((vt V : Nat) : Int) := by simp only [IntKind.wrap, IntKind.bits, IntKind.signed, Bool.true_and]; split <;> rename_i h <;> simp at h <;> omega
              clear hvl hxl hle hrm hN1 hE1 hNe eU hX hY eM HNX HEX HDV HSE HNE
              rcases fin with ⟨f1, f2, rfl, rfl⟩ | ⟨f1, f2, rfl, rfl⟩ | ⟨f1, f2, rfl, rfl⟩ | ⟨f1, f2, rfl, rfl⟩
              · have f1' : (X : Int) < S.size := by omega
                have f2' : (nx : Int) < X := by omega
                have f3 : decide ((nx : Int) = S.size) = false := by simp; omega
                have f3' : ¬ nx = S.size := by omega
                as_aux_lemma =>
                  go_wp2_with (first | (go_at_call 19; refine HDN.out _ _ ?_; intro w6 h6 o6; have hob6 := o6 wr.heap.size _ _ _ (HOBq.out _) (by decide) (by decide) (by decide); have c60 := (cell_of (i := 0) hob6).trans rfl; have c61 := (cell_of (i := 1) hob6).trans rfl; have c62 := (cell_of (i := 2) hob6).trans rfl; have c63 := (cell_of (i := 3) hob6).trans rfl; have c64 := (cell_of (i := 4) hob6).trans rfl; have H6 := hid h6; clear h6 o6 hob6) | (go_at_call 26; refine (HUU.out _ H6.out).mono ?_; rintro e w7 ⟨rfl, k7, rfl⟩))
                  go_meet
                  case rel => exact ⟨cl2, cb2, V2, hid (H6.out.drewN _), HV2⟩
              · have f1' : (nx : Int) < S.size := by omega
                have f2' : ¬ (Y : Int) < nx := by omega
                have f3 : decide ((nx : Int) = S.size) = false := by simp; omega
                have f3' : ¬ nx = S.size := by omega
                as_aux_lemma =>
                  go_wp2_with (first | (go_at_call 19; refine HDN.out _ _ ?_; intro w6 h6 o6; have hob6 := o6 wr.heap.size _ _ _ (HOBq.out _) (by decide) (by decide) (by decide); have c60 := (cell_of (i := 0) hob6).trans rfl; have c61 := (cell_of (i := 1) hob6).trans rfl; have c62 := (cell_of (i := 2) hob6).trans rfl; have c63 := (cell_of (i := 3) hob6).trans rfl; have c64 := (cell_of (i := 4) hob6).trans rfl; have H6 := hid h6; clear h6 o6 hob6) | (go_at_call 26; refine (HUU.out _ H6.out).mono ?_; rintro e w7 ⟨rfl, k7, rfl⟩))
                  go_meet
                  case rel => exact ⟨cl2, cb2, V2, hid (H6.out.drewN _), HV2⟩
              · have f1' : ¬ (X : Int) < S.size := by omega
                have f2' : (nx : Int) < S.size := by omega
                have f3 : decide ((nx : Int) = S.size) = false := by simp; omega
                have f3' : ¬ nx = S.size := by omega
                as_aux_lemma =>
                  go_wp2_with (first | (go_at_call 19; refine HDN.out _ _ ?_; intro w6 h6 o6; have hob6 := o6 wr.heap.size _ _ _ (HOBq.out _) (by decide) (by decide) (by decide); have c60 := (cell_of (i := 0) hob6).trans rfl; have c61 := (cell_of (i := 1) hob6).trans rfl; have c62 := (cell_of (i := 2) hob6).trans rfl; have c63 := (cell_of (i := 3) hob6).trans rfl; have c64 := (cell_of (i := 4) hob6).trans rfl; have H6 := hid h6; clear h6 o6 hob6) | (go_at_call 26; refine (HUU.out _ H6.out).mono ?_; rintro e w7 ⟨rfl, k7, rfl⟩))
                  go_meet
                  case rel => exact ⟨cl2, cb2, V2, hid (H6.out.drewN _), HV2⟩
              · have f1' : ¬ (X : Int) < S.size := by omega
                have f2' : ¬ (Y : Int) < S.size := by omega
                as_aux_lemma =>
                  go_wp2_with (first | (go_at_call 19; refine HDN.out _ _ ?_; intro w6 h6 o6; have hob6 := o6 wr.heap.size _ _ _ (HOBq.out _) (by decide) (by decide) (by decide); have c60 := (cell_of (i := 0) hob6).trans rfl; have c61 := (cell_of (i := 1) hob6).trans rfl; have c62 := (cell_of (i := 2) hob6).trans rfl; have c63 := (cell_of (i := 3) hob6).trans rfl; have c64 := (cell_of (i := 4) hob6).trans rfl; have H6 := hid h6; clear h6 o6 hob6) | (go_at_call 26; refine (HUU.out _ H6.out).mono ?_; rintro e w7 ⟨rfl, k7, rfl⟩))
                  go_meet
                  case rel => exact ⟨cl2, cb2, V2, hid (H6.out.drewN _), HV2⟩
          · have e2' : decide (Kd = 2) = false := by simp; exact e2
            have e6' : decide (Kd = 6) = false := by simp; exact e6
            by_cases g0 : ex = 0
            · subst g0
              as_aux_lemma =>
                go_wp2_with (first | (go_at_call 19; refine HDN.out _ _ ?_; intro w6 h6 o6; have hob6 := o6 wr.heap.size _ _ _ (HOBq.out _) (by decide) (by decide) (by decide); have c60 := (cell_of (i := 0) hob6).trans rfl; have c61 := (cell_of (i := 1) hob6).trans rfl; have c62 := (cell_of (i := 2) hob6).trans rfl; have c63 := (cell_of (i := 3) hob6).trans rfl; have c64 := (cell_of (i := 4) hob6).trans rfl; have H6 := hid h6; clear h6 o6 hob6))
                go_meet
                case rel => exact ⟨cl2, cb2, V2, H6, HV2⟩
            · have g0' : decide ((ex : Int) = 0) = false := by simp; omega
              have eV : V2 = V := by rw [← HDV.out]; exact dn_no ⟨Kd, nm, A, B, S⟩ rm V e2 (by rw [HEX.out]; exact g0)
              have HEV := hid eV
              clear eV
              have HUU : Hid (∀ w', One w w.heap.size w' d rm cl2 cb2 V2 → Calls Try.prog 26 #[.pointer (some ⟨d, 0, none⟩)] w' fun e w'' => e = .returned (.int .i64 (vt V)) ∧ ∃ k, w'' = w'.drewN k) := fun w' h => by have := o_used w w.heap.size d rm cl2 cb2 V2 w' h; rw [HEV.out] at this; exact this
              as_aux_lemma =>
                go_wp2_with (first | (go_at_call 19; refine HDN.out _ _ ?_; intro w6 h6 o6; have hob6 := o6 wr.heap.size _ _ _ (HOBq.out _) (by decide) (by decide) (by decide); have c60 := (cell_of (i := 0) hob6).trans rfl; have c61 := (cell_of (i := 1) hob6).trans rfl; have c62 := (cell_of (i := 2) hob6).trans rfl; have c63 := (cell_of (i := 3) hob6).trans rfl; have c64 := (cell_of (i := 4) hob6).trans rfl; have H6 := hid h6; clear h6 o6 hob6) | (go_at_call 26; refine (HUU.out _ H6.out).mono ?_; rintro e w7 ⟨rfl, k7, rfl⟩))
                go_meet
                case rel => exact ⟨cl2, cb2, V2, hid (H6.out.drewN _), HV2⟩
      case rest =>
        obtain ⟨cl', cb', V', HT2, HVN2⟩ := hcut
        obtain ⟨ft, hds, _⟩ := HT2.out
        have HRI := hid hds.rise
        have HLN := hid hds.lens
        have HLS := hid (s_list d ft rm cl' cb' V' wc hds HVN2.out.1)
        clear hds HUS HSZ HT HT1 HVN
        go_wp2_with (first | (go_at_call 17; refine HLS.out.mono ?_; rintro e w6 ⟨v6, rfl, l6, b6⟩; have H6 := hid (HT2.out.kept b6); have L6 := hid l6; clear l6 b6))
        have hvl : V'.length ≤ 65536 := HVN2.out.1
        obtain ⟨a6, c6, rfl, f6⟩ := row_form L6.out.1
        have hnl : (V'.map (fun x => x.1)).length = V'.length := List.length_map _
        rw [hnl]
        have F6 := hid f6
        clear f6 hnl
        have HVL := hid hvl
        clear hvl
        generalize hN : V'.length = N at *
        have HN := hid hN
        clear hN
        go_loopg [17, 19] N (fun g sm kk w7 => ∃ (m q : Nat), m + g = N ∧ kk = .int .i64 m ∧ sm = .int .i64 (vt (V'.take m)) ∧ w7 = w6.drewN q)
        case atStart => exact ⟨0, 0, by omega, rfl, by simp [vt], rfl⟩
        case round =>
          obtain ⟨m, q, hm, rfl, rfl, rfl⟩ := hrel
          by_cases hlm : m < N
          · obtain ⟨g, rfl⟩ : ∃ g, gk = g + 1 := ⟨gk - 1, by omega⟩
            have hmV : m < V'.length := by rw [HN.out]; exact hlm
            have hx : V'[m] ∈ V' := List.getElem_mem hmV
            have hvat := vl_at HRI.out hx
            have hln := HLN.out.1 _ hx
            have hnn := HVN2.out.2 _ hx
            have htk := vt_take hmV
            have htl := vt_le V' (m + 1)
            have hcell : ∀ i, i < V'.length → ∃ g, a6 = some ⟨g, 0, none⟩ ∧ w6.cell? ⟨g, i, none⟩ = some (.string (V'.getD i (ByteArray.empty, [], 0)).1) := by
              intro i hi
              refine F6.out i _ ?_
              rw [List.getElem?_map, List.getElem?_map, List.getElem?_eq_getElem hi]
              simp [List.getD_eq_getElem?_getD, hi]
            have egm : V'.getD m (ByteArray.empty, [], 0) = V'[m] := by simp [List.getD_eq_getElem?_getD, hmV]
            obtain ⟨g6, rfl, q6⟩ := hcell m hmV
            rw [egm] at q6
            have hprev : m = 0 ∨ ∃ p : ByteArray, 0 < m ∧ w6.cell? ⟨g6, m - 1, none⟩ = some (.string p) ∧ Op.bytesLess p.toList (V'[m]).1.toList = true := by
              by_cases h0 : m = 0
              · exact Or.inl h0
              · right
                have hm1 : m - 1 < V'.length := by omega
                obtain ⟨g6', e6, q6'⟩ := hcell (m - 1) hm1
                injection e6 with e6
                injection e6 with e6 _ _
                subst e6
                refine ⟨_, by omega, q6', less_nm ?_⟩
                have egm1 : V'.getD (m - 1) (ByteArray.empty, [], 0) = V'[m - 1] := by simp [List.getD_eq_getElem?_getD, hm1]
                rw [egm1]
                exact List.pairwise_iff_getElem.1 HRI.out (m - 1) m hm1 hmV (by omega)
            generalize hX : V'[m] = X at *
            obtain ⟨xn, xd, xs⟩ := X
            simp only at hvat hln hnn htk q6 hprev
            have HS1 : Hid (∀ k, Calls Try.prog 24 #[.pointer (some ⟨d, 0, none⟩), .string xn] (w6.drewN k) fun e w' => e = .returned (.tuple #[.int .i64 xd.length, .int .i64 0]) ∧ ∃ k', w' = (w6.drewN k).drewN k') := fun k => by
              have := o_size w w.heap.size d rm cl' cb' V' xn (w6.drewN k) (H6.out.drewN k) hln.1
              rw [hvat] at this
              exact this
            have HS2 : Hid (∀ k, Calls Try.prog 28 #[.pointer (some ⟨d, 0, none⟩), .string xn] (w6.drewN k) fun e w' => e = .returned (.tuple #[.int .i64 xs, .int .i64 0]) ∧ ∃ k', w' = (w6.drewN k).drewN k') := fun k => by
              have := o_synced w w.heap.size d rm cl' cb' V' xn (w6.drewN k) (H6.out.drewN k) hln.1
              rw [hvat] at this
              exact this
            have t0 : decide ((xs : Int) < 0) = false := by simp
            have t0' : ¬ (xs : Int) < 0 := by omega
            have t1 : decide ((xd.length : Int) < xs) = false := by have := hln.2.2; simp; omega
            have t1' : ¬ xd.length < xs := by have := hln.2.2; omega
            have t1'' : ¬ (xd.length : Int) < xs := by omega
            have t2' : ¬ (xn.size : Int) < 1 := by have := hnn.1; omega
            have t3' : ¬ (255 : Int) < xn.size := by have := hnn.2; omega
            have t2 : decide ((xn.size : Int) < 1) = false := by have := hnn.1; simp; omega
            have t3 : decide ((255 : Int) < xn.size) = false := by have := hnn.2; simp; omega
            have hrm := HLN.out.2
            have ews : IntKind.i64.wrap (((vt (V'.take m) : Nat) : Int) + xd.length) = ((vt (V'.take (m + 1)) : Nat) : Int) := by rw [htk]; simp only [IntKind.wrap, IntKind.bits, IntKind.signed, Bool.true_and]; split <;> rename_i h <;> simp at h <;> omega
            have EWS := hid ews
            have EWU : Hid (((vt (V'.take m) : Nat) : Int) + xd.length = ((vt (V'.take (m + 1)) : Nat) : Int)) := by show _ = _; rw [htk]; omega
            have ewk : IntKind.i64.wrap ((m : Int) + 1) = ((m + 1 : Nat) : Int) := by have := HVL.out; simp only [IntKind.wrap, IntKind.bits, IntKind.signed, Bool.true_and]; split <;> rename_i h <;> simp at h <;> omega
            have EWK := hid ewk
            have hlmI : (m : Int) < N := by omega
            have HPV := hid hprev
            clear hvat hln hnn htk htl hcell egm hrm ews ewk hX hx hprev
            have ewt : wrap64 (((vt (V'.take m) : Nat) : Int) + xd.length) = ((vt (V'.take (m + 1)) : Nat) : Int) := (w64_wrap _).trans EWS.out
            have EWT := hid ewt
            have EWL : Hid (wrap64 ((m : Int) + 1) = ((m + 1 : Nat) : Int)) := (w64_wrap _).trans EWK.out
            clear ewt
            rcases HPV.out with h0 | ⟨p, hm0, p1, p2⟩
            · as_aux_lemma =>
                subst h0
                go_wp2_with (first | (go_at_call 24; refine (HS1.out _).mono ?_; rintro e w8 ⟨rfl, k8, rfl⟩) | (go_at_call 28; refine (HS2.out _).mono ?_; rintro e w9 ⟨rfl, k9, rfl⟩))
                clear HS1 HS2 HPV HLS HK HZ HV HL H6 HT2 L6
                go_big_quiet (fail)
                go_wp2
                go_roundg g
                case measure => omega
                case rel =>
                  have s1 := EWS.out
                  have s2 := EWT.out
                  have k1 := EWK.out
                  have k2 := EWL.out
                  exact ⟨0 + 1, _, by omega, by first | exact congrArg (Value.int .i64) k2 | exact congrArg (Value.int .i64) k1 | exact congrArg (Value.int .i64) (by omega) | (congr 1; simp at k2 ⊢; omega), by first | exact congrArg (Value.int .i64) s2 | exact congrArg (Value.int .i64) s1 | exact congrArg (Value.int .i64) EWU.out | (have s3 := EWU.out; simp at s3 ⊢; exact s3) | (simp at s2 ⊢; exact s2), rfl⟩
            · as_aux_lemma =>
                obtain ⟨M, rfl⟩ : ∃ M, m = M + 1 := ⟨m - 1, by omega⟩
                rw [Nat.add_sub_cancel] at p1
                have eM : (M : Int) + 1 - 1 = M := by omega
                have hMI : (M : Int) < N := by omega
                have hMI2 : (M : Int) + 1 < N := by omega
                have d0 : (0 : Int) < (M : Int) + 1 := by omega
                go_wp2_with (first | (go_at_call 24; refine (HS1.out _).mono ?_; rintro e w8 ⟨rfl, k8, rfl⟩) | (go_at_call 28; refine (HS2.out _).mono ?_; rintro e w9 ⟨rfl, k9, rfl⟩))
                have hM65 : M ≤ 65536 := by have := HVL.out; omega
                have hMb : (M : Int) ≤ 65536 := by omega
                clear hM65
                clear HS1 HS2 HPV HLS HK HZ HV HL H6 HT2 L6
                go_big_quiet (fail)
                go_wp2
                go_roundg g
                case measure => omega
                case rel =>
                  have s1 := EWS.out
                  have s2 := EWT.out
                  have k1 := EWK.out
                  have k2 := EWL.out
                  exact ⟨M + 1 + 1, _, by omega, by first | exact congrArg (Value.int .i64) k2 | exact congrArg (Value.int .i64) k1 | exact congrArg (Value.int .i64) (by omega) | (congr 1; simp at k2 ⊢; omega), by first | exact congrArg (Value.int .i64) s2 | exact congrArg (Value.int .i64) s1 | exact congrArg (Value.int .i64) EWU.out | (have s3 := EWU.out; simp at s3 ⊢; exact s3) | (simp at s2 ⊢; exact s2), rfl⟩
          · have hlmD : decide ((m : Int) < N) = false := by simp; omega
            have hmN : m = N := by omega
            have eT : vt (V'.take m) = vt V' := by rw [List.take_of_length_le (by rw [HN.out]; omega)]
            rw [eT]
            have HUU : Hid (∀ k, _) := fun k => o_used w w.heap.size d rm cl' cb' V' (w6.drewN k) (H6.out.drewN k)
            have tm : decide (min (max room 0) 1099511627776 < ((vt V' : Nat) : Int)) = false := by have := HLN.out.2.1; have := HRM.out; simp; omega
            clear eT hmN
            go_wp2_with (first | (go_at_call 26; refine (HUU.out _).mono ?_; rintro e w8 ⟨rfl, k8, rfl⟩))
            go_roundg k
            case measure => omega
            case rel => have hLL := HL.out; have ew : wrap64 ((j : Int) + 1) = ((j + 1 : Nat) : Int) := by { unfold wrap64; omega }; exact ⟨j + 1, cl', cb', V', by omega, by first | exact congrArg (Value.int .i64) ew | (congr 1; omega), hid (H6.out.drewN _), HVN2⟩
    · have hltD : decide ((j : Int) < os.length) = false := by simp; omega
      have HBB := hid HT.out.below
      go_wp2
      go_ret
      exact ⟨rfl, HBB.out⟩
end Go.Proofs.Ytnopamkoegalpaa
