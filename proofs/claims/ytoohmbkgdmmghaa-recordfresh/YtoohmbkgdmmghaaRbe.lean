/- What ReadBody answers of bytes that may be a body. -/
import Derived.Test.YtoohmbkgdmmghaaRbd
namespace Go.Proofs.Ytoohmbkgdmmghaa
open Go.RowKit
theorem nxt_good {s : ByteArray} {k : Nat} {first : Int} {n : Nat} {y : Rec × Nat} (hs : s.size ≤ 9223372036854775807) (hk : k ≤ s.size) (hn : n < 65536) (h : nxt s k first n = .ok y) : y.2 ≤ s.size := by
  obtain ⟨r, k'⟩ := y
  obtain ⟨h1, h2, _, _⟩ := (nxt_iff hs hk (by omega)).1 h
  have := h1.1
  dsimp only
  omega
theorem run_next {s : ByteArray} {first : Int} {j k : Nat} {l : List Rec} (h : run s first j = .ok (l, k)) : run s first (j + 1) = match nxt s k first j with
    | .error e => .error e
    | .ok (r, k') => if j = 0 ∧ r.t ≠ first then .error 27 else .ok (l ++ [r], k') := by
  show (match run s first j with | .error e => _ | .ok (l, k) => _) = _
  rw [h]
  all_goals (dsimp only; cases nxt s k first j <;> rfl)
theorem rbd_err {s : ByteArray} {first : Int} {C j e : Nat} (hC : 1 ≤ C ∧ C ≤ 65536) (hz : s.size ≤ 16777216) (hj : j ≤ C) (h : run s first j = .error e) : rbd s first C = .error e := by
  unfold rbd
  rw [if_neg (by omega), if_neg (by omega), Int.toNat_natCast]
  have := run_err h (C - j)
  rw [show j + (C - j) = C by omega] at this
  rw [this]
set_option maxHeartbeats 1000000 in
set_option maxRecDepth 20000 in
theorem rbody_yes (s : ByteArray) (first : Int) (C : Nat) (w : World) (hf : I64 first) (hC : 1 ≤ C ∧ C ≤ 65536) (hz : s.size ≤ 16777216) :
    Calls Try.prog 12 #[.string s, .int .i64 first, .int .i64 C] w (RbPost (rbd s first C) w) := by
  have CI := hid (fun w => iscount_yes C w (by omega))
  have hs : s.size ≤ 9223372036854775807 := by omega
  have CN := hid (fun q pb j k x h hr hq hk hn => next_any q pb s k first j x h hr hq hk hs hf hn)
  have CD := hid (fun b k x h hk => rdone_any b s k 0 x h hk hs)
  have HC := hid hC
  have HZ := hid hz
  have HS := hid hs
  obtain ⟨i0, hi, hz0, hz1, hz2⟩ := info_parts Try.infoRec
  have hd : decide ((16777216 : Int) < (s.size : Int)) = false := decide_eq_false (by omega)
  obtain ⟨CAP, hCAP, hle⟩ : ∃ CAP : Nat, min (C : Int) (wrap64 ((s.size : Int) / 7)) = (CAP : Int) ∧ CAP ≤ 65536 := ⟨(min (C : Int) (wrap64 ((s.size : Int) / 7))).toNat, by unfold wrap64; omega, by unfold wrap64; omega⟩
  clear hf hC hz hs
  go_enter Try.func12, Try.ntmps12
  go_wp2_with (go_at_call 19; refine (CI.out _).mono ?_; rintro e w' ⟨rfl, rfl⟩)
  refine (newrd_any s _).mono ?_
  rintro r w1 ⟨rfl, rfl⟩
  have hb : Below w'.heap.size w' ((w'.alloc (.cells #[.int .i64 0, .string s, .int .i64 0] 78)).alloc (.cells #[.pointer (some ⟨w'.heap.size, 0, none⟩), .int .i64 0] 54)) := ((Below.refl _ w').alloc (Nat.le_refl _) _).alloc (by simp) _
  have hrd : Rd ((w'.alloc (.cells #[.int .i64 0, .string s, .int .i64 0] 78)).alloc (.cells #[.pointer (some ⟨w'.heap.size, 0, none⟩), .int .i64 0] 54)) w'.heap.size s 0 0 := heap_alloc_at (heap_new _ _)
  have hrr : RR ((w'.alloc (.cells #[.int .i64 0, .string s, .int .i64 0] 78)).alloc (.cells #[.pointer (some ⟨w'.heap.size, 0, none⟩), .int .i64 0] 54)) (w'.heap.size + 1) w'.heap.size 0 := heap_new' _ _ _ (by simp)
  generalize (w'.alloc (.cells #[.int .i64 0, .string s, .int .i64 0] 78)).alloc (.cells #[.pointer (some ⟨w'.heap.size, 0, none⟩), .int .i64 0] 54) = w1 at *
  obtain ⟨w4, hmk, hown, hgrow⟩ := run_make_own (P := Try.prog) w1 w'.heap.size 30 26 i0 (.agg #[.int .i64 0, .bool false, .string ⟨#[]⟩, .bool false, .string ⟨#[]⟩, .slice none 0 0]) 6 Try.underRecs hi hz0 hz1 .i64 .i64 CAP (by rw [hz2]; omega) (by unfold maxLen; omega) hb.size
  have hb4 : Below w1.heap.size w1 w4 := (Below.refl _ _).grown hgrow (Nat.le_refl _) (fun k hk => by cases hk)
  have HB4 : Hid (Below w'.heap.size w' w4) := bel_next hb (Nat.le_refl _) hb4
  have H4 : Hid (RR w4 (w'.heap.size + 1) w'.heap.size 0) := (hb4.block _ hrr.lt).trans hrr
  have HR4 : Hid (Rd w4 w'.heap.size s 0 0) := hrd.below hb4 hrd.lt
  have HO4 : Hid (Held w4 w'.heap.size (.slice (some ⟨w1.heap.size, 0, none⟩) 0 CAP) []) := ⟨hown, fun x hx => by simp at hx, List.Pairwise.nil⟩
  clear hown hgrow hb4 hb hrd hrr
  go_wp2_with fail
  clear hmk hCAP
  go_loopg [9, 29] C (fun g o i wr => ∃ (j k : Nat) (acc : List RI), j + g = C ∧ i = .int .i64 j ∧ Hid (run s first j = .ok (acc.map RI.r, k)) ∧ Hid (k ≤ s.size) ∧ Hid (Held wr w'.heap.size o acc) ∧ Hid (RR wr (w'.heap.size + 1) w'.heap.size 0) ∧ Hid (Rd wr w'.heap.size s k 0) ∧ Hid (Below w'.heap.size w' wr))
  case atStart => exact ⟨0, 0, [], by omega, rfl, rfl, Nat.zero_le _, HO4, H4, HR4, HB4⟩
  case round =>
    clear HO4 H4 HR4 HB4
    obtain ⟨j, k, acc, hk, rfl, HRN, HK, HO, HRR, HRD, HB⟩ := hrel
    by_cases hlt : j < C
    · obtain ⟨g, rfl⟩ : ∃ g, gk = g + 1 := ⟨gk - 1, by omega⟩
      have cn := CN.out (w'.heap.size + 1) w'.heap.size j k wr HRR.out HRD.out (by omega) HK.out (by have := HC.out; omega)
      have hn := run_next HRN.out
      have hlt' : (j : Int) < C := by omega
      cases hx : nxt s k first j with
      | error x =>
        rw [hx] at cn hn
        have HE := hid (rbd_err HC.out HZ.out (show j + 1 ≤ C by omega) hn)
        have CNN := hid cn
        clear cn hn hx
        go_wp2_with fail
        refine CNN.out.mono ?_
        rintro r w5 ⟨hc5, rfl, hx0⟩
        have HB5 := hid (HB.out.trans (hc5.below HB.out.size (fun i hi h => by omega)))
        have hne : ((x : Int) != 0) = true := by rw [bne_iff_ne]; omega
        have HX := hid hx0
        clear hx0 hc5
        unfold noRec
        go_wp2_with fail
        go_ret2
        show RbPost _ _ _ _
        rw [HE.out]
        exact ⟨HB5.out.alloc HB5.out.size _, rfl, HX.out⟩
      | ok y =>
        obtain ⟨R, k'⟩ := y
        rw [hx] at cn hn
        have HK' := hid (nxt_good HS.out HK.out (by have := HC.out; omega) hx)
        have HN := hid hn
        have CNN := hid cn
        clear cn hn hx
        go_wp2_with fail
        refine CNN.out.mono ?_
        rintro r w5 ⟨hc5, a5, cap5, rfl, ho5, hrr5, hrd5, hk5⟩
        have HB5 := hid (HB.out.trans (hc5.below HB.out.size (fun i hi h => by omega)))
        have HO5 : Hid (Held w5 w'.heap.size u9 acc) := HO.out.kept (fun g hg hh => hc5.block g hg (fun e => by subst e; exact HO.out.ne HRD.out (by decide) (by decide) hh))
        have HOX : Hid (OwnH w5 w'.heap.size (RI.hv ⟨R, a5, cap5⟩) R.hs) := own_base HB.out.size ho5
        have HAP : Hid (∀ y ∈ acc, ∀ g, y.hv.ownBlock = some g → (RI.hv ⟨R, a5, cap5⟩).ownBlock ≠ some g) := fun y hy g hg he => by
          have h1 := (World.ownsRow.lt (HO.out.hds y hy) g hg).2
          have h2 := (World.ownsRow.lt ho5 g he).1
          omega
        have HR5 := hid hrd5
        have H5 := hid hrr5
        have hsz5 := HB5.out.size
        clear hc5 ho5 hrr5 hrd5
        obtain ⟨t, kh, kd, vh, vd, hs⟩ := R
        simp only [recV]
        have HLEN : Hid (acc.length = j) := by
          have := (run_ran HS.out (show j ≤ 65536 by have := HC.out; omega) HRN.out).len
          rw [List.length_map] at this
          exact this
        by_cases hj0 : j = 0
        · have ej : ((j : Int) == 0) = true := by rw [beq_iff_eq]; omega
          by_cases ht : t = first
          · have et : (t != first) = false := by rw [ht]; simp
            have HNN : Hid (run s first (j + 1) = .ok (acc.map RI.r ++ [⟨t, kh, kd, vh, vd, hs⟩], k')) := by
              show _ = _
              rw [HN.out]; dsimp only; rw [if_neg (fun h => h.2 ht)]
            clear hj0 ht HN
            have hrow := HO5.out.row
            go_wp2_with (at_builtin; refine wpList_append_own _ rfl _ _ 30 rfl w'.heap.size 26 i0 (.agg #[.int .i64 0, .bool false, .string ⟨#[]⟩, .bool false, .string ⟨#[]⟩, .slice none 0 0]) 6 80 Try.underRecs hi hz0 hz1 hz2 rfl (by decide) _ _ _ rfl ((hrow.alloc _).alloc _) ⟨w5.heap.size + 1, 0, none⟩ 1 1 (rc1 ⟨⟨t, kh, kd, vh, vd, hs⟩, a5, cap5⟩) rfl rfl ?c1 ?c2 ?c3 ?c4 ?c5 ?_)
            case c1 => exact fun j u h => h
            case c2 => exact rc1_one _
            case c3 => have := HLEN.out; have := HC.out; unfold maxLen; omega
            case c4 => have := HLEN.out; have := HC.out; omega
            case c5 => omega
            intro v' w7 hown7 hgrow7 _
            have hba : Below w5.heap.size w5 ((w5.alloc (.cells #[.int .i64 t, .bool kh, .string kd, .bool vh, .string vd, .slice a5 hs.length cap5] 26)).alloc (.cells (rc1 ⟨⟨t, kh, kd, vh, vd, hs⟩, a5, cap5⟩).toArray 26)) := ((Below.refl _ _).alloc (Nat.le_refl _) _).alloc (by simp) _
            have hH6 := HO5.out.kept (fun g hg _ => hba.block g hg)
            have hX6 := own_apart HOX.out (fun g hg => hba.block g (World.ownsRow.lt HOX.out g hg).2)
            have HO7 := hid (hH6.snoc hX6 HAP.out hown7 hgrow7)
            have hrd6 := HR5.out.below hba HR5.out.lt
            have hrr6 : RR _ _ _ _ := (hba.block _ H5.out.lt).trans H5.out
            have HR7 : Hid (Rd w7 w'.heap.size s k' 0) := (hgrow7.block _ (lt_of_heap hrd6) (fun e => own_ne hH6.row hrd6 (by decide) e.symm)).trans hrd6
            have H7 : Hid (RR w7 (w'.heap.size + 1) w'.heap.size 0) := (hgrow7.block _ (lt_of_heap hrr6) (fun e => own_ne hH6.row hrr6 (by decide) e.symm)).trans hrr6
            have HB7 : Hid (Below w'.heap.size w' w7) := (bel_next HB5.out (Nat.le_refl _) hba).grown hgrow7 (Nat.le_trans hsz5 hba.size) (fun k hk => (World.ownsRow.lt hH6.row k hk).1)
            clear hown7 hgrow7 hba hH6 hX6 hrd6 hrr6 hrow
            go_wp2_with fail
            go_roundg g
            case measure => omega
            case rel => have hCC := HC.out; have ew : wrap64 ((j : Int) + 1) = ((j + 1 : Nat) : Int) := by { unfold wrap64; omega }; exact ⟨j + 1, k', acc ++ [⟨⟨t, kh, kd, vh, vd, hs⟩, a5, cap5⟩], by omega, congrArg (Value.int .i64) ew, by show run _ _ _ = _; rw [List.map_append]; exact HNN.out, HK', HO7, H7, HR7, HB7⟩
          · have et : (t != first) = true := by rw [bne_iff_ne]; exact ht
            have HNN : Hid (rbd s first C = .error 27) := by
              refine rbd_err HC.out HZ.out (show j + 1 ≤ C by omega) ?_
              rw [HN.out]; dsimp only; rw [if_pos ⟨hj0, ht⟩]
            clear hj0 ht HN
            go_wp2_with fail
            go_ret2
            show RbPost _ _ _ _
            rw [HNN.out]
            exact ⟨HB5.out.alloc HB5.out.size _, rfl, by decide⟩
        · have ej : ((j : Int) == 0) = false := by rw [beq_eq_false_iff_ne]; omega
          have HNN : Hid (run s first (j + 1) = .ok (acc.map RI.r ++ [⟨t, kh, kd, vh, vd, hs⟩], k')) := by
            show _ = _
            rw [HN.out]; dsimp only; rw [if_neg (fun h => hj0 h.1)]
          clear hj0 HN
          have hrow := HO5.out.row
          go_wp2_with (at_builtin; refine wpList_append_own _ rfl _ _ 30 rfl w'.heap.size 26 i0 (.agg #[.int .i64 0, .bool false, .string ⟨#[]⟩, .bool false, .string ⟨#[]⟩, .slice none 0 0]) 6 80 Try.underRecs hi hz0 hz1 hz2 rfl (by decide) _ _ _ rfl ((hrow.alloc _).alloc _) ⟨w5.heap.size + 1, 0, none⟩ 1 1 (rc1 ⟨⟨t, kh, kd, vh, vd, hs⟩, a5, cap5⟩) rfl rfl ?c1 ?c2 ?c3 ?c4 ?c5 ?_)
          case c1 => exact fun j u h => h
          case c2 => exact rc1_one _
          case c3 => have := HLEN.out; have := HC.out; unfold maxLen; omega
          case c4 => have := HLEN.out; have := HC.out; omega
          case c5 => omega
          intro v' w7 hown7 hgrow7 _
          have hba : Below w5.heap.size w5 ((w5.alloc (.cells #[.int .i64 t, .bool kh, .string kd, .bool vh, .string vd, .slice a5 hs.length cap5] 26)).alloc (.cells (rc1 ⟨⟨t, kh, kd, vh, vd, hs⟩, a5, cap5⟩).toArray 26)) := ((Below.refl _ _).alloc (Nat.le_refl _) _).alloc (by simp) _
          have hH6 := HO5.out.kept (fun g hg _ => hba.block g hg)
          have hX6 := own_apart HOX.out (fun g hg => hba.block g (World.ownsRow.lt HOX.out g hg).2)
          have HO7 := hid (hH6.snoc hX6 HAP.out hown7 hgrow7)
          have hrd6 := HR5.out.below hba HR5.out.lt
          have hrr6 : RR _ _ _ _ := (hba.block _ H5.out.lt).trans H5.out
          have HR7 : Hid (Rd w7 w'.heap.size s k' 0) := (hgrow7.block _ (lt_of_heap hrd6) (fun e => own_ne hH6.row hrd6 (by decide) e.symm)).trans hrd6
          have H7 : Hid (RR w7 (w'.heap.size + 1) w'.heap.size 0) := (hgrow7.block _ (lt_of_heap hrr6) (fun e => own_ne hH6.row hrr6 (by decide) e.symm)).trans hrr6
          have HB7 : Hid (Below w'.heap.size w' w7) := (bel_next HB5.out (Nat.le_refl _) hba).grown hgrow7 (Nat.le_trans hsz5 hba.size) (fun k hk => (World.ownsRow.lt hH6.row k hk).1)
          clear hown7 hgrow7 hba hH6 hX6 hrd6 hrr6 hrow
          go_wp2_with fail
          go_roundg g
          case measure => omega
          case rel => have hCC := HC.out; have ew : wrap64 ((j : Int) + 1) = ((j + 1 : Nat) : Int) := by { unfold wrap64; omega }; exact ⟨j + 1, k', acc ++ [⟨⟨t, kh, kd, vh, vd, hs⟩, a5, cap5⟩], by omega, congrArg (Value.int .i64) ew, by show run _ _ _ = _; rw [List.map_append]; exact HNN.out, HK', HO7, H7, HR7, HB7⟩
    · have hj : j = C := by omega
      subst hj
      have hR : ∀ x, dq s k 0 = x → (x ≠ 0 → rbd s first j = .error x) ∧ (x = 0 → rbd s first j = .ok (acc.map RI.r)) := by
        intro x hx
        unfold dq at hx
        unfold rbd
        have h1 := HC.out
        have h2 := HZ.out
        rw [if_neg (by omega), if_neg (by omega), Int.toNat_natCast, HRN.out]
        dsimp only
        by_cases h3 : k < s.size
        · rw [if_pos ⟨rfl, h3⟩] at hx
          rw [if_pos h3]
          exact ⟨fun _ => by rw [hx], fun h => absurd (hx.trans h) (by decide)⟩
        · rw [if_neg (fun h => h3 h.2)] at hx
          rw [if_neg h3]
          exact ⟨fun h => absurd hx.symm h, fun _ => rfl⟩
      have cd := CD.out w'.heap.size k wr HRD.out HK.out
      have c0 := HRR.out.c0
      generalize hdq' : dq s k 0 = D at *
      obtain ⟨hR1, hR2⟩ := hR D rfl
      have CDD := hid cd
      clear cd hR hdq'
      by_cases hD : D = 0
      · subst hD
        have HE := hid (hR2 rfl)
        clear hR1 hR2
        go_wp2_with fail
        refine CDD.out.mono ?_
        rintro r w5 ⟨rfl, n, rfl⟩
        go_wp2_with fail
        go_ret2
        show RbPost _ _ _ _
        rw [HE.out]
        exact ⟨drewN_bel HB.out n, _, acc, rfl, HO.out.kept (fun g _ _ => rfl), rfl⟩
      · have HE := hid (hR1 hD)
        have hne : ((D : Int) != 0) = true := by rw [bne_iff_ne]; omega
        have HD := hid hD
        clear hR1 hR2 hD
        go_wp2_with fail
        refine CDD.out.mono ?_
        rintro r w5 ⟨rfl, n, rfl⟩
        go_wp2_with fail
        go_ret2
        show RbPost _ _ _ _
        rw [HE.out]
        exact ⟨drewN_bel HB.out n, rfl, HD.out⟩
theorem rbody_any (s : ByteArray) (first count : Int) (w : World) (hf : I64 first) :
    Calls Try.prog 12 #[.string s, .int .i64 first, .int .i64 count] w (RbPost (rbd s first count) w) := by
  by_cases h : 1 ≤ count ∧ count ≤ 65536
  · obtain ⟨C, rfl⟩ : ∃ C : Nat, count = (C : Int) := ⟨count.toNat, by omega⟩
    by_cases hb : 16777216 < s.size
    · exact rbody_big s first C w h hb
    · exact rbody_yes s first C w hf (by omega) (by omega)
  · exact rbody_no s first count w h
end Go.Proofs.Ytoohmbkgdmmghaa
