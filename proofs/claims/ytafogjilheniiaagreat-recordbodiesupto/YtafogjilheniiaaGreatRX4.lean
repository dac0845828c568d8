/- What the calls of the document's own reader answer: texts with a length ahead, null, a part. -/
import Derived.Test.YtafogjilheniiaaGreatRX3
namespace Go.Proofs.YtafogjilheniiaaGreat
open Go.RowKit
set_option maxHeartbeats 1000000 in
set_option maxRecDepth 20000 in
theorem xtext_any (b : Nat) (s : ByteArray) (k e : Nat) (n : Int) (w : World) (h : RX w b s k e) (hk : k ≤ s.size) (hs : s.size ≤ 9223372036854775807) (hm1 : -9223372036854775808 ≤ n) (hm2 : n ≤ 9223372036854775807) :
    Calls Tryz.prog 57 #[.pointer (some ⟨b, 0, none⟩), .int .i64 n] w (AnsX b s (.string (tq n s k e).1) (tq n s k e).2.1 (tq n s k e).2.2 w) := by
  have c1 := h.cK
  have hu := xuvarint_any b s k e w h hk hs
  by_cases he : e = 0
  · subst he
    by_cases hl : rde (tl s k) = 0
    · rw [uq_ok hl] at hu
      have hb := rd_bds (tl s k)
      have hz := tl_size s k
      by_cases hx : ((rdv (tl s k) : Int) ≤ n ∨ rdv (tl s k) = 0) ∧ k + rdn (tl s k) + rdv (tl s k) ≤ s.size
      · rw [tq_ok hl hx]
        dsimp only at hu ⊢
        generalize rdv (tl s k) = v at *
        obtain ⟨hb1, hb2, hb3⟩ := hb
        have hKs : k + rdn (tl s k) ≤ s.size := by omega
        generalize k + rdn (tl s k) = K at *
        clear hl hb2 hb3 hz
        obtain ⟨hx1, hx2⟩ := hx
        by_cases hneg : n < 0
        · have hv0 : v = 0 := by omega
          subst hv0
          have hraw := fun w' h' => xraw_any b s K 0 ((0 : Nat) : Int) w' h' hKs hs (by omega) (by omega)
          rw [rq_ok hx2] at hraw
          dsimp only at hraw
          generalize s.extract K (K + 0) = d at *
          go_enter Tryz.func57, Tryz.ntmps57
          go_wp2_with (first
            | (go_at_call 23; refine hu.mono ?_; rintro e w1 ⟨rfl, h1, h2⟩)
            | (go_at_call 24; refine (xleft_any b s K 0 _ h1 hKs hs).mono ?_; rintro e w2 ⟨rfl, n1, rfl⟩)
            | (fail))
          refine (hraw _ (h1.drewN _)).mono ?_
          rintro e w3 ⟨rfl, h3, h4⟩
          go_wp2
          go_ret2
          exact ⟨rfl, h3, (h2.drewN _).trans h4⟩
        · have hraw := fun w' h' => xraw_any b s K 0 (v : Int) w' h' hKs hs (by omega) (by omega)
          rw [rq_ok hx2] at hraw
          dsimp only at hraw
          go_enter Tryz.func57, Tryz.ntmps57
          go_wp2_with (first
            | (go_at_call 23; refine hu.mono ?_; rintro e w1 ⟨rfl, h1, h2⟩)
            | (go_at_call 24; refine (xleft_any b s K 0 _ h1 hKs hs).mono ?_; rintro e w2 ⟨rfl, n1, rfl⟩)
            | (fail))
          refine (hraw _ (h1.drewN _)).mono ?_
          rintro e w3 ⟨rfl, h3, h4⟩
          go_wp2
          go_ret2
          exact ⟨rfl, h3, (h2.drewN _).trans h4⟩
      · rw [tq_long hl hx]
        dsimp only at hu ⊢
        generalize rdv (tl s k) = v at *
        obtain ⟨hb1, hb2, hb3⟩ := hb
        have hKs : k + rdn (tl s k) ≤ s.size := by omega
        generalize k + rdn (tl s k) = K at *
        clear hl hb2 hb3 hz
        by_cases hf : (v : Int) ≤ n ∨ v = 0
        · have hx2 : s.size < K + v := by omega
          clear hx
          by_cases hneg : n < 0
          · exfalso; omega
          · go_enter Tryz.func57, Tryz.ntmps57
            go_wp2_with (first
              | (go_at_call 23; refine hu.mono ?_; rintro e w1 ⟨rfl, h1, h2⟩)
              | (fail))
            have y1 := h1.cK
            have y2 := h1.fz 1
            refine (xleft_any b s K 0 _ h1 hKs hs).mono ?_
            rintro e w2 ⟨rfl, n1, rfl⟩
            go_wp2_with (go_at_call 52; refine (xfail_new b s k 21 _ ((h1.drewN _).setK k)).mono ?_; rintro e w3 ⟨rfl, rfl⟩)
            go_ret2
            exact ⟨rfl, ((h1.drewN _).setK k).setE 21, ((h2.drewN _).setCell _ _ (fun _ => rfl)).setCell _ _ (fun _ => rfl)⟩
        · have hf1 : n < (v : Int) := by omega
          have hf2 : 0 < v := by omega
          clear hx hf
          by_cases hneg : n < 0
          all_goals
            go_enter Tryz.func57, Tryz.ntmps57
            go_wp2_with fail
            refine hu.mono ?_
            rintro e w1 ⟨rfl, h1, h2⟩
            have y1 := h1.cK
            have y2 := h1.fz 1
            go_wp2_with (go_at_call 52; refine (xfail_new b s k 21 _ (h1.setK k)).mono ?_; rintro e w3 ⟨rfl, rfl⟩)
            go_ret2
            exact ⟨rfl, (h1.setK k).setE 21, (h2.setCell _ _ (fun _ => rfl)).setCell _ _ (fun _ => rfl)⟩
    · rw [uq_bad hl] at hu
      rw [tq_bad hl]
      dsimp only at hu ⊢
      generalize rde (tl s k) = E at *
      have hne : ((E : Int) != 0) = true := by rw [bne_iff_ne]; omega
      clear hl
      go_enter Tryz.func57, Tryz.ntmps57
      go_wp2_with (go_at_call 23; refine hu.mono ?_; rintro e w1 ⟨rfl, h1, h2⟩)
      go_ret2
      exact ⟨rfl, h1, h2⟩
  · rw [uq_stale he] at hu
    rw [tq_stale he]
    dsimp only at hu ⊢
    have hne : ((e : Int) != 0) = true := by rw [bne_iff_ne]; omega
    clear he
    go_enter Tryz.func57, Tryz.ntmps57
    go_wp2_with (go_at_call 23; refine hu.mono ?_; rintro e w1 ⟨rfl, h1, h2⟩)
    go_ret2
    exact ⟨rfl, h1, h2⟩
set_option maxHeartbeats 1000000 in
set_option maxRecDepth 20000 in
theorem xpart_ok (b : Nat) (s : ByteArray) (k : Nat) (n : Int) (w : World) (h : RX w b s k 0) (hk : k ≤ s.size) (hs : s.size ≤ 9223372036854775807) (hm1 : -9223372036854775808 ≤ n) (hm2 : n ≤ 9223372036854775807) (he : (rq n s k 0).2.2 = 0) :
    Calls Tryz.prog 25 #[.pointer (some ⟨b, 0, none⟩), .int .i64 n] w (fun e w' => ∃ q, w.heap.size ≤ q ∧ e = .returned (.tuple #[.pointer (some ⟨q, 0, none⟩), .int .i64 0]) ∧ RX w' q (rq n s k 0).1 0 0 ∧ RX w' b s (rq n s k 0).2.1 0 ∧ Ch (fun i => i = b) w w') := by
  have hr := xraw_any b s k 0 n w h hk hs hm1 hm2
  rw [he] at hr
  generalize (rq n s k 0).1 = t at *
  generalize (rq n s k 0).2.1 = K at *
  clear he
  go_enter Tryz.func25, Tryz.ntmps25
  go_wp2_with (first
    | (go_at_call 53; refine hr.mono ?_; rintro e w1 ⟨rfl, h1, h2⟩)
    | (go_at_call 22; refine (xnew_any _ _).mono ?_; rintro e w2 ⟨rfl, rfl⟩))
  go_ret2
  exact ⟨w1.heap.size, h2.size, rfl, heap_new _ _, h1.alloc _, h2.alloc _⟩
set_option maxHeartbeats 1000000 in
set_option maxRecDepth 20000 in
theorem xpart_no (b : Nat) (s : ByteArray) (k e : Nat) (n : Int) (w : World) (h : RX w b s k e) (hk : k ≤ s.size) (hs : s.size ≤ 9223372036854775807) (hm1 : -9223372036854775808 ≤ n) (hm2 : n ≤ 9223372036854775807) (he : (rq n s k e).2.2 ≠ 0) :
    Calls Tryz.prog 25 #[.pointer (some ⟨b, 0, none⟩), .int .i64 n] w (AnsX b s (.pointer none) (rq n s k e).2.1 (rq n s k e).2.2 w) := by
  have hr := xraw_any b s k e n w h hk hs hm1 hm2
  generalize (rq n s k e).1 = t at *
  generalize (rq n s k e).2.1 = K at *
  generalize (rq n s k e).2.2 = E at *
  have hne : ((E : Int) != 0) = true := by rw [bne_iff_ne]; omega
  clear he
  go_enter Tryz.func25, Tryz.ntmps25
  go_wp2_with (first
    | (go_at_call 53; refine hr.mono ?_; rintro e w1 ⟨rfl, h1, h2⟩))
  go_ret2
  exact ⟨rfl, h1, h2⟩
end Go.Proofs.YtafogjilheniiaaGreat
