/- A part of both readers, and any call of both: the same answers; both stand the same behind it. -/
import Derived.Test.YtpaipoaelfhhlaaGreatRead
namespace Go.Proofs.YtpaipoaelfhhlaaGreat
open Go.RowKit
theorem rq_size {n : Int} {s : ByteArray} {k e : Nat} : (rq n s k e).1.size ≤ s.size := by
  unfold rq; split
  · exact Nat.zero_le _
  · split
    · exact Nat.zero_le _
    · split
      · rw [ByteArray.size_extract]; omega
      · exact Nat.zero_le _
set_option maxHeartbeats 4000000 in
set_option maxRecDepth 20000 in
theorem read13_any (b q : Nat) (s : ByteArray) (k e Kd N : Nat) (S : ByteArray) (w : World) (hr : Rd w b s k e) (hx : RX w q s k e) (hbq : b ≠ q) (hk : k ≤ s.size) (hs : s.size ≤ 9223372036854775807) (hKd : Kd < 256) (hm : (Kd : Int) % 14 = 13) :
    Calls Tryz.prog 10 #[.pointer (some ⟨b, 0, none⟩), .pointer (some ⟨q, 0, none⟩), .agg #[.int .u8 Kd, .int .u64 N, .string S]] w (Both b q s w) := by
  obtain ⟨hn1, hn2⟩ := w64 N
  have l1 := hr.lt
  have l2 := hx.lt
  have hle := rq_le (n := wrap64 (N : Int)) (s := s) (k := k) (e := e) hk
  by_cases hE : (rq (wrap64 (N : Int)) s k e).2.2 = 0
  · have he : e = 0 := by
      by_cases he : e = 0
      · exact he
      · rw [rq_stale he] at hE; exact hE
    subst he
    have ha := fun w' h' => rpart_ok b s k (wrap64 (N : Int)) w' h' hs hn1 hn2 hE
    have hb := fun w' h' => xpart_ok q s k (wrap64 (N : Int)) w' h' hk hs hn1 hn2 hE
    have hts := rq_size (n := wrap64 (N : Int)) (s := s) (k := k) (e := 0)
    generalize (rq (wrap64 (N : Int)) s k 0).1 = t at *
    generalize (rq (wrap64 (N : Int)) s k 0).2.1 = K at *
    clear hE
    go_enter Tryz.func10, Tryz.ntmps10
    go_wp2_with fail
    refine (ha _ (hr.alloc _)).mono ?_
    rintro r w1 ⟨pb, hpb, rfl, hp1, h1, h2⟩
    have hx1 := (hx.alloc _).ch h2 (fun h => hbq h.symm)
    have l3 := hp1.lt
    go_wp2_with fail
    refine (hb _ hx1).mono ?_
    rintro r w2 ⟨qb, hqb, rfl, hq1, h3, h4⟩
    have hr2 := h1.ch h4 hbq
    have hpb2 : w.heap.size < pb := by simp at hpb; omega
    have hp2 := hp1.ch h4 (by omega)
    have hpq : pb ≠ qb := by omega
    have hc : Ch (fun i => i = b ∨ i = q) w w2 := (((Ch.refl _ _).alloc _).trans (h2.mono (fun _ _ h => Or.inl h))).trans (h4.mono (fun _ _ h => Or.inr h))
    have hw2 := hc.size
    have l5 := hq1.lt
    have l6 := hp2.lt
    clear h2 h4 hp1 hx1 h1 hpb ha hb
    go_wp2
    go_loopw [143] (fun i wr => ∃ j k' e' : Nat, j ≤ 4 ∧ i = .int .i64 j ∧ k' ≤ t.size ∧ Rd wr pb t k' e' ∧ RX wr qb t k' e' ∧ Rd wr b s K 0 ∧ RX wr q s K 0 ∧ wr.heap[w2.heap.size]? = some (.cells #[.int .u8 7, .int .u8 2, .int .u8 0, .int .u8 3] 5 (0, 0)) ∧ Ch (fun i => i = b ∨ i = q) w wr) (fun i _ => 4 - (intOf i).toNat)
    case atStart => exact ⟨0, 0, 0, by omega, rfl, by omega, hp2.alloc _, hq1.alloc _, hr2.alloc _, h3.alloc _, heap_new _ _, hc.alloc _⟩
    case round =>
      obtain ⟨j, k', e', hj, rfl, hk', hP, hQ, hB, hX, hL, hC⟩ := hrel
      have hts2 : t.size ≤ 9223372036854775807 := by omega
      rcases (show j = 0 ∨ j = 1 ∨ j = 2 ∨ j = 3 ∨ j = 4 by omega) with rfl | rfl | rfl | rfl | rfl
      · have cc : wr.cell? ⟨w2.heap.size, 0, none⟩ = some (.int .u8 7) := (cell_of hL).trans rfl
        go_wp2_with fail
        refine (num7_any pb qb t k' e' _ hP hQ hpq hk' hts2).mono ?_
        rintro r w3 ⟨rfl, k3, e3, hk3, hP3, hQ3, hC3⟩
        have hB3 := hB.ch hC3 (by omega)
        have hX3 := hX.ch hC3 (by omega)
        have hL3 := (hC3.block _ (lt_of_heap hL) (by omega)).trans hL
        have hCC : Ch (fun i => i = b ∨ i = q) w w3 := hC.then hC3 (fun i hi h => by omega)
        clear hP hQ hB hX hL hC hC3
        go_wp2_with (first
          | (go_at_call 11; refine (rat_any pb t k3 e3 _ hP3).mono ?_; rintro r w3 ⟨rfl, rfl⟩)
          | (go_at_call 12; refine (xat_any qb t k3 e3 _ hQ3).mono ?_; rintro r w3 ⟨rfl, rfl⟩)
          | (go_at_call 13; refine (rleft_any pb t k3 e3 _ hP3 hk3 hts2).mono ?_; rintro r w4 ⟨rfl, m1, rfl⟩)
          | (go_at_call 14; refine (xleft_any qb t k3 e3 _ (hQ3.drewN _) hk3 hts2).mono ?_; rintro r w4 ⟨rfl, m2, rfl⟩)
          | (go_at_call 15; refine (rerr_any pb t k3 e3 _ (hP3.drewN _)).mono ?_; rintro r w5 ⟨rfl, rfl⟩)
          | (go_at_call 16; refine (xerr_any qb t k3 e3 _ (hQ3.drewN _)).mono ?_; rintro r w5 ⟨rfl, rfl⟩))
        go_roundw
        case rel => exact ⟨1, k3, e3, by omega, rfl, hk3, hP3.drewN _, hQ3.drewN _, hB3.drewN _, hX3.drewN _, hL3, hCC.drewN _⟩
        case measure => simp [intOf]
      · have cc : wr.cell? ⟨w2.heap.size, 1, none⟩ = some (.int .u8 2) := (cell_of hL).trans rfl
        go_wp2_with fail
        refine (num2_any pb qb t k' e' _ hP hQ hpq hk' hts2).mono ?_
        rintro r w3 ⟨rfl, k3, e3, hk3, hP3, hQ3, hC3⟩
        have hB3 := hB.ch hC3 (by omega)
        have hX3 := hX.ch hC3 (by omega)
        have hL3 := (hC3.block _ (lt_of_heap hL) (by omega)).trans hL
        have hCC : Ch (fun i => i = b ∨ i = q) w w3 := hC.then hC3 (fun i hi h => by omega)
        clear hP hQ hB hX hL hC hC3
        go_wp2_with (first
          | (go_at_call 11; refine (rat_any pb t k3 e3 _ hP3).mono ?_; rintro r w3 ⟨rfl, rfl⟩)
          | (go_at_call 12; refine (xat_any qb t k3 e3 _ hQ3).mono ?_; rintro r w3 ⟨rfl, rfl⟩)
          | (go_at_call 13; refine (rleft_any pb t k3 e3 _ hP3 hk3 hts2).mono ?_; rintro r w4 ⟨rfl, m1, rfl⟩)
          | (go_at_call 14; refine (xleft_any qb t k3 e3 _ (hQ3.drewN _) hk3 hts2).mono ?_; rintro r w4 ⟨rfl, m2, rfl⟩)
          | (go_at_call 15; refine (rerr_any pb t k3 e3 _ (hP3.drewN _)).mono ?_; rintro r w5 ⟨rfl, rfl⟩)
          | (go_at_call 16; refine (xerr_any qb t k3 e3 _ (hQ3.drewN _)).mono ?_; rintro r w5 ⟨rfl, rfl⟩))
        go_roundw
        case rel => exact ⟨2, k3, e3, by omega, rfl, hk3, hP3.drewN _, hQ3.drewN _, hB3.drewN _, hX3.drewN _, hL3, hCC.drewN _⟩
        case measure => simp [intOf]
      · have cc : wr.cell? ⟨w2.heap.size, 2, none⟩ = some (.int .u8 0) := (cell_of hL).trans rfl
        go_wp2_with fail
        refine (num0_any pb qb t k' e' _ hP hQ hpq hk' hts2).mono ?_
        rintro r w3 ⟨rfl, k3, e3, hk3, hP3, hQ3, hC3⟩
        have hB3 := hB.ch hC3 (by omega)
        have hX3 := hX.ch hC3 (by omega)
        have hL3 := (hC3.block _ (lt_of_heap hL) (by omega)).trans hL
        have hCC : Ch (fun i => i = b ∨ i = q) w w3 := hC.then hC3 (fun i hi h => by omega)
        clear hP hQ hB hX hL hC hC3
        go_wp2_with (first
          | (go_at_call 11; refine (rat_any pb t k3 e3 _ hP3).mono ?_; rintro r w3 ⟨rfl, rfl⟩)
          | (go_at_call 12; refine (xat_any qb t k3 e3 _ hQ3).mono ?_; rintro r w3 ⟨rfl, rfl⟩)
          | (go_at_call 13; refine (rleft_any pb t k3 e3 _ hP3 hk3 hts2).mono ?_; rintro r w4 ⟨rfl, m1, rfl⟩)
          | (go_at_call 14; refine (xleft_any qb t k3 e3 _ (hQ3.drewN _) hk3 hts2).mono ?_; rintro r w4 ⟨rfl, m2, rfl⟩)
          | (go_at_call 15; refine (rerr_any pb t k3 e3 _ (hP3.drewN _)).mono ?_; rintro r w5 ⟨rfl, rfl⟩)
          | (go_at_call 16; refine (xerr_any qb t k3 e3 _ (hQ3.drewN _)).mono ?_; rintro r w5 ⟨rfl, rfl⟩))
        go_roundw
        case rel => exact ⟨3, k3, e3, by omega, rfl, hk3, hP3.drewN _, hQ3.drewN _, hB3.drewN _, hX3.drewN _, hL3, hCC.drewN _⟩
        case measure => simp [intOf]
      · have cc : wr.cell? ⟨w2.heap.size, 3, none⟩ = some (.int .u8 3) := (cell_of hL).trans rfl
        go_wp2_with fail
        refine (num3_any pb qb t k' e' _ hP hQ hpq hk' hts2).mono ?_
        rintro r w3 ⟨rfl, k3, e3, hk3, hP3, hQ3, hC3⟩
        have hB3 := hB.ch hC3 (by omega)
        have hX3 := hX.ch hC3 (by omega)
        have hL3 := (hC3.block _ (lt_of_heap hL) (by omega)).trans hL
        have hCC : Ch (fun i => i = b ∨ i = q) w w3 := hC.then hC3 (fun i hi h => by omega)
        clear hP hQ hB hX hL hC hC3
        go_wp2_with (first
          | (go_at_call 11; refine (rat_any pb t k3 e3 _ hP3).mono ?_; rintro r w3 ⟨rfl, rfl⟩)
          | (go_at_call 12; refine (xat_any qb t k3 e3 _ hQ3).mono ?_; rintro r w3 ⟨rfl, rfl⟩)
          | (go_at_call 13; refine (rleft_any pb t k3 e3 _ hP3 hk3 hts2).mono ?_; rintro r w4 ⟨rfl, m1, rfl⟩)
          | (go_at_call 14; refine (xleft_any qb t k3 e3 _ (hQ3.drewN _) hk3 hts2).mono ?_; rintro r w4 ⟨rfl, m2, rfl⟩)
          | (go_at_call 15; refine (rerr_any pb t k3 e3 _ (hP3.drewN _)).mono ?_; rintro r w5 ⟨rfl, rfl⟩)
          | (go_at_call 16; refine (xerr_any qb t k3 e3 _ (hQ3.drewN _)).mono ?_; rintro r w5 ⟨rfl, rfl⟩))
        go_roundw
        case rel => exact ⟨4, k3, e3, by omega, rfl, hk3, hP3.drewN _, hQ3.drewN _, hB3.drewN _, hX3.drewN _, hL3, hCC.drewN _⟩
        case measure => simp [intOf]
      · go_wp2
        go_ret
        exact ⟨rfl, K, 0, hle, hB, hX, hC⟩
  · have ha := fun w' h' => rpart_no b s k e (wrap64 (N : Int)) w' h' hk hs hn1 hn2 hE
    have hb := fun w' h' => xpart_no q s k e (wrap64 (N : Int)) w' h' hk hs hn1 hn2 hE
    generalize (rq (wrap64 (N : Int)) s k e).2.1 = K at *
    generalize (rq (wrap64 (N : Int)) s k e).2.2 = E at *
    clear hE
    go_enter Tryz.func10, Tryz.ntmps10
    go_wp2_with fail
    refine (ha _ (hr.alloc _)).mono ?_
    rintro r w1 ⟨rfl, h1, h2⟩
    have hx1 := (hx.alloc _).ch h2 (fun h => hbq h.symm)
    go_wp2_with fail
    refine (hb _ hx1).mono ?_
    rintro r w2 ⟨rfl, h3, h4⟩
    have hr2 := h1.ch h4 hbq
    go_wp2
    go_ret
    exact ⟨rfl, K, E, hle, hr2, h3, (((Ch.refl _ _).alloc _).trans (h2.mono (fun _ _ h => Or.inl h))).trans (h4.mono (fun _ _ h => Or.inr h))⟩
theorem readop_any (b q : Nat) (s : ByteArray) (k e Kd N : Nat) (S : ByteArray) (w : World) (hr : Rd w b s k e) (hx : RX w q s k e) (hbq : b ≠ q) (hk : k ≤ s.size) (hs : s.size ≤ 9223372036854775807) (hKd : Kd < 256) :
    Calls Tryz.prog 10 #[.pointer (some ⟨b, 0, none⟩), .pointer (some ⟨q, 0, none⟩), .agg #[.int .u8 Kd, .int .u64 N, .string S]] w (Both b q s w) := by
  rcases (show (Kd : Int) % 14 = 0 ∨ (Kd : Int) % 14 = 1 ∨ (Kd : Int) % 14 = 2 ∨ (Kd : Int) % 14 = 3 ∨ (Kd : Int) % 14 = 4 ∨ (Kd : Int) % 14 = 5 ∨ (Kd : Int) % 14 = 6 ∨ (Kd : Int) % 14 = 7 ∨ (Kd : Int) % 14 = 8 ∨ (Kd : Int) % 14 = 9 ∨ (Kd : Int) % 14 = 10 ∨ (Kd : Int) % 14 = 11 ∨ (Kd : Int) % 14 = 12 ∨ (Kd : Int) % 14 = 13 by omega) with h | h | h | h | h | h | h | h | h | h | h | h | h | h
  · exact read0_any b q s k e Kd N S w hr hx hbq hk hs hKd h
  · exact read1_any b q s k e Kd N S w hr hx hbq hk hs hKd h
  · exact read2_any b q s k e Kd N S w hr hx hbq hk hs hKd h
  · exact read3_any b q s k e Kd N S w hr hx hbq hk hs hKd h
  · exact read4_any b q s k e Kd N S w hr hx hbq hk hs hKd h
  · exact read5_any b q s k e Kd N S w hr hx hbq hk hs hKd h
  · exact read6_any b q s k e Kd N S w hr hx hbq hk hs hKd h
  · exact read7_any b q s k e Kd N S w hr hx hbq hk hs hKd h
  · exact read8_any b q s k e Kd N S w hr hx hbq hk hs hKd h
  · exact read9_any b q s k e Kd N S w hr hx hbq hk hs hKd h
  · exact read10_any b q s k e Kd N S w hr hx hbq hk hs hKd h
  · exact read11_any b q s k e Kd N S w hr hx hbq hk hs hKd h
  · exact read12_any b q s k e Kd N S w hr hx hbq hk hs hKd h
  · exact read13_any b q s k e Kd N S w hr hx hbq hk hs hKd h
end Go.Proofs.YtpaipoaelfhhlaaGreat
