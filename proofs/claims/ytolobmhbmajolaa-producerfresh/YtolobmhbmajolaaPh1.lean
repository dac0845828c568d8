/- The document's book: where it lies; its batches, the next sequence, whether a head is good. -/
import Derived.Test.YtolobmhbmajolaaPf5
import Derived.Test.YtolobmhbmajolaaPg6
namespace Go.Proofs.Ytolobmhbmajolaa
open Go.RowKit
set_option maxHeartbeats 2000000 in
theorem rgood_any (base len : Int) (pk : Bool) (cnt fst gr prod seq : Int) (w : World) :
    Calls Try.prog 26 #[hdV base len pk cnt fst gr prod seq] w fun e w' => e = .returned (.bool (goodB base cnt prod seq)) ∧ Below w.heap.size w w' := by
  have hb := Hid.mk ((Below.refl w.heap.size w).alloc (Nat.le_refl _) (.cells #[.int .i64 base, .int .i64 len, .bool pk, .int .i64 cnt, .int .i64 fst, .int .i64 gr, .int .i64 prod, .int .i32 seq] 29))
  have fin : ∀ (b : Bool), goodB base cnt prod seq = b → Hid (Ending.returned (.bool b) = .returned (.bool (goodB base cnt prod seq))) := fun b e => by show _ = _; rw [e]
  by_cases h1 : cnt < 1
  · have HE := fin false (by unfold goodB; rw [show decide (1 ≤ cnt) = false from by simp; omega]; simp)
    clear fin
    go_enter Try.func26, Try.ntmps26
    go_wp2
    go_ret
    exact ⟨HE.out, hb.out⟩
  by_cases h2 : 65536 < cnt
  · have HE := fin false (by unfold goodB; rw [show decide (cnt ≤ 65536) = false from by simp; omega]; simp)
    clear fin
    go_enter Try.func26, Try.ntmps26
    go_wp2
    go_ret
    exact ⟨HE.out, hb.out⟩
  by_cases h3 : base < 0
  · have HE := fin false (by unfold goodB; rw [show decide (0 ≤ base) = false from by simp; omega]; simp)
    clear fin
    go_enter Try.func26, Try.ntmps26
    go_wp2
    go_ret
    exact ⟨HE.out, hb.out⟩
  by_cases h4 : 4611686018427387904 < base
  · have HE := fin false (by unfold goodB; rw [show decide (base ≤ 4611686018427387904) = false from by simp; omega]; simp)
    clear fin
    go_enter Try.func26, Try.ntmps26
    go_wp2
    go_ret
    exact ⟨HE.out, hb.out⟩
  have e : goodB base cnt prod seq = sndB prod seq := by
    unfold goodB
    rw [show decide (1 ≤ cnt) = true from by simp; omega, show decide (cnt ≤ 65536) = true from by simp; omega, show decide (0 ≤ base) = true from by simp; omega, show decide (base ≤ 4611686018427387904) = true from by simp; omega]
    simp
  rw [e] at fin
  rw [e]
  clear e
  by_cases h5 : prod = -1
  · have HE := fin (decide (seq = -1)) (by unfold sndB; rw [if_pos h5])
    clear fin
    subst h5
    go_enter Try.func26, Try.ntmps26
    go_wp2
    go_ret
    exact ⟨HE.out, hb.out⟩
  have h5' : decide (prod = -1) = false := by simpa using h5
  by_cases h6 : 0 ≤ prod
  · have HE := fin (decide (0 ≤ seq)) (by unfold sndB; rw [if_neg h5]; simp [h6])
    clear fin
    go_enter Try.func26, Try.ntmps26
    go_wp2
    go_ret
    exact ⟨HE.out, hb.out⟩
  · have HE := fin false (by unfold sndB; rw [if_neg h5]; simp [h6])
    clear fin
    go_enter Try.func26, Try.ntmps26
    go_wp2
    go_ret
    exact ⟨HE.out, hb.out⟩
/-- The document's book with the list l. -/
def RB (b : Nat) (l : List Hd) : Res := fun y S => ∃ v, y.heap[b]? = some (.cells #[v] 65 (0, 0)) ∧ OwH y 0 v l ∧ S = fun i => i = b ∨ v.ownBlock = some i
theorem RB.stab (b : Nat) (l : List Hd) : Stab (RB b l) where
  keep := fun {y y' T S} h hc hS => by
    obtain ⟨v, h1, h2, rfl⟩ := h
    exact ⟨v, (hc.block b (lt_of_heap h1) (hS b (Or.inl rfl))).trans h1, h2.keep (fun g hg hlt => hc.block g hlt (hS g (Or.inr hg))), rfl⟩
  lt := fun {y S} h i hi => by
    obtain ⟨v, h1, h2, rfl⟩ := h
    rcases hi with rfl | hi
    · exact lt_of_heap h1
    · exact (World.ownsRow.lt h2 i hi).2
theorem rnew_any (w : World) : Calls Try.prog 10 #[] w fun e w' => e = .returned (.pointer (some ⟨w.heap.size, 0, none⟩)) ∧ w' = w.alloc (.cells #[.slice none 0 0] 65) := by
  go_enter Try.func10, Try.ntmps10
  go_wp2
  go_ret
  exact ⟨rfl, rfl⟩
theorem RB.new (w : World) : RB w.heap.size [] (w.alloc (.cells #[.slice none 0 0] 65)) (fun i => i = w.heap.size) :=
  ⟨_, heap_new _ _, OwH.nil _ _, funext fun i => propext ⟨fun h => Or.inl h, fun h => h.elim id (fun e => by cases e)⟩⟩
/-- A producer's heads. -/
def bt (l : List Hd) (p : Int) : List Hd := l.filter (fun h => decide (h.p = p))
theorem bt_snoc (l : List Hd) (x : Hd) (p : Int) : bt (l ++ [x]) p = if x.p = p then bt l p ++ [x] else bt l p := by
  unfold bt
  rw [List.filter_append]
  by_cases h : x.p = p <;> simp [h]
theorem bt_len (l : List Hd) (p : Int) : (bt l p).length ≤ l.length := List.length_filter_le _ _
set_option maxHeartbeats 4000000 in
set_option maxRecDepth 40000 in
theorem rbatches_any (b : Nat) (l : List Hd) (p : Int) (w : World) (S : Nat → Prop) (h : RB b l w S) (hl : l.length ≤ 2199023255552) :
    Calls Try.prog 25 #[.pointer (some ⟨b, 0, none⟩), .int .i64 p] w fun e w' => ∃ v, e = .returned v ∧ Oh w v (bt l p) w' := by
  obtain ⟨v, hb, hr, _⟩ := h
  obtain ⟨a, cap, rfl, hd, hc1, hc2⟩ := hr.hds
  have hbl := lt_of_heap hb
  have HB := Hid.mk hb
  have HD := Hid.mk hd
  obtain ⟨i0, hi, hz0, hz1, hz2⟩ := info_parts Try.infoH
  have hcap : cap ≤ 9223372036854775807 := by unfold maxLen at hc2; omega
  clear hb hr hd hc2
  go_enter Try.func25, Try.ntmps25
  go_wp2_with fail
  go_loopg [5, 6] l.length (fun k o i wr => ∃ j : Nat, j + k = l.length ∧ i = .int .i64 j ∧ Hid (Oh w o (bt (l.take j) p) wr))
  case atStart => exact ⟨0, by omega, rfl, Below.refl _ _, OwH.nil _ _⟩
  case round =>
    obtain ⟨j, hk, rfl, HO⟩ := hrel
    have c0 : wr.cell? ⟨b, 0, none⟩ = some (.slice a l.length cap) := (cell_of ((HO.out.bel.block b hbl).trans HB.out)).trans rfl
    by_cases hlt : j < l.length
    · obtain ⟨k, rfl⟩ : ∃ k, gk = k + 1 := ⟨gk - 1, by omega⟩
      rcases HD.out.below HO.out.bel with rfl | ⟨g, off, rfl, hbg, hc⟩
      · simp at hlt
      obtain ⟨q0, q1, q2, q3, q4, q5, q6, q7⟩ := hc j hlt
      have HN := Hid.mk (take_next l hd0 hlt)
      have HLe : Hid ((bt (l.take j) p).length ≤ j) := Nat.le_trans (bt_len _ _) (by rw [List.length_take]; omega)
      generalize l.getD j hd0 = x at *
      have HS := Hid.mk (bt_snoc (l.take j) x p)
      obtain ⟨L, hL⟩ : ∃ L, bt (l.take j) p = L := ⟨_, rfl⟩
      rw [hL] at HO HS HLe
      obtain ⟨r0, r1, r2, r3, r4, r5, r6, r7⟩ := x
      dsimp only at q0 q1 q2 q3 q4 q5 q6 q7 HS
      have b1 : (0 : Int) ≤ (j : Int) := by omega
      have b2 : (j : Int) < (l.length : Int) := by omega
      have HK := Hid.mk hk
      clear hc hL hbg hk
      by_cases hp : r6 = p
      · rw [if_pos hp] at HS
        subst hp
        go_wp2_with (at_builtin; refine wpList_append_own _ rfl _ _ 35 rfl w.heap.size 29 i0 hz8 8 64 Try.underlying35 hi hz0 hz1 hz2 rfl (by decide) _ L.length (hvs L) rfl ?c0 ⟨wr.heap.size, 0, none⟩ 1 1 (hv ⟨r0, r1, r2, r3, r4, r5, r6, r7⟩) rfl rfl ?c1 ?c2 ?c3 ?c4 ?c5 ?_)
        case c0 => exact (HO.out.alloc (.cells (hv ⟨r0, r1, r2, r3, r4, r5, r6, r7⟩).toArray 29)).row
        case c1 => exact World.news_of_block (heap_new _ _)
        case c2 => exact hv_one _
        case c3 => have := HLe.out; unfold maxLen; omega
        case c4 => have := HLe.out; omega
        case c5 => have := HO.out.bel.size; simp; omega
        intro v' w7 hown7 hgrow7 _
        have HP := Hid.mk ((HO.out.alloc (.cells (hv ⟨r0, r1, r2, r3, r4, r5, r6, r7⟩).toArray 29)).push hown7 hgrow7)
        clear hown7 hgrow7
        go_wp2_with fail
        go_roundg k
        case measure => omega
        case rel => exact ⟨j + 1, by have := HK.out; omega, by go_num, by show Oh _ _ _ _; rw [HN.out, HS.out]; exact HP.out⟩
      · rw [if_neg hp] at HS
        have hp' : decide (r6 = p) = false := by simpa using hp
        go_wp2_with fail
        go_roundg k
        case measure => omega
        case rel => exact ⟨j + 1, by have := HK.out; omega, by go_num, by show Oh _ _ _ _; rw [HN.out, HS.out]; exact HO.out⟩
    · have hlt' : ¬ (j : Int) < (l.length : Int) := by omega
      have HE : Hid (l.take j = l) := List.take_of_length_le (by omega)
      clear hk
      go_wp2_with fail
      go_ret
      refine ⟨_, rfl, ?_⟩
      have := HO.out
      rw [HE.out] at this
      exact this
end Go.Proofs.Ytolobmhbmajolaa
