/- The document's book: Clone. -/
import Derived.Test.YtolobmhbmajolaaPh6
namespace Go.Proofs.Ytolobmhbmajolaa
open Go.RowKit
/-- What a clone is. -/
def RCl (w : World) (l : List Hd) (w' : World) : Prop := (∃ S, RB w.heap.size l w' S ∧ ∀ i, S i → w.heap.size ≤ i) ∧ Below w.heap.size w w'
theorem rclone_end {w w1 : World} {l : List Hd} {v : Value} {n : Nat} (hc : w1.heap[w.heap.size]? = some (.cells #[.slice none 0 0] 65 (0, 0))) (ho : w1.ownsRow w.heap.size 29 8 v n (hvs l)) (hn : l.length = n) (hb : Below w.heap.size w w1) (k : Nat) :
    RCl w l ((w1.drewN k).setCell ⟨w.heap.size, 0, none⟩ v) := by
  subst hn
  have hne : ∀ i, v.ownBlock = some i → i ≠ w.heap.size := by
    rintro i hi rfl
    rcases ho.2 with ⟨rfl, _⟩ | ⟨g', cap, cur, rfl, _, hh, _⟩
    · cases hi
    · injection hi with hi
      subst hi
      rw [hc] at hh
      injection hh with hh
      injection hh with _ hh _
      exact absurd hh (by decide)
  refine ⟨⟨_, ⟨v, heap_set (i := 0) (v := v) hc, ?_, rfl⟩, ?_⟩, ?_⟩
  · exact OwH.base (OwH.keep (w := w1) ho (fun i hi _ => Below.heap_setCell _ _ _ _ (hne i hi))) (Nat.zero_le _)
  · rintro i (rfl | hi)
    · exact Nat.le_refl _
    · exact (World.ownsRow.lt ho i hi).1
  · have h1 : Below w.heap.size w (w1.drewN k) := hb.trans ((bel_drewN w1 k).mono hb.size)
    exact h1.setCell (Nat.le_refl _) _
set_option maxHeartbeats 2000000 in
set_option maxRecDepth 20000 in
theorem rclone_any (b : Nat) (l : List Hd) (w : World) (S : Nat → Prop) (h : RB b l w S) (hl : l.length ≤ 2199023255552) :
    Calls Try.prog 12 #[.pointer (some ⟨b, 0, none⟩)] w fun e w' => e = .returned (.pointer (some ⟨w.heap.size, 0, none⟩)) ∧ RCl w l w' := by
  obtain ⟨i0, hi, hz0, hz1, hz2⟩ := info_parts Try.infoH
  obtain ⟨wA, hwA⟩ : ∃ wA, wA = w.alloc (.cells #[.slice none 0 0] 65) := ⟨_, rfl⟩
  have hbA : Below w.heap.size w wA := by rw [hwA]; exact (Below.refl _ w).alloc (Nat.le_refl _) _
  have hcA := heap_new w (.cells #[.slice none 0 0] 65)
  rw [← hwA] at hcA
  have hsA : wA.heap.size = w.heap.size + 1 := by rw [hwA]; simp
  have HW := Hid.mk (rnew_any w)
  rw [← hwA] at HW
  clear hwA
  have hR : RB b l wA S := (RB.stab b l).keep h (Ch.of_below hbA : Ch (fun _ => False) w wA) (fun _ _ e => e)
  obtain ⟨v, hbk, hrow, _⟩ := hR
  have x1 : wA.cell? ⟨w.heap.size, 0, none⟩ = some (.slice none 0 0) := (cell_of hcA).trans rfl
  have c1A : wA.cell? ⟨b, 0, none⟩ = some v := (cell_of hbk).trans rfl
  have fzA : wA.frozen? ⟨w.heap.size, 0, none⟩ = false := froz_of hcA
  have HBA := Hid.mk hbA
  have HCA := Hid.mk hcA
  have HDA := Hid.mk hbk
  have HR := Hid.mk hrow
  have hrow2 := hrow.2
  clear hbA hcA hbk hrow h
  have nilCase : ∀ k, l = [] → RCl w l ((wA.drewN k).setCell ⟨w.heap.size, 0, none⟩ (.slice none 0 0)) := fun k e => by
    subst e
    exact rclone_end (l := []) HCA.out (World.ownsRow_nil _ _ _ _) rfl HBA.out k
  rcases hrow2 with ⟨rfl, h0⟩ | ⟨g, cap, cur, rfl, _, hh, hcp, hcm, _⟩
  · have HE := Hid.mk (fun k => nilCase k (List.eq_nil_of_length_eq_zero h0))
    clear nilCase h0
    go_enter Try.func12, Try.ntmps12
    go_wp2_with (go_at_call 10; with_reducible refine HW.out.mono ?_; rintro e w1 ⟨rfl, rfl⟩)
    go_region
    go_wp2_with fail
    go_ret
    first | exact ⟨rfl, HE.out 2⟩ | exact ⟨rfl, HE.out 1⟩ | exact ⟨rfl, HE.out 0⟩ | exact ⟨rfl, HE.out 3⟩
  · by_cases h0 : l.length = 0
    · have HE := Hid.mk (fun k => nilCase k (List.eq_nil_of_length_eq_zero h0))
      rw [h0] at c1A
      clear nilCase hh hcp hcm h0
      go_enter Try.func12, Try.ntmps12
      go_wp2_with (go_at_call 10; with_reducible refine HW.out.mono ?_; rintro e w1 ⟨rfl, rfl⟩)
      go_region
      go_wp2_with fail
      go_ret
      first | exact ⟨rfl, HE.out 2⟩ | exact ⟨rfl, HE.out 1⟩ | exact ⟨rfl, HE.out 0⟩ | exact ⟨rfl, HE.out 3⟩
    · have HCE : Hid (∀ j u, (hvs l)[j]? = some u → wA.drew.cell? ((⟨g, 0, none⟩ : Addr).add j) = some u) := fun j u hj => by
        have hr : wA.ownsRow 0 29 8 (.slice (some ⟨g, 0, none⟩) l.length cap) l.length (hvs l) := HR.out
        have hjl : j < l.length * 8 := by
          rcases Nat.lt_or_ge j (hvs l).length with h1 | h1
          · rw [hvs_len] at h1; exact h1
          · rw [List.getElem?_eq_none h1] at hj; cases hj
        have := hr.cellAt j hjl
        rw [hj] at this
        rw [Go.WideShapes.add_plain, Nat.zero_add]
        exact this
      clear nilCase hh
      obtain ⟨N, hN⟩ : ∃ N, l.length = N := ⟨_, rfl⟩
      rw [hN] at c1A hcp h0 hl HDA
      have HN := Hid.mk hN
      clear hN HR
      go_enter Try.func12, Try.ntmps12
      go_wp2_with (go_at_call 10; with_reducible refine HW.out.mono ?_; rintro e w1 ⟨rfl, hw1⟩; have hw2 := hw1.symm; clear hw1; subst hw2)
      go_region_law (refine step_append_lies _ (by rfl) _ _ 35 (by rfl) w.heap.size 29 i0 hz8 8 64 Try.underlying35 hi hz0 hz1 hz2 rfl (by decide) _ 0 [] (by simp [Act.eval]) (World.ownsRow_nil _ _ _ _) ⟨g, 0, none⟩ N cap (hvs l) (by simp [Act.eval]) (by rw [hvs_len, HN.out]) HCE.out (fun u hu => by obtain ⟨x, hx, hux⟩ := List.mem_flatMap.1 hu; exact hv_one x u hux) (by omega) (by unfold maxLen; omega) (by omega) (by show w.heap.size ≤ wA.heap.size; omega) _ rfl ?_; intro g2 cap2 w1 hown hgrow hat hlt2; have hC1 := (hgrow.block w.heap.size (by show w.heap.size < wA.heap.size; omega) (by simp [Value.ownBlock])).trans HCA.out; have hD1 := (hgrow.block b (lt_of_heap HDA.out) (by simp [Value.ownBlock])).trans HDA.out; have q1 : w1.cell? ⟨w.heap.size, 0, none⟩ = some (.slice none 0 0) := (cell_of hC1).trans rfl; have q2 : w1.cell? ⟨b, 0, none⟩ = some (.slice (some ⟨g, 0, none⟩) N cap) := (cell_of hD1).trans rfl; have q3 : w1.frozen? ⟨w.heap.size, 0, none⟩ = false := froz_of hC1; have HEND := Hid.mk (rclone_end (w := w) (w1 := w1) (l := l) hC1 hown (by have := HN.out; omega) (HBA.out.drew.grown hgrow (by show w.heap.size ≤ wA.heap.size; omega) (fun k hk => by cases hk))); clear hown hgrow hat hlt2 hC1 hD1)
      all_goals go_wp2_with fail
      all_goals go_ret
      all_goals (have hend := HEND.out 0; rw [Nat.zero_add] at hend; exact ⟨rfl, hend⟩)
end Go.Proofs.Ytolobmhbmajolaa
