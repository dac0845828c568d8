/- The document's disk: Clone. -/
import Derived.Test.YtclelafnjfhdjaaRcr
import Derived.Deep.RegionLaw
namespace Go.Proofs.Ytclelafnjfhdjaa
open Go.RowKit
theorem clone_end {w w1 : World} {rm : Nat} {cl cb : Int} {V : Vw} {v : Value} {n : Nat} (hc : w1.heap[w.heap.size]? = some (.cells #[.int .i64 rm, .slice none 0 0, .int .i64 cl, .int .i64 cb] 61 (0, 0))) (ho : w1.ownsRow w.heap.size 82 3 v n (rfs V)) (hn : V.length = n) (hb : Below w.heap.size w w1) (k : Nat) :
    (∃ fc, Rs ((w1.drewN k).setCell ⟨w.heap.size, 1, none⟩ v) w.heap.size fc rm cl cb V ∧ ∀ i, fc i → w.heap.size ≤ i) ∧ Below w.heap.size w ((w1.drewN k).setCell ⟨w.heap.size, 1, none⟩ v) := by
  subst hn
  have hne : ∀ i, v.ownBlock = some i → i ≠ w.heap.size := by
    rintro i hi rfl
    rcases ho.2 with ⟨rfl, _⟩ | ⟨g', cap, cur, rfl, _, hh, _⟩
    · cases hi
    · injection hi with hi
      subst hi
      rw [hc] at hh
      injection hh with hh
      injection hh with _ hh _
      exact absurd hh (by decide)
  refine ⟨⟨_, ⟨v, ⟨heap_set (i := 1) (v := v) hc, own_ch (own_le ho (Nat.zero_le _)) (((Ch.refl (fun i => i = w.heap.size) w1).drewN k).setCell _ _ (fun _ => rfl)) hne⟩, rfl⟩, ?_⟩, ?_⟩
  · rintro i (rfl | hi)
    · exact Nat.le_refl _
    · exact (ho.lt i hi).1
  · have h1 : Below w.heap.size w (w1.drewN k) := hb.trans (((Ch.refl (fun _ => False) w1).drewN k).below hb.size (fun _ _ e => e))
    exact h1.setCell (Nat.le_refl _) _
set_option maxHeartbeats 2000000 in
set_option maxRecDepth 20000 in
theorem rclone_any (d : Nat) (fl : Value) (rm : Nat) (cl cb : Int) (V : Vw) (w : World) (h : Rk w d fl rm cl cb V) (hc : V.length ≤ 65536) :
    Calls Try.prog 13 #[.pointer (some ⟨d, 0, none⟩)] w fun e w' => e = .returned (.pointer (some ⟨w.heap.size, 0, none⟩)) ∧ (∃ fc, Rs w' w.heap.size fc rm cl cb V ∧ ∀ i, fc i → w.heap.size ≤ i) ∧ Below w.heap.size w w' := by
  obtain ⟨i0, hi, hz0, hz1, hz2⟩ := info_parts Try.infoRF
  have c0 := h.c0
  have c2 := h.c2
  have c3 := h.c3
  have hnm := h.row
  obtain ⟨wA, hwA⟩ : ∃ wA, wA = w.alloc (.cells #[.int .i64 rm, .slice none 0 0, .int .i64 cl, .int .i64 cb] 61) := ⟨_, rfl⟩
  have hbA : Below w.heap.size w wA.drew := by rw [hwA]; exact ((Below.refl _ w).alloc (Nat.le_refl _) _).drew
  have hcA := heap_new w (.cells #[.int .i64 rm, .slice none 0 0, .int .i64 cl, .int .i64 cb] 61)
  have hsA : wA.heap.size = w.heap.size + 1 := by rw [hwA]; simp
  rw [← hwA] at hcA
  have hkA : Rk wA.drew d fl rm cl cb V := h.ch (Ch.of_below (S := fun _ => False) hbA) (fun _ _ e => e)
  have x1 : wA.cell? ⟨w.heap.size, 1, none⟩ = some (.slice none 0 0) := (cell_of hcA).trans rfl
  have c1A : wA.cell? ⟨d, 1, none⟩ = some fl := hkA.c1
  have fzA : wA.frozen? ⟨w.heap.size, 1, none⟩ = false := froz_of hcA
  have hform := hkA.form
  have hwA' := hwA.symm
  clear hwA
  have HBA := hid' hbA
  have HB0 : Hid (Below w.heap.size w wA) := ⟨hbA.os, hbA.tape, hbA.output, hbA.size, hbA.block⟩
  have HCA := hid' hcA
  have HDA := hid' hkA.blk
  clear hbA hcA hkA
  rcases hform with ⟨rfl, rfl⟩ | ⟨g, cap, rfl, hcl, _, _⟩
  · go_enter Try.func13, Try.ntmps13
    go_wp2_with fail
    go_region
    go_wp2_with fail
    go_region
    go_wp2_with fail
    go_ret
    have HE0 := fun k => clone_end (w := w) (w1 := wA) (V := []) (v := .slice none 0 0) HCA.out (World.ownsRow_nil _ _ _ _) rfl HB0.out k
    first | exact ⟨rfl, HE0 2⟩ | exact ⟨rfl, HE0 1⟩ | exact ⟨rfl, HE0 0⟩ | exact ⟨rfl, HE0 3⟩
  · by_cases h0 : V.length = 0
    · obtain rfl := List.eq_nil_of_length_eq_zero h0
      go_enter Try.func13, Try.ntmps13
      go_wp2_with fail
      go_region
      go_wp2_with fail
      go_region
      go_wp2_with fail
      go_ret
      have HE0 := fun k => clone_end (w := w) (w1 := wA) (V := []) (v := .slice none 0 0) HCA.out (World.ownsRow_nil _ _ _ _) rfl HB0.out k
      first | exact ⟨rfl, HE0 2⟩ | exact ⟨rfl, HE0 1⟩ | exact ⟨rfl, HE0 0⟩ | exact ⟨rfl, HE0 3⟩
    · have HCE : Hid (∀ j u, (rfs V)[j]? = some u → wA.drew.cell? ((⟨g, 0, none⟩ : Addr).add j) = some u) := fun j u hj => rfs_left V [] (N := V.length) (by simp) (by simpa using hcl) j u hj
      clear hcl h
      generalize hN : V.length = N at *
      have HN := hid' hN
      clear hN
      go_enter Try.func13, Try.ntmps13
      go_wp2_with fail
      go_region
      go_wp2_with fail
      go_region_law (refine step_append_lies _ (by rfl) _ _ 59 (by rfl) w.heap.size 82 i0 (.agg #[.string ⟨#[]⟩, .string ⟨#[]⟩, .int .i64 0]) 3 40 Try.underRFs hi hz0 hz1 hz2 rfl (by decide) _ 0 [] (by simp [Act.eval]) (World.ownsRow_nil _ _ _ _) ⟨g, 0, none⟩ N cap (rfs V) (by simp [Act.eval]) (by rw [rfs_len, HN.out]) HCE.out (rfs_one _) (by omega) (by unfold maxLen; omega) (by omega) HBA.out.size _ rfl ?_; intro g2 cap2 w1 hown hgrow hat hlt2; have hC1 := (hgrow.block w.heap.size (by show w.heap.size < wA.heap.size; omega) (by simp [Value.ownBlock])).trans HCA.out; have hD1 := (hgrow.block d (lt_of_heap HDA.out) (by simp [Value.ownBlock])).trans HDA.out; have q1 : w1.cell? ⟨w.heap.size, 1, none⟩ = some (.slice none 0 0) := (cell_of hC1).trans rfl; have q2 : w1.cell? ⟨d, 1, none⟩ = some (.slice (some ⟨g, 0, none⟩) N cap) := (cell_of hD1).trans rfl; have q3 : w1.frozen? ⟨w.heap.size, 1, none⟩ = false := froz_of hC1; have HEND := hid' (clone_end (w := w) (w1 := w1) (V := V) hC1 hown (by have := HN.out; omega) (HBA.out.drew.grown hgrow (by show w.heap.size ≤ wA.heap.size; omega) (fun k hk => by cases hk))); clear hown hgrow hat hlt2 hC1 hD1)
      all_goals go_wp2_with fail
      all_goals go_ret
      all_goals (have hend := HEND.out 0; rw [Nat.zero_add] at hend; exact ⟨rfl, hend⟩)
end Go.Proofs.Ytclelafnjfhdjaa
