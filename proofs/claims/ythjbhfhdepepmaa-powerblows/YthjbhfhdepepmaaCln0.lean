/- The clone of a disk whose map is nil. -/
import Derived.Test.YthjbhfhdepepmaaCln
namespace Go.Proofs.Ythjbhfhdepepmaa
open Go.RowKit Go.Maps
set_option maxHeartbeats 2000000 in
set_option maxRecDepth 20000 in
theorem dclone_none (d : Nat) (rm : Nat) (cl cb : Int) (fs : List Fl) (w : World) (h : Dk w d none rm cl cb fs) :
    Calls Try.prog 33 #[.pointer (some ⟨d, 0, none⟩)] w fun e w' => e = .returned (.pointer (some ⟨w.heap.size, 0, none⟩)) ∧ ∃ gs, Dk w' w.heap.size (some (w.heap.size + 1)) rm cl cb gs ∧ vw gs = vw fs ∧ (∀ i, Ft w.heap.size (some (w.heap.size + 1)) gs i → w.heap.size ≤ i) ∧ Below w.heap.size w w' := by
  have e0 : fs = [] := h.map
  subst e0
  have c0 := h.c0
  have c1 := h.c1
  have c2 := h.c2
  have c3 := h.c3
  have c4 := h.c4
  obtain ⟨wA, hwA⟩ : ∃ wA, wA = w.alloc (.cells #[.int .i64 rm, .int .i64 (tot []), .map none, .int .i64 cl, .int .i64 cb] 107) := ⟨_, rfl⟩
  obtain ⟨wB, hwB⟩ : ∃ wB, wB = (w.alloc (.cells #[.int .i64 rm, .int .i64 (tot []), .map (some (w.heap.size + 1)), .int .i64 cl, .int .i64 cb] 107)).alloc (.map #[] 0) := ⟨_, rfl⟩
  have hA : Dk wA d none rm cl cb [] := by rw [hwA]; exact h.ch ((Ch.refl (fun _ => False) w).alloc _) (fun _ _ e => e)
  have hB : Dk wB d none rm cl cb [] := by rw [hwB]; exact h.ch (((Ch.refl (fun _ => False) w).alloc _).alloc _) (fun _ _ e => e)
  have hZ : wB.heap.size = w.heap.size + 2 := by rw [hwB]; simp
  have hc : Ch (fun _ => False) w wB := by rw [hwB]; exact ((Ch.refl (fun _ => False) w).alloc _).alloc _
  have hE : Dk (wB.alloc (.mapIter none 0 #[] 0)) w.heap.size (some (w.heap.size + 1)) rm cl cb [] ∧ vw [] = vw [] ∧ (∀ i, Ft w.heap.size (some (w.heap.size + 1)) [] i → w.heap.size ≤ i) ∧ Below w.heap.size w (wB.alloc (.mapIter none 0 #[] 0)) := by
    refine ⟨⟨?_, ?_, by simp, by simp, by simp, by simp, h.rom⟩, rfl, ?_, (hc.alloc _).below (Nat.le_refl _) (fun _ _ e => e)⟩
    · rw [hwB]
      exact heap_alloc_at (heap_alloc_at (heap_new _ _))
    · refine map_ch (m := some (w.heap.size + 1)) (fs := []) (w := wB) ?_ ((Ch.refl (fun _ => False) wB).alloc _) (fun _ _ e => e)
      show wB.ownsMap Try.prog 9 RP (w.heap.size + 1) 0 (.map [])
      rw [hwB]
      have := World.ownsMap_made (w.alloc (.cells #[.int .i64 rm, .int .i64 (tot []), .map (some (w.heap.size + 1)), .int .i64 cl, .int .i64 cb] 107)) Try.prog 9 RP
      simpa using this
    · rintro i (rfl | e | ⟨g, hg, _⟩)
      · exact Nat.le_refl _
      · injection e with e; omega
      · cases hg
  have a2 := hA.c2
  have b2 := hB.c2
  have hL := len_dm hA.map wA rfl 3
  rw [hwA] at a2 hL
  have hrg := run_range_nilMap (P := Try.prog) wB 103 9 101 Try.underMap
  have hnx : ∀ ty, (Instr.next (.pointer (some ⟨wB.heap.size, 0, none⟩)) false ty).run Try.prog (wB.alloc (.mapIter none 0 #[] 0)) = _ := fun ty => run_next_nilMap _ ty 0 0 #[]
  rw [hZ] at hrg hnx
  rw [hwB] at b2 hE hrg hnx
  have HM := fun n w => run_makeMap_hint 103 _ _ .i64 n w Try.underMap
  have HE := hid hE
  clear h hA hB hwA hwB hZ hE hc
  go_enter Try.func33, Try.ntmps33
  go_wp2
  refine wp_loop_rounds 1 ?_
  rw [rounds_succ]
  go_wp2
  go_ret
  exact ⟨rfl, _, HE.out.1, rfl, HE.out.2.2⟩
theorem dclone_any (d : Nat) (m : Option Nat) (rm : Nat) (cl cb : Int) (fs : List Fl) (w : World) (h : Dk w d m rm cl cb fs) (hl : fs.length ≤ 65536) :
    Calls Try.prog 33 #[.pointer (some ⟨d, 0, none⟩)] w fun e w' => e = .returned (.pointer (some ⟨w.heap.size, 0, none⟩)) ∧ ∃ gs, Dk w' w.heap.size (some (w.heap.size + 1)) rm cl cb gs ∧ vw gs = vw fs ∧ (∀ i, Ft w.heap.size (some (w.heap.size + 1)) gs i → w.heap.size ≤ i) ∧ Below w.heap.size w w' := by
  cases m with
  | none => exact dclone_none d rm cl cb fs w h
  | some b => exact dclone_some d b rm cl cb fs w h hl
end Go.Proofs.Ythjbhfhdepepmaa
