/- Forget and Clone where there is no map; how many are known; a nil book. -/
import Derived.Test.YtolobmhbmajolaaPg5
namespace Go.Proofs.Ytolobmhbmajolaa
open Go.RowKit Go.Maps
set_option maxHeartbeats 2000000 in
set_option maxRecDepth 20000 in
theorem bclone_none (b : Nat) (fs : List Tl) (w : World) (h : Bk w b none fs) :
    Calls Try.prog 11 #[.pointer (some ⟨b, 0, none⟩)] w (Cl w fs) := by
  have e0 : fs = [] := h.map
  subst e0
  have c2 : w.cell? ⟨b, 0, none⟩ = some (.map none) := (cell_of h.blk).trans rfl
  have hL := len_dm h.map w rfl 3
  obtain ⟨wB, hwB⟩ : ∃ wB, w.alloc (.map #[] 0) = wB := ⟨_, rfl⟩
  have hB : Bk wB b none [] := by rw [← hwB]; exact h.ch ((Ch.refl (fun _ => False) w).alloc _) (fun _ _ e => e)
  have d2 : wB.cell? ⟨b, 0, none⟩ = some (.map none) := (cell_of hB.blk).trans rfl
  have hZ : wB.heap.size = w.heap.size + 1 := by rw [← hwB]; simp
  have hc : Ch (fun _ => False) w wB := by rw [← hwB]; exact (Ch.refl (fun _ => False) w).alloc _
  have HE : Hid (Cl w [] (.returned (.pointer (some ⟨w.heap.size + 1 + 1, 0, none⟩))) ((wB.alloc (.mapIter none 0 #[] 0)).alloc (.cells #[.map (some w.heap.size)] 60))) := by
    refine ⟨_, some w.heap.size, [], rfl, ⟨?_, ?_, by simp, by simp, by simp, by simp⟩, fun _ => rfl, Nat.le_refl _, ((hc.alloc _).alloc _).below (Nat.le_refl _) (fun _ _ e => e), ?_⟩
    · exact heap_new' _ _ _ (by simp [hZ])
    · refine map_ch (m := some w.heap.size) (fs := []) (w := wB) ?_ (((Ch.refl (fun _ => False) wB).alloc _).alloc _) (fun _ _ e => e)
      show wB.ownsMap Try.prog 2 RP w.heap.size 0 (.map [])
      rw [← hwB]
      exact World.ownsMap_made w Try.prog 2 RP
    · rintro i (rfl | e | ⟨g, hg, _⟩)
      · omega
      · injection e with e; omega
      · cases hg
  have hrg := run_range_nilMap (P := Try.prog) wB 58 2 66 Try.underMap
  have hnx : ∀ ty, (Instr.next (.pointer (some ⟨wB.heap.size, 0, none⟩)) false ty).run Try.prog (wB.alloc (.mapIter none 0 #[] 0)) = _ := fun ty => run_next_nilMap _ ty 0 0 #[]
  rw [hZ] at hrg hnx
  have HM := fun n w => run_makeMap_hint 58 _ _ .i64 n w Try.underMap
  have hsz : (wB.alloc (.mapIter none 0 #[] 0)).heap.size = w.heap.size + 1 + 1 := by simp [hZ]
  clear h hB hZ hc
  go_enter Try.func11, Try.ntmps11
  go_wp2
  refine wp_loop_rounds 1 ?_
  rw [rounds_succ]
  go_wp2
  go_ret
  first | exact HE.out | (have := HE.out; simpa [hsz] using this)
theorem bclone_any (b : Nat) (m : Option Nat) (fs : List Tl) (hn : fs.length < 4611686018427387904) (w : World) (h : Bk w b m fs) : Calls Try.prog 11 #[.pointer (some ⟨b, 0, none⟩)] w (Cl w fs) := by
  cases m with
  | none => exact bclone_none b fs w h
  | some mb => exact bclone_some b mb fs hn w h
set_option maxHeartbeats 2000000 in
set_option maxRecDepth 20000 in
theorem bforget_none (b : Nat) (fs : List Tl) (below : Int) (w : World) (h : Bk w b none fs) :
    Calls Try.prog 17 #[.pointer (some ⟨b, 0, none⟩), .int .i64 below] w fun e w' => e = .returned (.int .i64 0) ∧ fs = [] ∧ Below w.heap.size w w' := by
  have e0 : fs = [] := h.map
  subst e0
  have c2 : w.cell? ⟨b, 0, none⟩ = some (.map none) := (cell_of h.blk).trans rfl
  have hrg := run_range_nilMap (P := Try.prog) w 58 2 66 Try.underMap
  have hnx : ∀ ty, (Instr.next (.pointer (some ⟨w.heap.size, 0, none⟩)) false ty).run Try.prog (w.alloc (.mapIter none 0 #[] 0)) = _ := fun ty => run_next_nilMap _ ty 0 0 #[]
  clear h
  go_enter Try.func17, Try.ntmps17
  go_wp2
  refine wp_loop_rounds 1 ?_
  rw [rounds_succ]
  go_wp2
  go_ret
  exact ⟨rfl, trivial, (Below.refl _ w).alloc (Nat.le_refl _) _⟩
theorem blen_any (b : Nat) (m : Option Nat) (fs : List Tl) (w : World) (h : Bk w b m fs) : Calls Try.prog 28 #[.pointer (some ⟨b, 0, none⟩)] w fun e w' => e = .returned (.int .i64 fs.length) ∧ w' = w := by
  have c2 : w.cell? ⟨b, 0, none⟩ = some (.map m) := (cell_of h.blk).trans rfl
  have hL := len_dm h.map w rfl 3
  clear h
  go_enter Try.func28, Try.ntmps28
  go_wp2
  go_ret
  exact ⟨rfl, rfl⟩
/-- The producers that are known: rising, and just those that have batches. -/
structure Ids (F : Int → List Nt) (ps : List Int) : Prop where
  up : ps.Pairwise (fun a b => a < b)
  mem : ∀ q, q ∈ ps ↔ F q ≠ []
theorem rise_eq : ∀ {a b : List Int}, a.Pairwise (fun x y => x < y) → b.Pairwise (fun x y => x < y) → (∀ q, q ∈ a ↔ q ∈ b) → a = b
  | [], [], _, _, _ => rfl
  | [], y :: r, _, _, h => by have := (h y).2 (by simp); cases this
  | x :: r, [], _, _, h => by have := (h x).1 (by simp); cases this
  | x :: r, y :: s, h1, h2, h => by
    obtain ⟨a1, a2⟩ := List.pairwise_cons.1 h1
    obtain ⟨b1, b2⟩ := List.pairwise_cons.1 h2
    have e : x = y := by
      rcases List.mem_cons.1 ((h x).1 (by simp)) with e | hx
      · exact e
      · rcases List.mem_cons.1 ((h y).2 (by simp)) with e | hy
        · exact e.symm
        · have := b1 x hx; have := a1 y hy; omega
    subst e
    rw [rise_eq a2 b2 (fun q => ?_)]
    constructor
    · intro hq
      rcases List.mem_cons.1 ((h q).1 (by simp [hq])) with e | hq'
      · have := a1 q hq; omega
      · exact hq'
    · intro hq
      rcases List.mem_cons.1 ((h q).2 (by simp [hq])) with e | hq'
      · have := b1 q hq; omega
      · exact hq'
theorem Ids.uniq {F : Int → List Nt} {a b : List Int} (h : Ids F a) (k : Ids F b) : a = b := rise_eq h.up k.up (fun q => (h.mem q).trans (k.mem q).symm)
theorem Bk.pids {w : World} {b : Nat} {m : Option Nat} {fs : List Tl} (h : Bk w b m fs) {F : Int → List Nt} (hF : ∀ q, fv fs q = F q) : Ids F (fs.map (fun f => f.id)) := by
  refine ⟨List.pairwise_map.2 h.ids, fun q => ?_⟩
  rw [← hF q]
  constructor
  · intro hq
    obtain ⟨f, hf, rfl⟩ := List.mem_map.1 hq
    rw [fv_of (look_of h.ids hf)]
    exact (h.ok f hf).1
  · intro hq
    cases hl : look q fs with
    | none => exact absurd (fv_no hl) hq
    | some f => obtain ⟨hf, e⟩ := look_mem hl; exact List.mem_map.2 ⟨f, hf, e⟩
end Go.Proofs.Ytolobmhbmajolaa
