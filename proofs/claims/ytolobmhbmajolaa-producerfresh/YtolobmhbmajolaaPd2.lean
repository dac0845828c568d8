/- A tail's add. -/
import Derived.Test.YtolobmhbmajolaaPdm
import Derived.Laws.CopyOwn
namespace Go.Proofs.Ytolobmhbmajolaa
open Go.RowKit
theorem Try.infoNt : (Try.prog.info? 68).map (fun i => i.size) = some 3 := by kernel_rfl
theorem Try.underNts : Try.prog.underlying 86 = some (.slice 68) := by kernel_rfl
theorem copy5 (w : World) (p : Nat) (a0 a1 a2 a3 a4 : Nt) (h : w.heap[p]? = some (.cells (tc 5 a0 a1 a2 a3 a4) 71 (0, 0))) :
    (Builtin.copy_ #[86, 86] 3 #[.slice (some ⟨p, 1, none⟩) 5 5, .slice (some ⟨p, 4, none⟩) 4 4]).run Try.prog w = .ok (goInt 4) (w.setRow p (tc 5 a1 a2 a3 a4 a4)) := by
  obtain ⟨cs, hcs⟩ : ∃ cs : List Value, cs = [.int .i64 a1.b, .int .i32 a1.c, .int .i32 a1.s, .int .i64 a2.b, .int .i32 a2.c, .int .i32 a2.s, .int .i64 a3.b, .int .i32 a3.c, .int .i32 a3.s, .int .i64 a4.b, .int .i32 a4.c, .int .i32 a4.s] := ⟨_, rfl⟩
  have hlen : cs.length = 12 := by rw [hcs]; rfl
  have hl := run_loadCells_list (P := Try.prog) w ⟨p, 4, none⟩ cs (by
    intro j v hv
    rw [show (⟨p, 4, none⟩ : Addr).add j = ⟨p, 4 + j, none⟩ from Go.WideShapes.add_plain _ _ _, cell_of h]
    rw [hcs] at hv
    have hj : j < 12 := by
      rcases Nat.lt_or_ge j 12 with h1 | h1
      · exact h1
      · rw [List.getElem?_eq_none (by simpa using h1)] at hv; cases hv
    have hc : j = 0 ∨ j = 1 ∨ j = 2 ∨ j = 3 ∨ j = 4 ∨ j = 5 ∨ j = 6 ∨ j = 7 ∨ j = 8 ∨ j = 9 ∨ j = 10 ∨ j = 11 := by omega
    rcases hc with rfl | rfl | rfl | rfl | rfl | rfl | rfl | rfl | rfl | rfl | rfl | rfl <;> exact hv)
  have hst := run_storeCells_at Try.prog p 1 71 cs 0 _ w h (by rw [hlen]; show 1 + 0 + 12 ≤ 16; decide) (by
    rw [hcs]
    intro v hv
    simp only [List.mem_cons, List.not_mem_nil, or_false] at hv
    rcases hv with rfl | rfl | rfl | rfl | rfl | rfl | rfl | rfl | rfl | rfl | rfl | rfl <;> rfl)
  cases hq : Try.prog.info? 68 with
  | none => have := Try.infoNt; rw [hq] at this; cases this
  | some i =>
    have hi : i.size = 3 := by have := Try.infoNt; rw [hq] at this; simpa using this
    rw [hlen] at hl
    rw [show w.setRow p (tc 5 a1 a2 a3 a4 a4) = w.setRow p (List.take (1 + 0) (tc 5 a0 a1 a2 a3 a4).toList ++ cs ++ List.drop (1 + 0 + cs.length) (tc 5 a0 a1 a2 a3 a4).toList).toArray from by rw [hcs]; rfl]
    simp [Builtin.copy_, run_underlying Try.underNts, Builtin.lenOf, Builtin.firstCells, sizeOf, typeInfo, hq, hi, hl, hst]
theorem goI4 : goInt 4 = .int .i64 4 := rfl
/-- The last five. -/
def kp (l : List Nt) : List Nt := l.drop (l.length - 5)
set_option maxHeartbeats 2000000 in
set_option maxRecDepth 20000 in
theorem add_5 (p : Nat) (a0 a1 a2 a3 a4 x : Nt) (w : World) (h : w.heap[p]? = some (.cells (tc 5 a0 a1 a2 a3 a4) 71 (0, 0))) :
    Calls Try.prog 47 #[.pointer (some ⟨p, 0, none⟩), .agg #[.int .i64 x.b, .int .i32 x.c, .int .i32 x.s]] w fun e w' => e = .returned (.tuple #[]) ∧ Ch (fun i => i = p) w w' ∧ w'.heap[p]? = some (.cells (tc 5 a1 a2 a3 a4 x) 71 (0, 0)) := by
  have hp := lt_of_heap h
  have e0 : IntKind.i64.wrap 4 = 4 := rfl
  obtain ⟨W, hW⟩ : ∃ W, w.alloc (.cells #[.int .i64 x.b, .int .i32 x.c, .int .i32 x.s] 68) = W := ⟨_, rfl⟩
  have hA : W.heap[p]? = some (.cells (tc 5 a0 a1 a2 a3 a4) 71 (0, 0)) := by rw [← hW]; exact heap_alloc_at h
  have hN : W.heap[w.heap.size]? = some (.cells #[.int .i64 x.b, .int .i32 x.c, .int .i32 x.s] 68 (0, 0)) := by rw [← hW]; exact heap_new _ _
  have hcW : Ch (fun i => i = p) w W := by rw [← hW]; exact (Ch.refl _ w).alloc _
  have hcp := copy5 W.drew p a0 a1 a2 a3 a4 hA
  rw [goI4] at hcp
  obtain ⟨V, hV⟩ : ∃ V, W.drew.setRow p (tc 5 a1 a2 a3 a4 a4) = V := ⟨_, rfl⟩
  have hA2 : V.heap[p]? = some (.cells (tc 5 a1 a2 a3 a4 a4) 71 (0, 0)) := by rw [← hV]; exact setRow_heap W.drew p _ _ _ _ hA
  have hN2 : V.heap[w.heap.size]? = some (.cells #[.int .i64 x.b, .int .i32 x.c, .int .i32 x.s] 68 (0, 0)) := by rw [← hV]; exact (setRow_other W.drew p _ _ (by omega)).trans hN
  have hcV : Ch (fun i => i = p) w V := by
    rw [← hV]
    exact hcW.trans ⟨rfl, rfl, rfl, by simp [World.setRow], fun k hk hs => setRow_other W.drew p k _ hs⟩
  rw [hV] at hcp
  obtain ⟨c0, c1, c2, c3, c4, c5, c6, c7, c8, c9, c10, c11, c12, c13, c14, c15⟩ := cells16 hA
  obtain ⟨d0, d1, d2, d3, d4, d5, d6, d7, d8, d9, d10, d11, d12, d13, d14, d15⟩ := cells16 hA2
  obtain ⟨k0, k1, k2⟩ : V.cell? ⟨w.heap.size, 0, none⟩ = some (.int .i64 x.b) ∧ V.cell? ⟨w.heap.size, 1, none⟩ = some (.int .i32 x.c) ∧ V.cell? ⟨w.heap.size, 2, none⟩ = some (.int .i32 x.s) := ⟨(cell_of hN2).trans rfl, (cell_of hN2).trans rfl, (cell_of hN2).trans rfl⟩
  have fz : ∀ i, V.frozen? ⟨p, i, none⟩ = false := fun i => froz_of hA2
  have hne : w.heap.size ≠ p := by omega
  have HA := Hid.mk hA2
  have HC := Hid.mk hcV
  clear h hA hN hN2 hV hcW hA2 hcV
  go_enter Try.func47, Try.ntmps47
  go_wp2
  go_region
  all_goals go_wp2
  go_region
  all_goals go_wp2
  go_end0
  exact ⟨rfl, (((((HC.out.setCell _ _ (fun _ => rfl)).setCell _ _ (fun _ => rfl)).setCell _ _ (fun _ => rfl)).setCell _ _ (fun _ => rfl)).setCell _ _ (fun _ => rfl)).drew, (heap_set (heap_set (heap_set (heap_set (heap_set HA.out))))).trans rfl⟩
set_option maxHeartbeats 2000000 in
theorem add_less (p n : Nat) (a0 a1 a2 a3 a4 x : Nt) (hn : n < 5) (w : World) (h : w.heap[p]? = some (.cells (tc n a0 a1 a2 a3 a4) 71 (0, 0))) :
    Calls Try.prog 47 #[.pointer (some ⟨p, 0, none⟩), .agg #[.int .i64 x.b, .int .i32 x.c, .int .i32 x.s]] w fun e w' => e = .returned (.tuple #[]) ∧ Ch (fun i => i = p) w w' ∧ w'.heap[p]? = some (.cells (tc (n + 1) (if n = 0 then x else a0) (if n = 1 then x else a1) (if n = 2 then x else a2) (if n = 3 then x else a3) (if n = 4 then x else a4)) 71 (0, 0)) := by
  have hp := lt_of_heap h
  have e0 : IntKind.i64.wrap 0 = 0 := rfl
  have e1 : IntKind.i64.wrap 1 = 1 := rfl
  have e2 : IntKind.i64.wrap 2 = 2 := rfl
  have e3 : IntKind.i64.wrap 3 = 3 := rfl
  have e4 : IntKind.i64.wrap 4 = 4 := rfl
  have fz : ∀ i, w.frozen? ⟨p, i, none⟩ = false := fun i => froz_of h
  have hc : n = 0 ∨ n = 1 ∨ n = 2 ∨ n = 3 ∨ n = 4 := by omega
  clear hn
  rcases hc with rfl | rfl | rfl | rfl | rfl
  all_goals
    obtain ⟨c0, c1, c2, c3, c4, c5, c6, c7, c8, c9, c10, c11, c12, c13, c14, c15⟩ := cells16 h
    have H := Hid.mk h
    clear h
    go_enter Try.func47, Try.ntmps47
    go_wp2
    go_region
    all_goals go_wp2
    go_end0
    exact ⟨rfl, ((((((Ch.refl (fun i => i = p) w).setCell _ _ (fun _ => rfl)).setCell _ _ (fun _ => rfl)).setCell _ _ (fun _ => rfl)).setCell _ _ (fun _ => rfl)).alloc _).drew, (heap_alloc_at (heap_set (heap_set (heap_set (heap_set H.out))))).trans rfl⟩
/-- A tail takes one more. -/
theorem add_any (p : Nat) (ns : List Nt) (x : Nt) (w : World) (h : TA w p ns) :
    Calls Try.prog 47 #[.pointer (some ⟨p, 0, none⟩), .agg #[.int .i64 x.b, .int .i32 x.c, .int .i32 x.s]] w fun e w' => e = .returned (.tuple #[]) ∧ Ch (fun i => i = p) w w' ∧ TA w' p (kp (ns ++ [x])) := by
  obtain ⟨a0, a1, a2, a3, a4, h1, h2, h⟩ := h
  obtain ⟨n, hn⟩ : ∃ n, ns.length = n := ⟨_, rfl⟩
  rw [hn] at h1 h2 h
  by_cases h5 : n = 5
  · subst h5
    refine (add_5 p a0 a1 a2 a3 a4 x w h).mono ?_
    rintro e w' ⟨rfl, hc, hh⟩
    refine ⟨rfl, hc, a1, a2, a3, a4, x, ?_⟩
    rw [h2]
    exact ⟨by simp [kp], by simp [kp], hh⟩
  · refine (add_less p n a0 a1 a2 a3 a4 x (by omega) w h).mono ?_
    rintro e w' ⟨rfl, hc, hh⟩
    refine ⟨rfl, hc, (if n = 0 then x else a0), (if n = 1 then x else a1), (if n = 2 then x else a2), (if n = 3 then x else a3), (if n = 4 then x else a4), ?_⟩
    have hk : n = 0 ∨ n = 1 ∨ n = 2 ∨ n = 3 ∨ n = 4 := by omega
    rw [h2]
    rcases hk with rfl | rfl | rfl | rfl | rfl
    all_goals exact ⟨by simp [kp], by simp [kp], hh⟩
end Go.Proofs.Ytolobmhbmajolaa
