/- Whether two requests, or two replies, have the same form. -/
import Derived.Test.YtgdaaohlongmlaaPcn
namespace Go.Proofs.Ytgdaaohlongmlaa
open Go.RowKit
theorem ret_bool {a b : Bool} (h : a = b) : Ending.returned (.bool a) = .returned (.bool b) := by rw [h]
/-- Both can be written, and their forms are the same. -/
def sameQ (a b : Rq) : Bool := decide (askE a = 0) && decide (askE b = 0) && ((askS a).toList == (askS b).toList)
def sameP (a b : Rp) : Bool := decide (repE a = 0) && decide (repE b = 0) && ((repS a).toList == (repS b).toList)
theorem sameQ_yes {a b : Rq} (h1 : askE a = 0) (h2 : askE b = 0) (h3 : askL a = askL b) : sameQ a b = true := by
  unfold sameQ askS
  rw [h1, h2, h3]; simp
theorem sameQ_no {a b : Rq} (h1 : askE a ≠ 0) : sameQ a b = false := by unfold sameQ; rw [decide_eq_false h1]; rfl
theorem sameP_yes {a b : Rp} (h1 : repE a = 0) (h2 : repE b = 0) (h3 : repL a = repL b) : sameP a b = true := by
  unfold sameP repS
  rw [h1, h2, h3]; simp
theorem sameP_no {a b : Rp} (h1 : repE a ≠ 0) : sameP a b = false := by unfold sameP; rw [decide_eq_false h1]; rfl
set_option maxHeartbeats 1000000 in
set_option maxRecDepth 20000 in
theorem sameask_any (a b : Rq) (w : World) :
    Calls Try.prog 9 #[.agg a.c, .agg b.c] w fun e w' => e = .returned (.bool (sameQ a b)) ∧ Below w.heap.size w w' := by
  have C1 := hid (fun w1 => ask_any a w1)
  have C2 := hid (fun w1 => ask_any b w1)
  obtain ⟨k, d, o, t, m⟩ := a
  obtain ⟨k2, d2, o2, t2, m2⟩ := b
  show Calls Try.prog 9 #[.agg #[.int .i64 k, .string d, .int .i64 o, .int .i64 t, .int .i64 m], .agg #[.int .i64 k2, .string d2, .int .i64 o2, .int .i64 t2, .int .i64 m2]] w _
  unfold sameQ
  unfold asV at C1 C2
  generalize askE ⟨k, d, o, t, m⟩ = E1 at *
  generalize askE ⟨k2, d2, o2, t2, m2⟩ = E2 at *
  generalize askS ⟨k, d, o, t, m⟩ = S1 at *
  generalize askS ⟨k2, d2, o2, t2, m2⟩ = S2 at *
  have g1 : ((w.alloc (.cells #[.int .i64 k, .string d, .int .i64 o, .int .i64 t, .int .i64 m] 24)).alloc (.cells #[.int .i64 k2, .string d2, .int .i64 o2, .int .i64 t2, .int .i64 m2] 24)).heap[w.heap.size + 1]? = some (.cells #[.int .i64 k2, .string d2, .int .i64 o2, .int .i64 t2, .int .i64 m2] 24 (0, 0)) := heap_new' _ _ _ (by simp)
  have g0 : ((w.alloc (.cells #[.int .i64 k, .string d, .int .i64 o, .int .i64 t, .int .i64 m] 24)).alloc (.cells #[.int .i64 k2, .string d2, .int .i64 o2, .int .i64 t2, .int .i64 m2] 24)).heap[w.heap.size]? = some (.cells #[.int .i64 k, .string d, .int .i64 o, .int .i64 t, .int .i64 m] 24 (0, 0)) := heap_alloc_at (heap_new _ _)
  have b0 : Below w.heap.size w ((w.alloc (.cells #[.int .i64 k, .string d, .int .i64 o, .int .i64 t, .int .i64 m] 24)).alloc (.cells #[.int .i64 k2, .string d2, .int .i64 o2, .int .i64 t2, .int .i64 m2] 24)) := ((Below.refl _ _).alloc (Nat.le_refl _) _).alloc (by simp) _
  go_enter Try.func9, Try.ntmps9
  go_wp2_with fail
  generalize (w.alloc (.cells #[.int .i64 k, .string d, .int .i64 o, .int .i64 t, .int .i64 m] 24)).alloc (.cells #[.int .i64 k2, .string d2, .int .i64 o2, .int .i64 t2, .int .i64 m2] 24) = w0 at *
  refine (C1.out w0).mono ?_
  rintro e w1 ⟨rfl, b1⟩
  have g2 : w1.heap[w.heap.size + 1]? = _ := (b1.block _ (lt_of_heap g1)).trans g1
  have c0 : w1.cell? ⟨w.heap.size + 1, 0, none⟩ = some (.int .i64 k2) := (cell_of g2).trans rfl
  have c1 : w1.cell? ⟨w.heap.size + 1, 1, none⟩ = some (.string d2) := (cell_of g2).trans rfl
  have c2 : w1.cell? ⟨w.heap.size + 1, 2, none⟩ = some (.int .i64 o2) := (cell_of g2).trans rfl
  have c3 : w1.cell? ⟨w.heap.size + 1, 3, none⟩ = some (.int .i64 t2) := (cell_of g2).trans rfl
  have c4 : w1.cell? ⟨w.heap.size + 1, 4, none⟩ = some (.int .i64 m2) := (cell_of g2).trans rfl
  have B1 := hid (b0.trans (b1.mono b0.size))
  clear g0 g1 g2 b0 b1
  go_wp2_with fail
  refine (C2.out w1).mono ?_
  rintro e w2 ⟨rfl, b2⟩
  have B2 := hid (B1.out.trans (b2.mono B1.out.size))
  clear B1 b2 c0 c1 c2 c3 c4 C1 C2
  by_cases h1 : E1 = 0
  · subst h1
    by_cases h2 : E2 = 0
    · subst h2
      go_wp2_with fail
      go_ret
      exact ⟨ret_bool (by simp), B2.out⟩
    · have hb : ((E2 : Int) == 0) = false := by rw [beq_eq_false_iff_ne]; omega
      go_wp2_with fail
      go_ret
      exact ⟨ret_bool (by simp), B2.out⟩
  · have hb : ((E1 : Int) == 0) = false := by rw [beq_eq_false_iff_ne]; omega
    go_wp2_with fail
    go_ret
    exact ⟨ret_bool (by simp [h1]), B2.out⟩
set_option maxHeartbeats 1000000 in
set_option maxRecDepth 20000 in
theorem samereply_any (a a2 : Rp) (w : World) :
    Calls Try.prog 11 #[.agg a.c, .agg a2.c] w fun e w' => e = .returned (.bool (sameP a a2)) ∧ Below w.heap.size w w' := by
  have C1 := hid (fun w1 => reply_any a w1)
  have C2 := hid (fun w1 => reply_any a2 w1)
  obtain ⟨k, r, b, o, n, d⟩ := a
  obtain ⟨k2, r2, bb2, o2, n2, d2⟩ := a2
  show Calls Try.prog 11 #[.agg #[.int .i64 k, .int .i64 r, .bool b, .int .i64 o, .int .i64 n, .string d], .agg #[.int .i64 k2, .int .i64 r2, .bool bb2, .int .i64 o2, .int .i64 n2, .string d2]] w _
  unfold sameP
  unfold rsV at C1 C2
  generalize repE ⟨k, r, b, o, n, d⟩ = E1 at *
  generalize repE ⟨k2, r2, bb2, o2, n2, d2⟩ = E2 at *
  generalize repS ⟨k, r, b, o, n, d⟩ = S1 at *
  generalize repS ⟨k2, r2, bb2, o2, n2, d2⟩ = S2 at *
  have g1 : ((w.alloc (.cells #[.int .i64 k, .int .i64 r, .bool b, .int .i64 o, .int .i64 n, .string d] 27)).alloc (.cells #[.int .i64 k2, .int .i64 r2, .bool bb2, .int .i64 o2, .int .i64 n2, .string d2] 27)).heap[w.heap.size + 1]? = some (.cells #[.int .i64 k2, .int .i64 r2, .bool bb2, .int .i64 o2, .int .i64 n2, .string d2] 27 (0, 0)) := heap_new' _ _ _ (by simp)
  have g0 : ((w.alloc (.cells #[.int .i64 k, .int .i64 r, .bool b, .int .i64 o, .int .i64 n, .string d] 27)).alloc (.cells #[.int .i64 k2, .int .i64 r2, .bool bb2, .int .i64 o2, .int .i64 n2, .string d2] 27)).heap[w.heap.size]? = some (.cells #[.int .i64 k, .int .i64 r, .bool b, .int .i64 o, .int .i64 n, .string d] 27 (0, 0)) := heap_alloc_at (heap_new _ _)
  have b0 : Below w.heap.size w ((w.alloc (.cells #[.int .i64 k, .int .i64 r, .bool b, .int .i64 o, .int .i64 n, .string d] 27)).alloc (.cells #[.int .i64 k2, .int .i64 r2, .bool bb2, .int .i64 o2, .int .i64 n2, .string d2] 27)) := ((Below.refl _ _).alloc (Nat.le_refl _) _).alloc (by simp) _
  go_enter Try.func11, Try.ntmps11
  go_wp2_with fail
  generalize (w.alloc (.cells #[.int .i64 k, .int .i64 r, .bool b, .int .i64 o, .int .i64 n, .string d] 27)).alloc (.cells #[.int .i64 k2, .int .i64 r2, .bool bb2, .int .i64 o2, .int .i64 n2, .string d2] 27) = w0 at *
  refine (C1.out w0).mono ?_
  rintro e w1 ⟨rfl, b1⟩
  have g2 : w1.heap[w.heap.size + 1]? = _ := (b1.block _ (lt_of_heap g1)).trans g1
  have c0 : w1.cell? ⟨w.heap.size + 1, 0, none⟩ = some (.int .i64 k2) := (cell_of g2).trans rfl
  have c1 : w1.cell? ⟨w.heap.size + 1, 1, none⟩ = some (.int .i64 r2) := (cell_of g2).trans rfl
  have c2 : w1.cell? ⟨w.heap.size + 1, 2, none⟩ = some (.bool bb2) := (cell_of g2).trans rfl
  have c3 : w1.cell? ⟨w.heap.size + 1, 3, none⟩ = some (.int .i64 o2) := (cell_of g2).trans rfl
  have c4 : w1.cell? ⟨w.heap.size + 1, 4, none⟩ = some (.int .i64 n2) := (cell_of g2).trans rfl
  have c5 : w1.cell? ⟨w.heap.size + 1, 5, none⟩ = some (.string d2) := (cell_of g2).trans rfl
  have B1 := hid (b0.trans (b1.mono b0.size))
  clear g0 g1 g2 b0 b1
  go_wp2_with fail
  refine (C2.out w1).mono ?_
  rintro e w2 ⟨rfl, b2⟩
  have B2 := hid (B1.out.trans (b2.mono B1.out.size))
  clear B1 b2 c0 c1 c2 c3 c4 c5 C1 C2
  by_cases h1 : E1 = 0
  · subst h1
    by_cases h2 : E2 = 0
    · subst h2
      go_wp2_with fail
      go_ret
      exact ⟨ret_bool (by simp), B2.out⟩
    · have hb : ((E2 : Int) == 0) = false := by rw [beq_eq_false_iff_ne]; omega
      go_wp2_with fail
      go_ret
      exact ⟨ret_bool (by simp), B2.out⟩
  · have hb : ((E1 : Int) == 0) = false := by rw [beq_eq_false_iff_ne]; omega
    go_wp2_with fail
    go_ret
    exact ⟨ret_bool (by simp [h1]), B2.out⟩
end Go.Proofs.Ytgdaaohlongmlaa
