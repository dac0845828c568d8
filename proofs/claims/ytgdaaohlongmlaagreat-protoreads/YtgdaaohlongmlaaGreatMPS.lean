/- Texts of the proof, put together: Peq, Psp, Pcn, Psa, Pun. -/
import Derived.Test.YtgdaaohlongmlaaGreatMPC
import Derived.Laws.StructEq
import Derived.Deep.CutRange
namespace Go.Proofs.YtgdaaohlongmlaaGreat
open Go.RowKit
theorem Tryz.qStruct : Tryz.prog.underlying 24 = some (.struct (Tryz.prog.fieldsOf 24)) := by kernel_rfl
theorem Tryz.qHeld : Tryz.prog.stoodInHeld 24 = false := by kernel_rfl
theorem Tryz.qGuard : Tryz.prog.eqGuardType Tryz.prog.depth 24 = false := by kernel_rfl
set_option maxRecDepth 20000 in
theorem q_neq (k : Int) (d : ByteArray) (o t m : Int) (w : World) : (binOp .neq 24 (.agg #[.int .i64 k, .string d, .int .i64 o, .int .i64 t, .int .i64 m]) (.agg #[.int .i64 k, .string d, .int .i64 o, .int .i64 t, .int .i64 m])).run Tryz.prog w = .ok (.bool false) w := by
  rw [run_neq_struct, run_equalIn_agg w 9999 _ _ _ Tryz.qStruct Tryz.qHeld]
  have hf : (Tryz.prog.fieldsOf 24) = (match Tryz.prog.underlying 24 with | some (.struct fs) => fs | _ => #[]) := rfl
  rw [hf, Tryz.underlying24]
  simp [go_sem, Op.eqFields, Tryz.underlying22, Tryz.underlying9, Tryz.underlying2, Tryz.underlying3]
set_option maxRecDepth 20000 in
theorem q_eql (k : Int) (d : ByteArray) (o t m : Int) (w : World) : (binOp .eql 24 (.agg #[.int .i64 k, .string d, .int .i64 o, .int .i64 t, .int .i64 m]) (.agg #[.int .i64 k, .string d, .int .i64 o, .int .i64 t, .int .i64 m])).run Tryz.prog w = .ok (.bool true) w := by
  rw [run_eql_struct, run_equalIn_agg w 9999 _ _ _ Tryz.qStruct Tryz.qHeld]
  have hf : (Tryz.prog.fieldsOf 24) = (match Tryz.prog.underlying 24 with | some (.struct fs) => fs | _ => #[]) := rfl
  rw [hf, Tryz.underlying24]
  simp [go_sem, Op.eqFields, Tryz.underlying22, Tryz.underlying9, Tryz.underlying2, Tryz.underlying3]
theorem Tryz.pStruct : Tryz.prog.underlying 27 = some (.struct (Tryz.prog.fieldsOf 27)) := by kernel_rfl
theorem Tryz.pHeld : Tryz.prog.stoodInHeld 27 = false := by kernel_rfl
theorem Tryz.pGuard : Tryz.prog.eqGuardType Tryz.prog.depth 27 = false := by kernel_rfl
set_option maxRecDepth 20000 in
theorem p_neq (k r : Int) (b : Bool) (o n : Int) (d : ByteArray) (w : World) : (binOp .neq 27 (.agg #[.int .i64 k, .int .i64 r, .bool b, .int .i64 o, .int .i64 n, .string d]) (.agg #[.int .i64 k, .int .i64 r, .bool b, .int .i64 o, .int .i64 n, .string d])).run Tryz.prog w = .ok (.bool false) w := by
  rw [run_neq_struct, run_equalIn_agg w 9999 _ _ _ Tryz.pStruct Tryz.pHeld]
  have hf : (Tryz.prog.fieldsOf 27) = (match Tryz.prog.underlying 27 with | some (.struct fs) => fs | _ => #[]) := rfl
  rw [hf, Tryz.underlying27]
  simp [go_sem, Op.eqFields, Tryz.underlying22, Tryz.underlying25, Tryz.underlying4, Tryz.underlying2, Tryz.underlying9]
set_option maxRecDepth 20000 in
theorem p_eql (k r : Int) (b : Bool) (o n : Int) (d : ByteArray) (w : World) : (binOp .eql 27 (.agg #[.int .i64 k, .int .i64 r, .bool b, .int .i64 o, .int .i64 n, .string d]) (.agg #[.int .i64 k, .int .i64 r, .bool b, .int .i64 o, .int .i64 n, .string d])).run Tryz.prog w = .ok (.bool true) w := by
  rw [run_eql_struct, run_equalIn_agg w 9999 _ _ _ Tryz.pStruct Tryz.pHeld]
  have hf : (Tryz.prog.fieldsOf 27) = (match Tryz.prog.underlying 27 with | some (.struct fs) => fs | _ => #[]) := rfl
  rw [hf, Tryz.underlying27]
  simp [go_sem, Op.eqFields, Tryz.underlying22, Tryz.underlying25, Tryz.underlying4, Tryz.underlying2, Tryz.underlying9]
end Go.Proofs.YtgdaaohlongmlaaGreat
namespace Go.Proofs.YtgdaaohlongmlaaGreat
open Go.RowKit
theorem ex_ask : asV ⟨2, ⟨#[]⟩, 1, 0, -1⟩ = .tuple #[.string ⟨#[2, 0, 0, 0, 0, 0, 0, 0, 1, 255, 255, 255, 255, 255, 255, 255, 255]⟩, .int .i64 0] := by
  rw [asV_ok (by decide), askL_2]
  have e : bs (nb 1 2 ++ (nb 8 (un 1) ++ nb 8 (un (-1)))) = ⟨#[2, 0, 0, 0, 0, 0, 0, 0, 1, 255, 255, 255, 255, 255, 255, 255, 255]⟩ := by kernel_rfl
  rw [e]
theorem ex_left : raQ ⟨#[4, 0]⟩ = (zq, 22) := by
  have h : bl ⟨#[4, 0]⟩ = askL ⟨4, ⟨#[]⟩, 0, 0, 0⟩ ++ [0] := by kernel_rfl
  rw [raQ_of ⟨by decide, by simp [nrm], I64_0, I64_0, I64_0⟩ h]
  rfl
theorem ex_rep : rrQ ⟨#[5, 0, 0, 0, 60]⟩ = (⟨5, 60, false, 0, 0, ⟨#[]⟩⟩, 0) := by
  have h : bl ⟨#[5, 0, 0, 0, 60]⟩ = repL ⟨5, 60, false, 0, 0, ⟨#[]⟩⟩ ++ [] := by kernel_rfl
  rw [rrQ_of ⟨by decide, by simp [nrmP], I64_0, I64_0⟩ h]
  rfl
theorem ex_zero : rsV zp = .tuple #[.string ⟨#[]⟩, .int .i64 6] := rsV_no (by decide) (by decide)
set_option maxHeartbeats 1000000 in
set_option maxRecDepth 20000 in
theorem speaks_any (w : World) :
    Calls Tryz.prog 5 #[] w fun e w' => e = .returned (.bool true) ∧ Below w.heap.size w w' := by
  have C1 := hid (ask_any ⟨2, ⟨#[]⟩, 1, 0, -1⟩ w)
  rw [ex_ask] at C1
  have C2 := hid (fun w1 => readask_any ⟨#[4, 0]⟩ w1 (by decide))
  rw [ex_left, show rqV (zq, 22) = .tuple #[.agg #[.int .i64 0, .string ⟨#[]⟩, .int .i64 0, .int .i64 0, .int .i64 0], .int .i64 22] from rfl] at C2
  have C3 := hid (fun w1 => readreply_any ⟨#[5, 0, 0, 0, 60]⟩ w1 (by decide))
  rw [ex_rep, show rpV (⟨5, 60, false, 0, 0, ⟨#[]⟩⟩, 0) = .tuple #[.agg #[.int .i64 5, .int .i64 60, .bool false, .int .i64 0, .int .i64 0, .string ⟨#[]⟩], .int .i64 0] from rfl] at C3
  have C4 := hid (fun w1 => reply_any zp w1)
  rw [ex_zero] at C4
  have hE := fun w => p_eql 5 60 false 0 0 ⟨#[]⟩ w
  go_enter Tryz.func5, Tryz.ntmps5
  go_wp2_with fail
  refine C1.out.mono ?_
  rintro e w1 ⟨rfl, b1⟩
  go_wp2_with fail
  refine (C2.out w1).mono ?_
  rintro e w2 ⟨rfl, b2⟩
  go_wp2_with fail
  refine (C3.out w2).mono ?_
  rintro e w3 ⟨rfl, b3⟩
  have B3 := hid ((b1.trans (b2.mono b1.size)).trans (b3.mono (Nat.le_trans b1.size b2.size)))
  clear b1 b2 b3
  go_wp2_with fail
  have g4 : (w3.alloc (.cells #[.int .i64 5, .int .i64 60, .bool false, .int .i64 0, .int .i64 0, .string ⟨#[]⟩] 27)).heap[w3.heap.size]? = some (.cells #[.int .i64 5, .int .i64 60, .bool false, .int .i64 0, .int .i64 0, .string ⟨#[]⟩] 27 (0, 0)) := heap_new _ _
  have B4 := hid (B3.out.alloc B3.out.size (.cells #[.int .i64 5, .int .i64 60, .bool false, .int .i64 0, .int .i64 0, .string ⟨#[]⟩] 27))
  generalize w3.alloc (.cells #[.int .i64 5, .int .i64 60, .bool false, .int .i64 0, .int .i64 0, .string ⟨#[]⟩] 27) = w4 at *
  generalize w3.heap.size = G at *
  refine (C4.out w4).mono ?_
  rintro e w5 ⟨rfl, b5⟩
  have g5 : w5.heap[G]? = _ := (b5.block _ (lt_of_heap g4)).trans g4
  have c0 : w5.cell? ⟨G, 0, none⟩ = some (.int .i64 5) := (cell_of g5).trans rfl
  have c1 : w5.cell? ⟨G, 1, none⟩ = some (.int .i64 60) := (cell_of g5).trans rfl
  have c2 : w5.cell? ⟨G, 2, none⟩ = some (.bool false) := (cell_of g5).trans rfl
  have c3 : w5.cell? ⟨G, 3, none⟩ = some (.int .i64 0) := (cell_of g5).trans rfl
  have c4 : w5.cell? ⟨G, 4, none⟩ = some (.int .i64 0) := (cell_of g5).trans rfl
  have c5 : w5.cell? ⟨G, 5, none⟩ = some (.string ⟨#[]⟩) := (cell_of g5).trans rfl
  have B5 := hid (B4.out.trans (b5.mono B4.out.size))
  clear g4 g5 b5 B4 B3 C1 C2 C3 C4
  go_wp2_with fail
  go_ret
  exact ⟨rfl, B5.out⟩
end Go.Proofs.YtgdaaohlongmlaaGreat
namespace Go.Proofs.YtgdaaohlongmlaaGreat
open Go.RowKit
theorem raQ_cases (s : ByteArray) : (∃ r, raQ s = (r, 0)) ∨ ∃ E, E ≠ 0 ∧ raQ s = (zq, E) := by
  have h : (∃ E, E ≠ 0 ∧ raQ s = (zq, E)) ∨ ∃ r E, raQ s = finQ r E := by
    unfold raQ
    repeat' (first | exact Or.inl ⟨_, by decide, rfl⟩ | exact Or.inr ⟨_, _, rfl⟩ | split)
  rcases h with h | ⟨r, E, h⟩
  · exact Or.inr h
  · by_cases hE : E = 0
    · left; exact ⟨r, by rw [h]; unfold finQ; rw [if_pos hE]⟩
    · right; exact ⟨E, hE, by rw [h]; unfold finQ; rw [if_neg hE]⟩
theorem ite_P {α : Type} {P : α → Prop} {c : Prop} [Decidable c] {a b : α} (h1 : P a) (h2 : P b) : P (if c then a else b) := by split <;> assumption
def ShP (x : Rp × Nat) : Prop := (∃ E, E ≠ 0 ∧ x = (zp, E)) ∨ ∃ r E, x = finP r E
theorem rrQ_cases (s : ByteArray) : (∃ r, rrQ s = (r, 0)) ∨ ∃ E, E ≠ 0 ∧ rrQ s = (zp, E) := by
  have h : ShP (rrQ s) := by
    unfold rrQ
    repeat' (first | with_reducible refine ite_P (P := ShP) ?_ ?_ | exact Or.inl ⟨_, by decide, rfl⟩ | exact Or.inr ⟨_, _, rfl⟩)
  rcases h with h | ⟨r, E, h⟩
  · exact Or.inr h
  · by_cases hE : E = 0
    · left; exact ⟨r, by rw [h]; unfold finP; rw [if_pos hE]⟩
    · right; exact ⟨E, hE, by rw [h]; unfold finP; rw [if_neg hE]⟩
/-- What is read is written as it was. -/
theorem asV_of {s : ByteArray} {r : Rq} (h : raQ s = (r, 0)) : asV r = .tuple #[.string s, .int .i64 0] := by
  obtain ⟨⟨h1, _⟩, h2⟩ := raQ_0 h
  rw [asV_ok h1, ← h2, bs_bl]
theorem rsV_of {s : ByteArray} {r : Rp} (h : rrQ s = (r, 0)) : rsV r = .tuple #[.string s, .int .i64 0] := by
  obtain ⟨⟨h1, _⟩, h2⟩ := rrQ_0 h
  rw [rsV_ok h1, ← h2, bs_bl]
end Go.Proofs.YtgdaaohlongmlaaGreat
namespace Go.Proofs.YtgdaaohlongmlaaGreat
open Go.RowKit
theorem ret_bool {a b : Bool} (h : a = b) : Ending.returned (.bool a) = .returned (.bool b) := by rw [h]
/-- Both can be written, and their forms are the same. -/
def sameQ (a b : Rq) : Bool := decide (askE a = 0) && decide (askE b = 0) && ((askS a).toList == (askS b).toList)
def sameP (a b : Rp) : Bool := decide (repE a = 0) && decide (repE b = 0) && ((repS a).toList == (repS b).toList)
theorem sameQ_yes {a b : Rq} (h1 : askE a = 0) (h2 : askE b = 0) (h3 : askL a = askL b) : sameQ a b = true := by
  unfold sameQ askS
  rw [h1, h2, h3]; simp
theorem sameQ_no {a b : Rq} (h1 : askE a ≠ 0) : sameQ a b = false := by unfold sameQ; rw [decide_eq_false h1]; rfl
theorem sameP_yes {a b : Rp} (h1 : repE a = 0) (h2 : repE b = 0) (h3 : repL a = repL b) : sameP a b = true := by
  unfold sameP repS
  rw [h1, h2, h3]; simp
theorem sameP_no {a b : Rp} (h1 : repE a ≠ 0) : sameP a b = false := by unfold sameP; rw [decide_eq_false h1]; rfl
set_option maxHeartbeats 1000000 in
set_option maxRecDepth 20000 in
theorem sameask_any (a b : Rq) (w : World) :
    Calls Tryz.prog 10 #[.agg a.c, .agg b.c] w fun e w' => e = .returned (.bool (sameQ a b)) ∧ Below w.heap.size w w' := by
  have C1 := hid (fun w1 => ask_any a w1)
  have C2 := hid (fun w1 => ask_any b w1)
  obtain ⟨k, d, o, t, m⟩ := a
  obtain ⟨k2, d2, o2, t2, m2⟩ := b
  show Calls Tryz.prog 10 #[.agg #[.int .i64 k, .string d, .int .i64 o, .int .i64 t, .int .i64 m], .agg #[.int .i64 k2, .string d2, .int .i64 o2, .int .i64 t2, .int .i64 m2]] w _
  unfold sameQ
  unfold asV at C1 C2
  generalize askE ⟨k, d, o, t, m⟩ = E1 at *
  generalize askE ⟨k2, d2, o2, t2, m2⟩ = E2 at *
  generalize askS ⟨k, d, o, t, m⟩ = S1 at *
  generalize askS ⟨k2, d2, o2, t2, m2⟩ = S2 at *
  have g1 : ((w.alloc (.cells #[.int .i64 k, .string d, .int .i64 o, .int .i64 t, .int .i64 m] 24)).alloc (.cells #[.int .i64 k2, .string d2, .int .i64 o2, .int .i64 t2, .int .i64 m2] 24)).heap[w.heap.size + 1]? = some (.cells #[.int .i64 k2, .string d2, .int .i64 o2, .int .i64 t2, .int .i64 m2] 24 (0, 0)) := heap_new' _ _ _ (by simp)
  have g0 : ((w.alloc (.cells #[.int .i64 k, .string d, .int .i64 o, .int .i64 t, .int .i64 m] 24)).alloc (.cells #[.int .i64 k2, .string d2, .int .i64 o2, .int .i64 t2, .int .i64 m2] 24)).heap[w.heap.size]? = some (.cells #[.int .i64 k, .string d, .int .i64 o, .int .i64 t, .int .i64 m] 24 (0, 0)) := heap_alloc_at (heap_new _ _)
  have b0 : Below w.heap.size w ((w.alloc (.cells #[.int .i64 k, .string d, .int .i64 o, .int .i64 t, .int .i64 m] 24)).alloc (.cells #[.int .i64 k2, .string d2, .int .i64 o2, .int .i64 t2, .int .i64 m2] 24)) := ((Below.refl _ _).alloc (Nat.le_refl _) _).alloc (by simp) _
  go_enter Tryz.func10, Tryz.ntmps10
  go_wp2_with fail
  generalize (w.alloc (.cells #[.int .i64 k, .string d, .int .i64 o, .int .i64 t, .int .i64 m] 24)).alloc (.cells #[.int .i64 k2, .string d2, .int .i64 o2, .int .i64 t2, .int .i64 m2] 24) = w0 at *
  refine (C1.out w0).mono ?_
  rintro e w1 ⟨rfl, b1⟩
  have g2 : w1.heap[w.heap.size + 1]? = _ := (b1.block _ (lt_of_heap g1)).trans g1
  have c0 : w1.cell? ⟨w.heap.size + 1, 0, none⟩ = some (.int .i64 k2) := (cell_of g2).trans rfl
  have c1 : w1.cell? ⟨w.heap.size + 1, 1, none⟩ = some (.string d2) := (cell_of g2).trans rfl
  have c2 : w1.cell? ⟨w.heap.size + 1, 2, none⟩ = some (.int .i64 o2) := (cell_of g2).trans rfl
  have c3 : w1.cell? ⟨w.heap.size + 1, 3, none⟩ = some (.int .i64 t2) := (cell_of g2).trans rfl
  have c4 : w1.cell? ⟨w.heap.size + 1, 4, none⟩ = some (.int .i64 m2) := (cell_of g2).trans rfl
  have B1 := hid (b0.trans (b1.mono b0.size))
  clear g0 g1 g2 b0 b1
  go_wp2_with fail
  refine (C2.out w1).mono ?_
  rintro e w2 ⟨rfl, b2⟩
  have B2 := hid (B1.out.trans (b2.mono B1.out.size))
  clear B1 b2 c0 c1 c2 c3 c4 C1 C2
  by_cases h1 : E1 = 0
  · subst h1
    by_cases h2 : E2 = 0
    · subst h2
      go_wp2_with fail
      go_ret
      exact ⟨ret_bool (by simp), B2.out⟩
    · have hb : ((E2 : Int) == 0) = false := by rw [beq_eq_false_iff_ne]; omega
      go_wp2_with fail
      go_ret
      exact ⟨ret_bool (by simp), B2.out⟩
  · have hb : ((E1 : Int) == 0) = false := by rw [beq_eq_false_iff_ne]; omega
    go_wp2_with fail
    go_ret
    exact ⟨ret_bool (by simp [h1]), B2.out⟩
set_option maxHeartbeats 1000000 in
set_option maxRecDepth 20000 in
theorem samereply_any (a a2 : Rp) (w : World) :
    Calls Tryz.prog 12 #[.agg a.c, .agg a2.c] w fun e w' => e = .returned (.bool (sameP a a2)) ∧ Below w.heap.size w w' := by
  have C1 := hid (fun w1 => reply_any a w1)
  have C2 := hid (fun w1 => reply_any a2 w1)
  obtain ⟨k, r, b, o, n, d⟩ := a
  obtain ⟨k2, r2, bb2, o2, n2, d2⟩ := a2
  show Calls Tryz.prog 12 #[.agg #[.int .i64 k, .int .i64 r, .bool b, .int .i64 o, .int .i64 n, .string d], .agg #[.int .i64 k2, .int .i64 r2, .bool bb2, .int .i64 o2, .int .i64 n2, .string d2]] w _
  unfold sameP
  unfold rsV at C1 C2
  generalize repE ⟨k, r, b, o, n, d⟩ = E1 at *
  generalize repE ⟨k2, r2, bb2, o2, n2, d2⟩ = E2 at *
  generalize repS ⟨k, r, b, o, n, d⟩ = S1 at *
  generalize repS ⟨k2, r2, bb2, o2, n2, d2⟩ = S2 at *
  have g1 : ((w.alloc (.cells #[.int .i64 k, .int .i64 r, .bool b, .int .i64 o, .int .i64 n, .string d] 27)).alloc (.cells #[.int .i64 k2, .int .i64 r2, .bool bb2, .int .i64 o2, .int .i64 n2, .string d2] 27)).heap[w.heap.size + 1]? = some (.cells #[.int .i64 k2, .int .i64 r2, .bool bb2, .int .i64 o2, .int .i64 n2, .string d2] 27 (0, 0)) := heap_new' _ _ _ (by simp)
  have g0 : ((w.alloc (.cells #[.int .i64 k, .int .i64 r, .bool b, .int .i64 o, .int .i64 n, .string d] 27)).alloc (.cells #[.int .i64 k2, .int .i64 r2, .bool bb2, .int .i64 o2, .int .i64 n2, .string d2] 27)).heap[w.heap.size]? = some (.cells #[.int .i64 k, .int .i64 r, .bool b, .int .i64 o, .int .i64 n, .string d] 27 (0, 0)) := heap_alloc_at (heap_new _ _)
  have b0 : Below w.heap.size w ((w.alloc (.cells #[.int .i64 k, .int .i64 r, .bool b, .int .i64 o, .int .i64 n, .string d] 27)).alloc (.cells #[.int .i64 k2, .int .i64 r2, .bool bb2, .int .i64 o2, .int .i64 n2, .string d2] 27)) := ((Below.refl _ _).alloc (Nat.le_refl _) _).alloc (by simp) _
  go_enter Tryz.func12, Tryz.ntmps12
  go_wp2_with fail
  generalize (w.alloc (.cells #[.int .i64 k, .int .i64 r, .bool b, .int .i64 o, .int .i64 n, .string d] 27)).alloc (.cells #[.int .i64 k2, .int .i64 r2, .bool bb2, .int .i64 o2, .int .i64 n2, .string d2] 27) = w0 at *
  refine (C1.out w0).mono ?_
  rintro e w1 ⟨rfl, b1⟩
  have g2 : w1.heap[w.heap.size + 1]? = _ := (b1.block _ (lt_of_heap g1)).trans g1
  have c0 : w1.cell? ⟨w.heap.size + 1, 0, none⟩ = some (.int .i64 k2) := (cell_of g2).trans rfl
  have c1 : w1.cell? ⟨w.heap.size + 1, 1, none⟩ = some (.int .i64 r2) := (cell_of g2).trans rfl
  have c2 : w1.cell? ⟨w.heap.size + 1, 2, none⟩ = some (.bool bb2) := (cell_of g2).trans rfl
  have c3 : w1.cell? ⟨w.heap.size + 1, 3, none⟩ = some (.int .i64 o2) := (cell_of g2).trans rfl
  have c4 : w1.cell? ⟨w.heap.size + 1, 4, none⟩ = some (.int .i64 n2) := (cell_of g2).trans rfl
  have c5 : w1.cell? ⟨w.heap.size + 1, 5, none⟩ = some (.string d2) := (cell_of g2).trans rfl
  have B1 := hid (b0.trans (b1.mono b0.size))
  clear g0 g1 g2 b0 b1
  go_wp2_with fail
  refine (C2.out w1).mono ?_
  rintro e w2 ⟨rfl, b2⟩
  have B2 := hid (B1.out.trans (b2.mono B1.out.size))
  clear B1 b2 c0 c1 c2 c3 c4 c5 C1 C2
  by_cases h1 : E1 = 0
  · subst h1
    by_cases h2 : E2 = 0
    · subst h2
      go_wp2_with fail
      go_ret
      exact ⟨ret_bool (by simp), B2.out⟩
    · have hb : ((E2 : Int) == 0) = false := by rw [beq_eq_false_iff_ne]; omega
      go_wp2_with fail
      go_ret
      exact ⟨ret_bool (by simp), B2.out⟩
  · have hb : ((E1 : Int) == 0) = false := by rw [beq_eq_false_iff_ne]; omega
    go_wp2_with fail
    go_ret
    exact ⟨ret_bool (by simp [h1]), B2.out⟩
end Go.Proofs.YtgdaaohlongmlaaGreat
namespace Go.Proofs.YtgdaaohlongmlaaGreat
open Go.RowKit
theorem askL_byte (r : Rq) : ∀ b ∈ askL r, b < 256 := by
  intro b hb
  unfold askL askB at hb
  rcases List.mem_append.1 hb with h | h
  · exact nb_byte _ _ b h
  · split at h
    · rcases List.mem_append.1 h with h | h
      · exact nb_byte _ _ b h
      · exact bl_byte _ b h
    · split at h
      · rcases List.mem_append.1 h with h | h
        · exact nb_byte _ _ b h
        · exact nb_byte _ _ b h
      · split at h
        · exact nb_byte _ _ b h
        · split at h
          · exact nb_byte _ _ b h
          · cases h
theorem repL_byte (r : Rp) : ∀ b ∈ repL r, b < 256 := by
  intro b hb
  unfold repL repB at hb
  rcases List.mem_append.1 hb with h | h
  · rcases List.mem_append.1 h with h | h
    · exact nb_byte _ _ b h
    · exact nb_byte _ _ b h
  · split at h
    · split at h
      · rcases List.mem_append.1 h with h | h
        · exact nb_byte _ _ b h
        · exact nb_byte _ _ b h
      · split at h
        · rcases List.mem_append.1 h with h | h
          · exact nb_byte _ _ b h
          · rcases List.mem_append.1 h with h | h
            · exact nb_byte _ _ b h
            · exact bl_byte _ b h
        · split at h
          · exact nb_byte _ _ b h
          · split at h
            · exact nb_byte _ _ b h
            · split at h
              · exact nb_byte _ _ b h
              · split at h
                · rcases List.mem_append.1 h with h | h
                  · exact nb_byte _ _ b h
                  · exact nb_byte _ _ b h
                · cases h
    · cases h
theorem askL_len {r : Rq} (h : askE r = 0) : 1 ≤ (askL r).length ∧ (askL r).length ≤ 16777300 := by
  obtain ⟨h1, h2⟩ := askE_0 h
  unfold askL askB
  rw [List.length_append, nb_len]
  split
  · rename_i hk; have := h2 hk; rw [List.length_append, nb_len, bl_len]; omega
  · split
    · rw [List.length_append, nb_len, nb_len]; omega
    · split
      · rw [nb_len]; omega
      · split
        · rw [nb_len]; omega
        · simp
theorem repL_len {r : Rp} (h : repE r = 0) : 1 ≤ (repL r).length ∧ (repL r).length ≤ 1073741900 := by
  obtain ⟨h1, _, h2⟩ := repE_0 h
  unfold repL repB
  rw [List.length_append, List.length_append, nb_len, nb_len]
  split
  · rename_i hr
    split
    · rw [List.length_append, nb_len, nb_len]; omega
    · split
      · rename_i hk; have := h2 hr hk; rw [List.length_append, List.length_append, nb_len, nb_len, bl_len]; omega
      · split
        · rw [nb_len]; omega
        · split
          · rw [nb_len]; omega
          · split
            · rw [nb_len]; omega
            · split
              · rw [List.length_append, nb_len, nb_len]; omega
              · simp
  · simp
theorem size_bs (l : List Nat) : (bs l).size = l.length := by unfold bs; simp [ByteArray.size]
theorem askS_size (r : Rq) : (askS r).size ≤ 9223372036854775807 := by
  unfold askS
  split
  · rename_i h; rw [size_bs]; have := askL_len h; omega
  · decide
theorem repS_size (r : Rp) : (repS r).size ≤ 9223372036854775807 := by
  unfold repS
  split
  · rename_i h; rw [size_bs]; have := repL_len h; omega
  · decide
theorem nrm_nrm (r : Rq) : nrm (nrm r) = nrm r := by
  unfold nrm
  dsimp only
  by_cases h1 : r.k = 1
  · simp [h1]
  · by_cases h2 : r.k = 2
    · simp [h2]
    · by_cases h3 : r.k = 3
      · simp [h3]
      · by_cases h5 : r.k = 5
        · simp [h5]
        · simp [h1, h2, h3, h5]
theorem nrmP_nrmP (r : Rp) : nrmP (nrmP r) = nrmP r := by
  unfold nrmP
  dsimp only
  simp only [Rp.mk.injEq, true_and]
  refine ⟨?_, ?_, ?_, ?_⟩ <;> (split <;> rfl)
theorem Gq_nrm {r : Rq} (h : askE r = 0) (ho : I64 r.o) (ht : I64 r.t) (hm : I64 r.m) : Gq (nrm r) := by
  refine ⟨by rw [askE_nrm]; exact h, nrm_nrm r, ?_, ?_, ?_⟩ <;> (unfold nrm; dsimp only; split)
  · exact ho
  · exact I64_0
  · exact ht
  · exact I64_0
  · exact hm
  · exact I64_0
theorem Gp_nrm {r : Rp} (h : repE r = 0) (ho : I64 r.o) (hn : I64 r.n) : Gp (nrmP r) := by
  refine ⟨by rw [repE_nrm]; exact h, nrmP_nrmP r, ?_, ?_⟩ <;> (unfold nrmP; dsimp only; split)
  · exact ho
  · exact I64_0
  · exact hn
  · exact I64_0
theorem ra_ask {r : Rq} (h : askE r = 0) (ho : I64 r.o) (ht : I64 r.t) (hm : I64 r.m) : raQ (askS r) = (nrm r, 0) := by
  have e : askS r = bs (askL r) := by unfold askS; rw [if_pos h]
  have h2 : bl (askS r) = askL (nrm r) ++ [] := by rw [e, bl_bs _ (askL_byte r), askL_nrm, List.append_nil]
  rw [raQ_of (Gq_nrm h ho ht hm) h2]; rfl
theorem ra_rep {r : Rp} (h : repE r = 0) (ho : I64 r.o) (hn : I64 r.n) : rrQ (repS r) = (nrmP r, 0) := by
  have e : repS r = bs (repL r) := by unfold repS; rw [if_pos h]
  have h2 : bl (repS r) = repL (nrmP r) ++ [] := by rw [e, bl_bs _ (repL_byte r), repL_nrm, List.append_nil]
  rw [rrQ_of (Gp_nrm h ho hn) h2]; rfl
theorem asV_nrm (r : Rq) : asV (nrm r) = asV r := by
  unfold asV askS
  rw [askE_nrm, askL_nrm]
theorem rsV_nrm (r : Rp) : rsV (nrmP r) = rsV r := by
  unfold rsV repS
  rw [repE_nrm, repL_nrm]
end Go.Proofs.YtgdaaohlongmlaaGreat
