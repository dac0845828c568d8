/- The conditions: the list of closures, and each of them. -/
import Derived.Test.YtlbkkeoffeohnabGa1
import Derived.LoopN
namespace Go.Proofs.Ytlbkkeoffeohnab
open Go.RowKit
/-- A closure that has caught the bounds' box. -/
abbrev cfn (n bb : Nat) : Value := .func (.func n) #[] #[.pointer (some ⟨bb, 0, none⟩)]
/-- The bounds' box and the conditions' row. -/
structure Cnd (w : World) (jb bb : Nat) (b : Bnd) : Prop where
  box : w.heap[bb]? = some (.cells #[.int .i64 b.R, .int .i64 b.P, .int .i64 b.F, .int .i64 b.sp, .bool b.pk, .int .i64 b.pr, .int .i32 b.sq] 35 (0, 0))
  row : w.heap[jb]? = some (.cells #[cfn 27 bb, cfn 28 bb, .func (.func 30) #[] #[], cfn 31 bb, cfn 32 bb] 69 (0, 0))
set_option maxRecDepth 20000 in
theorem conditions_any (b : Bnd) (w : World) : Calls Try.prog 21 #[bndV b] w fun e w' => e = .returned (.slice (some ⟨w.heap.size + 1, 0, none⟩) 5 5) ∧ Cnd w' (w.heap.size + 1) w.heap.size b ∧ Below w.heap.size w w' := by
  obtain ⟨R, P, F, sp, pk, pr, sq⟩ := b
  unfold bndV
  go_enter Try.func21, Try.ntmps21
  go_wp2_with fail
  go_ret
  refine ⟨rfl, ⟨?_, ?_⟩, ((Below.refl _ w).alloc (Nat.le_refl _) _).alloc (by simp) _⟩
  · exact heap_alloc_at (heap_new _ _)
  · exact heap_new' _ _ _ (by simp)
/-- What a record offers. -/
structure Ofr where
  n : Nat
  first : Int
  t : Int
  e : Nat
  body : Int
def ofrV (o : Ofr) : Value := .agg #[.int .i64 o.n, .int .i64 o.first, .int .i64 o.t, .int .i64 o.e, .int .i64 o.body]
structure OfrIn (o : Ofr) : Prop where
  n : o.n ≤ 1000000000
  first : I64 o.first
  t : I64 o.t
  e : o.e ≤ 1000
  body : 0 ≤ o.body ∧ o.body ≤ 1000000000
theorem belN {w x : World} {B k : Nat} (h : Below B w x) : Below B w (x.drewN k) := ⟨h.1, h.2, h.3, h.4, h.5⟩
theorem beq_nat (e : Nat) : ((e : Int) == 0) = decide (e = 0) := by
  by_cases h : e = 0
  · subst h; rfl
  · rw [decide_eq_false h]; exact beq_eq_false_iff_ne.2 (by omega)
theorem Cnd.below {w w' : World} {jb bb : Nat} {b : Bnd} (h : Cnd w jb bb b) (k : Below w.heap.size w w') : Cnd w' jb bb b :=
  ⟨(k.block bb (lt_of_heap h.box)).trans h.box, (k.block jb (lt_of_heap h.row)).trans h.row⟩
theorem Cnd.cells {w : World} {jb bb : Nat} {b : Bnd} (h : Cnd w jb bb b) : w.cell? ⟨jb, 0, none⟩ = some (cfn 27 bb) ∧ w.cell? ⟨jb, 1, none⟩ = some (cfn 28 bb) ∧ w.cell? ⟨jb, 2, none⟩ = some (.func (.func 30) #[] #[]) ∧ w.cell? ⟨jb, 3, none⟩ = some (cfn 31 bb) ∧ w.cell? ⟨jb, 4, none⟩ = some (cfn 32 bb) :=
  ⟨(cell_of h.row).trans rfl, (cell_of h.row).trans rfl, (cell_of h.row).trans rfl, (cell_of h.row).trans rfl, (cell_of h.row).trans rfl⟩
set_option maxRecDepth 20000 in
theorem c1_any (o : Ofr) (b : Bnd) (jb bb : Nat) (w : World) (h : Cnd w jb bb b) (ok : BndOk b) (ho : OfrIn o) : Calls Try.prog 27 #[ofrV o, .pointer (some ⟨bb, 0, none⟩)] w fun e w' => e = .returned (.bool (decide ((o.n : Int) < b.R))) ∧ Below w.heap.size w w' := by
  obtain ⟨n, first, t, e, body⟩ := o
  obtain ⟨o1, ⟨o2, o2'⟩, ⟨o3, o3'⟩, o4, o5, o5'⟩ := ho
  obtain ⟨R, P, F, sp, pk, pr, sq⟩ := b
  obtain ⟨⟨b1, b1'⟩, ⟨b2, b2'⟩, ⟨b3, b3'⟩, ⟨b4, b4'⟩, _, _⟩ := ok
  have c0 : w.cell? ⟨bb, 0, none⟩ = some (.int .i64 R) := (cell_of h.box).trans rfl
  have hlt := lt_of_heap h.box
  have hba : Below w.heap.size w (w.alloc (.cells #[.int .i64 n, .int .i64 first, .int .i64 t, .int .i64 e, .int .i64 body] 57)) := (Below.refl _ w).alloc (Nat.le_refl _) _
  clear h
  unfold ofrV
  dsimp only at *
  go_enter Try.func27, Try.ntmps27
  go_wp2_with fail
  go_ret
  exact ⟨rfl, hba⟩
set_option maxRecDepth 20000 in
theorem c2_any (o : Ofr) (b : Bnd) (jb bb : Nat) (w : World) (h : Cnd w jb bb b) (ok : BndOk b) (ho : OfrIn o) : Calls Try.prog 28 #[ofrV o, .pointer (some ⟨bb, 0, none⟩)] w fun e w' => e = .returned (.bool (decide (dst o.t o.first ≤ b.sp))) ∧ Below w.heap.size w w' := by
  obtain ⟨n, first, t, e, body⟩ := o
  obtain ⟨o1, ⟨o2, o2'⟩, ⟨o3, o3'⟩, o4, o5, o5'⟩ := ho
  obtain ⟨R, P, F, sp, pk, pr, sq⟩ := b
  obtain ⟨⟨b1, b1'⟩, ⟨b2, b2'⟩, ⟨b3, b3'⟩, ⟨b4, b4'⟩, _, _⟩ := ok
  have c0 : w.cell? ⟨bb, 3, none⟩ = some (.int .i64 sp) := (cell_of h.box).trans rfl
  have HC : Hid (∀ w, Calls Try.prog 29 #[.int .i64 t, .int .i64 first] w fun e w' => e = .returned (.int .u64 (dst t first)) ∧ w' = w) := fun w => dist_any t first w ⟨o3, o3'⟩ ⟨o2, o2'⟩
  have hd : 0 ≤ dst t first ∧ dst t first ≤ 18446744073709551615 := by unfold dst; dsimp only at *; split <;> omega
  dsimp only at *
  generalize dst t first = D at *
  have hlt := lt_of_heap h.box
  have hba : Below w.heap.size w (w.alloc (.cells #[.int .i64 n, .int .i64 first, .int .i64 t, .int .i64 e, .int .i64 body] 57)) := (Below.refl _ w).alloc (Nat.le_refl _) _
  clear h
  unfold ofrV
  dsimp only at *
  go_enter Try.func28, Try.ntmps28
  go_wp2_with fail
  go_quiet ((go_at_call 29; exact Calls.quiet_of_same (HC.out _)))
  go_wp2_with fail
  go_ret
  exact ⟨rfl, belN hba⟩
set_option maxRecDepth 20000 in
theorem c3_any (o : Ofr) (b : Bnd) (jb bb : Nat) (w : World) (h : Cnd w jb bb b) (ok : BndOk b) (ho : OfrIn o) : Calls Try.prog 30 #[ofrV o] w fun e w' => e = .returned (.bool (decide (o.e = 0))) ∧ Below w.heap.size w w' := by
  obtain ⟨n, first, t, e, body⟩ := o
  obtain ⟨o1, ⟨o2, o2'⟩, ⟨o3, o3'⟩, o4, o5, o5'⟩ := ho
  obtain ⟨R, P, F, sp, pk, pr, sq⟩ := b
  obtain ⟨⟨b1, b1'⟩, ⟨b2, b2'⟩, ⟨b3, b3'⟩, ⟨b4, b4'⟩, _, _⟩ := ok
  have hlt := lt_of_heap h.box
  have hba : Below w.heap.size w (w.alloc (.cells #[.int .i64 n, .int .i64 first, .int .i64 t, .int .i64 e, .int .i64 body] 57)) := (Below.refl _ w).alloc (Nat.le_refl _) _
  clear h
  unfold ofrV
  dsimp only at *
  go_enter Try.func30, Try.ntmps30
  go_wp2_with fail
  go_ret
  exact ⟨congrArg (fun b => Ending.returned (.bool b)) (beq_nat e), hba⟩
set_option maxRecDepth 20000 in
theorem c4_any (o : Ofr) (b : Bnd) (jb bb : Nat) (w : World) (h : Cnd w jb bb b) (ok : BndOk b) (ho : OfrIn o) : Calls Try.prog 31 #[ofrV o, .pointer (some ⟨bb, 0, none⟩)] w fun e w' => e = .returned (.bool (decide (o.body ≤ b.P))) ∧ Below w.heap.size w w' := by
  obtain ⟨n, first, t, e, body⟩ := o
  obtain ⟨o1, ⟨o2, o2'⟩, ⟨o3, o3'⟩, o4, o5, o5'⟩ := ho
  obtain ⟨R, P, F, sp, pk, pr, sq⟩ := b
  obtain ⟨⟨b1, b1'⟩, ⟨b2, b2'⟩, ⟨b3, b3'⟩, ⟨b4, b4'⟩, _, _⟩ := ok
  have c0 : w.cell? ⟨bb, 1, none⟩ = some (.int .i64 P) := (cell_of h.box).trans rfl
  have hlt := lt_of_heap h.box
  have hba : Below w.heap.size w (w.alloc (.cells #[.int .i64 n, .int .i64 first, .int .i64 t, .int .i64 e, .int .i64 body] 57)) := (Below.refl _ w).alloc (Nat.le_refl _) _
  clear h
  unfold ofrV
  dsimp only at *
  go_enter Try.func31, Try.ntmps31
  go_wp2_with fail
  go_ret
  exact ⟨rfl, hba⟩
set_option maxRecDepth 20000 in
theorem c5_any (o : Ofr) (b : Bnd) (jb bb : Nat) (w : World) (h : Cnd w jb bb b) (ok : BndOk b) (ho : OfrIn o) (hP : o.body ≤ 16777216) : Calls Try.prog 32 #[ofrV o, .pointer (some ⟨bb, 0, none⟩)] w fun e w' => e = .returned (.bool (decide (roomZ b.pk o.body ≤ b.F))) ∧ Below w.heap.size w w' := by
  obtain ⟨n, first, t, e, body⟩ := o
  obtain ⟨o1, ⟨o2, o2'⟩, ⟨o3, o3'⟩, o4, o5, o5'⟩ := ho
  obtain ⟨R, P, F, sp, pk, pr, sq⟩ := b
  obtain ⟨⟨b1, b1'⟩, ⟨b2, b2'⟩, ⟨b3, b3'⟩, ⟨b4, b4'⟩, _, _⟩ := ok
  have c0 : w.cell? ⟨bb, 2, none⟩ = some (.int .i64 F) := (cell_of h.box).trans rfl
  have c1 : w.cell? ⟨bb, 4, none⟩ = some (.bool pk) := (cell_of h.box).trans rfl
  have HC : Hid (∀ w, Calls Try.prog 33 #[.int .i64 body, .bool pk] w fun e w' => e = .returned (.int .i64 (roomZ pk body)) ∧ w' = w) := fun w => room_any body pk w ⟨o5, by dsimp only at *; omega⟩
  generalize roomZ pk body = D at *
  have hlt := lt_of_heap h.box
  have hba : Below w.heap.size w (w.alloc (.cells #[.int .i64 n, .int .i64 first, .int .i64 t, .int .i64 e, .int .i64 body] 57)) := (Below.refl _ w).alloc (Nat.le_refl _) _
  clear h
  unfold ofrV
  dsimp only at *
  go_enter Try.func32, Try.ntmps32
  go_wp2_with fail
  go_quiet ((go_at_call 33; exact Calls.quiet_of_same (HC.out _)))
  go_wp2_with fail
  go_ret
  exact ⟨rfl, belN hba⟩
end Go.Proofs.Ytlbkkeoffeohnab
