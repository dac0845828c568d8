/- A row that grows by noughts; rows of numbers that are written over. -/
import Derived.Test.YtolobmhbmajolaaPk1
import Derived.Test.YtolobmhbmajolaaPj4
import Derived.Laws.CopyOwn
namespace Go.Proofs.Ytolobmhbmajolaa
open Go.RowKit
theorem zc_one (n : Nat) : ∀ u ∈ (Builtin.zeroCells #[.int .i64 0, .int .i64 0, .bool false, .int .i64 0, .int .i64 0, .int .i64 0, .int .i64 0, .int .i32 0] n).toList, u.oneCell' = true := by
  intro u hu
  rw [Array.mem_toList_iff] at hu
  unfold Builtin.zeroCells at hu
  obtain ⟨i, _, rfl⟩ := Array.mem_map.1 hu
  have hm : i % 8 = 0 ∨ i % 8 = 1 ∨ i % 8 = 2 ∨ i % 8 = 3 ∨ i % 8 = 4 ∨ i % 8 = 5 ∨ i % 8 = 6 ∨ i % 8 = 7 := by omega
  show (#[Value.int .i64 0, .int .i64 0, .bool false, .int .i64 0, .int .i64 0, .int .i64 0, .int .i64 0, .int .i32 0][i % 8]!).oneCell' = true
  rcases hm with h | h | h | h | h | h | h | h <;> rw [h] <;> rfl
theorem append20 (w : World) (g n cap : Nat) (L : List Hd) (hn : n ≤ 5) (h : OwH w 0 (.slice (some ⟨g, 0, none⟩) n cap) L) (hL : L.length = n) :
    ∃ v w', (Builtin.append_ #[35, 3] 35 #[.slice (some ⟨g, 0, none⟩) n cap, .int .i64 20]).run Try.prog w = .ok v w' ∧ Ch (fun i => i = g) w w' := by
  obtain ⟨i0, hi, hz0, hz1, hz2⟩ := info_parts Try.infoH
  have hr : w.ownsRow 0 29 8 (.slice (some ⟨g, 0, none⟩) n cap) L.length (hvs L) := h
  rw [hL] at hr
  obtain ⟨cur, hg, h1, h2, h3, h4⟩ : ∃ cur, w.heap[g]? = some (.cells cur 29 (0, 0)) ∧ n ≤ cap ∧ cap ≤ maxLen ∧ cur.size = cap * 8 ∧ cur.toList.take (n * 8) = hvs L := by
    rcases hr.2 with ⟨e, _⟩ | ⟨g', cap', cur, e, _, hh, k1, k2, k3, k4⟩
    · cases e
    · cases e
      exact ⟨cur, hh, k1, k2, k3, k4⟩
  have u3 : Try.prog.underlying 3 = some (.int .i64) := Try.underlying3
  have w20 : IntKind.i64.wrap 20 = 20 := rfl
  by_cases hroom : n + 20 ≤ cap
  · have hst := run_storeCells_at Try.prog g (n * 8) 29 (Builtin.zeroCells #[.int .i64 0, .int .i64 0, .bool false, .int .i64 0, .int .i64 0, .int .i64 0, .int .i64 0, .int .i32 0] 20).toList 0 cur w hg (by
      rw [Array.length_toList, size_zeroCells]
      show n * 8 + 0 + 20 * 8 ≤ cur.size
      omega) (zc_one 20)
    simp only [Nat.add_zero] at hst
    refine ⟨.slice (some ⟨g, 0, none⟩) (n + 20) cap, w.setRow g (cur.toList.take (n * 8) ++ (Builtin.zeroCells #[.int .i64 0, .int .i64 0, .bool false, .int .i64 0, .int .i64 0, .int .i64 0, .int .i64 0, .int .i32 0] 20).toList ++ cur.toList.drop (n * 8 + (Builtin.zeroCells #[.int .i64 0, .int .i64 0, .bool false, .int .i64 0, .int .i64 0, .int .i64 0, .int .i64 0, .int .i32 0] 20).toList.length)).toArray, ?_, ?_⟩
    · simp [Builtin.append_, run_underlying Try.underlying35, run_underlying u3, sizeOf, typeInfo, zeroValue, hi, hz0, hz1, hz2, asInt, asIntOf, w20, hroom, Addr.add_lit, hst, Value.cells]
    · exact ⟨rfl, rfl, rfl, by simp [World.setRow], fun k hk hs => setRow_other w g k _ hs⟩
  · have hn' : ¬ (n + 20 ≤ cap) := hroom
    have h48' : ¬ (281474976710656 < Builtin.nextslicecap (n + 20) cap * 64) := by
      have h1 := nextslicecap_le (need := n + 20) (old := cap) (by omega)
      omega
    have hfo := run_firstCells_some (P := Try.prog) w.drew 8 n ⟨g, 0, none⟩ n cap (hvs L) (by rw [hvs_len, hL]) (by
      intro j u hj
      have hjl : j < n * 8 := by
        rcases Nat.lt_or_ge j (hvs L).length with h1 | h1
        · rw [hvs_len, hL] at h1; exact h1
        · rw [List.getElem?_eq_none h1] at hj; cases hj
      rw [Go.WideShapes.add_plain, Nat.zero_add]
      exact (hr.cellAt j hjl).trans hj)
    obtain ⟨C, hC⟩ : ∃ C, (Builtin.append_ #[35, 3] 35 #[.slice (some ⟨g, 0, none⟩) n cap, .int .i64 20]).run Try.prog w = .ok (.slice (some ⟨w.heap.size, 0, none⟩) (n + 20) (grownCap w (n + 20) cap 29)) (w.drew.alloc (.cells C 29)) := by
      refine ⟨?C, ?h⟩
      rotate_left
      · simp [Builtin.append_, run_underlying Try.underlying35, run_underlying u3, sizeOf, typeInfo, zeroValue, hi, hz0, hz1, hz2, asInt, asIntOf, w20, hn', h48', Question.forced, hfo, newRow, grownCap]
        rw [if_neg (by omega)]
    exact ⟨_, _, hC, ((Ch.refl (fun i => i = g) w).drew).alloc _⟩
/-- An append whose run is known. -/
theorem wpList_append_run {P : Program} {w w' : World} {ops : Array Oper} {rest : List Oper} {o : Oper} {a : Act} {Q : Exit → Act → World → Prop} (hgd : o.guard = none) (s x : Operand) (t u : TypeId)
    (ho : o.op = .call { callee := .builtin .append, args := #[s, x], argTypes := #[t, u] }) (v y v' : Value) (hs : a.eval s = v) (hx : a.eval x = y)
    (hrun : (Builtin.append_ #[t, u] o.type #[v, y]).run P w = .ok v' w') (h : wpList P ops Q rest (a.put o.dst v') w') : wpList P ops Q (o :: rest) a w := by
  refine wpList_plain hgd fun K hK => ?_
  unfold Oper.wp
  simp [execOp, ho, resolve, invoke, builtin, hs, hx, hrun, Result.andThen]
  exact hK _ _ h
/-- A block that may be anything. -/
def Emp (g : Nat) : Res := fun y S => g < y.heap.size ∧ S = fun i => i = g
theorem Emp.stab (g : Nat) : Stab (Emp g) where
  keep := fun {y y' T S} h hc hS => by
    obtain ⟨h1, rfl⟩ := h
    exact ⟨Nat.lt_of_lt_of_le h1 hc.size, rfl⟩
  lt := fun {y S} h i hi => by
    obtain ⟨h1, rfl⟩ := h
    have e : i = g := hi
    omega
theorem In.rough {w : World} {H g n cap : Nat} {L : List Hd} {R : Res} (hR : Stab R) {y y' : World} (h : In w H (Sep (Rw g n cap L) R) y) (hc : Ch (fun i => i = g) y y') : In w H (Sep (Emp g) R) y' := by
  refine h.step ?_
  rintro S ⟨S1, S2, h1, h2, h3, h4⟩
  have hlt := (Rw.stab g n cap L).lt h1
  obtain ⟨k1, k2, rfl⟩ := h1
  exact Step.left hR h2 h3 h4 ⟨_, ⟨Nat.lt_of_lt_of_le (hlt g rfl) hc.size, rfl⟩, hc, fun _ hi => Or.inl hi⟩
/-- A row of numbers of one's own, as a thing. -/
def Ri (g n cap : Nat) (L : List Int) : Res := fun y S => OwI y 0 (.slice (some ⟨g, 0, none⟩) n cap) L ∧ L.length = n ∧ S = fun i => i = g
theorem Ri.stab (g n cap : Nat) (L : List Int) : Stab (Ri g n cap L) where
  keep := fun {y y' T S} h hc hS => by
    obtain ⟨h1, h2, rfl⟩ := h
    exact ⟨h1.keep (fun i hi hlt => by
      injection hi with hi
      exact hc.block i hlt (hS i hi.symm)), h2, rfl⟩
  lt := fun {y S} h i hi => by
    obtain ⟨h1, h2, rfl⟩ := h
    have e : i = g := hi
    rw [e]
    exact (World.ownsRow.lt h1 g rfl).2
theorem Ri.nms {g n cap : Nat} {L : List Int} {y : World} {S : Nat → Prop} (h : Ri g n cap L y S) : (∀ j, j < n → y.cell? ⟨g, j, none⟩ = some (.int .i64 (L.getD j 0))) ∧ ∀ i, y.frozen? ⟨g, i, none⟩ = false := by
  obtain ⟨h1, h2, _⟩ := h
  have hr : y.ownsRow 0 2 1 (.slice (some ⟨g, 0, none⟩) n cap) L.length (ivs L) := h1
  refine ⟨fun j hj => ?_, ?_⟩
  · rw [h2] at hr
    rw [hr.cellAt j (by omega)]
    unfold ivs
    rw [List.getElem?_map, List.getElem?_eq_getElem (by omega), List.getD_eq_getElem?_getD, List.getElem?_eq_getElem (by omega)]
    rfl
  · rcases h1.2 with ⟨e, _⟩ | ⟨g', cap', cur, e, _, hh, _⟩
    · cases e
    · cases e
      exact fun i => froz_of hh
theorem Ri.set {g n cap : Nat} {L : List Int} {R : Res} (hR : Stab R) {w : World} {H : Nat} {y : World} (h : In w H (Sep R (Ri g n cap L)) y) (j : Nat) (x : Int) : In w H (Sep R (Ri g n cap (L.set j x))) (y.setCell ⟨g, j, none⟩ (.int .i64 x)) := by
  refine h.step ?_
  rintro S ⟨S1, S2, h1, h2, h3, h4⟩
  refine (Step.left hR h1 (fun i a b => h3 i b a) (fun i => (h4 i).trans Or.comm) (P' := Ri g n cap (L.set j x)) ?_).mono fun T hT => hT.swap
  obtain ⟨k1, k2, rfl⟩ := h2
  refine ⟨_, ⟨?_, by rw [List.length_set]; exact k2, rfl⟩, (Ch.refl (fun i => i = g) y).setCell _ _ (fun _ => rfl), fun _ hi => Or.inl hi⟩
  unfold OwI at k1 ⊢
  have e : ivs (L.set j x) = (ivs L).set j (.int .i64 x) := by unfold ivs; rw [List.map_set]
  rw [List.length_set, e]
  rw [k2] at k1 ⊢
  exact own_set k1
end Go.Proofs.Ytolobmhbmajolaa
