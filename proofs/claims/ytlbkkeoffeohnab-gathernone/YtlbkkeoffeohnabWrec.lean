import Derived.Test.YtlbkkeoffeohnabSz
/- What the record's writer lays down: the record's form behind what is written; its own bytes are counted first. -/
namespace Go.Proofs.Ytlbkkeoffeohnab
open Go.RowKit
/-- A writer at work, beside a block of another kind that stays. -/
structure WK (p B Q : Nat) (c : Array Value) (T : TypeId) (w x : World) (l : List Nat) : Prop where
  wr : Wr x p B l
  ch : Ch (WU p B w) w x
  q : x.heap[Q]? = some (.cells c T (0, 0))
theorem WK.drew {p B Q : Nat} {c : Array Value} {T : TypeId} {w x : World} {l : List Nat} (h : WK p B Q c T w x l) : WK p B Q c T w x.drew l := ⟨h.wr.ch ((Ch.refl (fun _ => False) _).drew) (fun h => h) (fun _ _ h => h), h.ch.drew, h.q⟩
theorem WK.next {p B Q : Nat} {c : Array Value} {T : TypeId} {w x x' : World} {l l' : List Nat} {e : Ending} (h : WK p B Q c T w x l) (hQ : Q ≠ p) (hT : T ≠ 5) (k : Lays p B l' x e x') : WK p B Q c T w x' l' := ⟨k.2.1, h.ch.tu k.2.2, k.2.2.other h.q hQ hT⟩
theorem WK.below {p B Q : Nat} {c : Array Value} {T : TypeId} {w x x' : World} {l : List Nat} (h : WK p B Q c T w x l) (hb : Below x.heap.size x x') : WK p B Q c T w x' l := ⟨h.wr.below hb, h.ch.tu (Ch.of_below hb), (hb.block _ (lt_of_heap h.q)).trans h.q⟩
theorem cells6 {x : World} {Q : Nat} {T : TypeId} {v0 v1 v2 v3 v4 v5 : Value} (h : x.heap[Q]? = some (.cells #[v0, v1, v2, v3, v4, v5] T (0, 0))) :
    x.cell? ⟨Q, 0, none⟩ = some v0 ∧ x.cell? ⟨Q, 1, none⟩ = some v1 ∧ x.cell? ⟨Q, 2, none⟩ = some v2 ∧ x.cell? ⟨Q, 3, none⟩ = some v3 ∧ x.cell? ⟨Q, 4, none⟩ = some v4 ∧ x.cell? ⟨Q, 5, none⟩ = some v5 :=
  ⟨(cell_of h).trans rfl, (cell_of h).trans rfl, (cell_of h).trans rfl, (cell_of h).trans rfl, (cell_of h).trans rfl, (cell_of h).trans rfl⟩
theorem cells3 {x : World} {Q : Nat} {T : TypeId} {v0 v1 v2 : Value} (h : x.heap[Q]? = some (.cells #[v0, v1, v2] T (0, 0))) :
    x.cell? ⟨Q, 0, none⟩ = some v0 ∧ x.cell? ⟨Q, 1, none⟩ = some v1 ∧ x.cell? ⟨Q, 2, none⟩ = some v2 :=
  ⟨(cell_of h).trans rfl, (cell_of h).trans rfl, (cell_of h).trans rfl⟩
end Go.Proofs.Ytlbkkeoffeohnab
