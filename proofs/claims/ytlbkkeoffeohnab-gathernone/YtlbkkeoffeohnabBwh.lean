import Derived.Test.YtlbkkeoffeohnabSays
import Derived.Test.YtlbkkeoffeohnabRdr3
import Derived.Test.YtlbkkeoffeohnabBsm
import Derived.Deep.RegionHeld
import Derived.Deep.RegionHeld3
/- checkWhole: what is wrong with a frame's bytes as such. -/
namespace Go.Proofs.Ytlbkkeoffeohnab
open Go.RowKit
/-- A box that came in; below it nothing has turned. -/
structure Bx1 (w : World) (b : Array Value) (T : TypeId) (x : World) : Prop where
  p : x.heap[w.heap.size]? = some (.cells b T (0, 0))
  b : Below w.heap.size w x
theorem Bx1.drew {w : World} {b : Array Value} {T : TypeId} {x : World} (h : Bx1 w b T x) : Bx1 w b T x.drew := ⟨h.p, h.b.drew⟩
theorem Bx1.call {w : World} {b : Array Value} {T : TypeId} {x x' : World} (h : Bx1 w b T x) (k : Below x.heap.size x x') : Bx1 w b T x' :=
  ⟨(k.block _ (lt_of_heap h.p)).trans h.p, h.b.trans (k.mono h.b.size)⟩
theorem Bx1.cell {w : World} {b : Array Value} {T : TypeId} {x : World} (h : Bx1 w b T x) (i : Nat) : x.cell? ⟨w.heap.size, i, none⟩ = b[i]? := cell_of h.p
end Go.Proofs.Ytlbkkeoffeohnab
