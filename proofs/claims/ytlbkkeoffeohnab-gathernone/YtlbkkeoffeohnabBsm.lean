import Derived.Test.YtlbkkeoffeohnabSays
import Derived.Test.YtlbkkeoffeohnabWm
import Derived.Test.YtlbkkeoffeohnabOsz
import Derived.Lib.MinMaxS
import Derived.Deep.RegionHeld
import Derived.Deep.RegionHeld3
/- The small calls of package batch: size, head, within, isProducer, haveOffsets. -/
namespace Go.Proofs.Ytlbkkeoffeohnab
open Go.RowKit
/-- A box that came in, the answer's block behind it; below them nothing has turned. -/
structure Bx2 (w : World) (b : Array Value) (T : TypeId) (r : Array Value) (U : TypeId) (x : World) : Prop where
  p : x.heap[w.heap.size]? = some (.cells b T (0, 0))
  q : x.heap[w.heap.size + 1]? = some (.cells r U (0, 0))
  b : Below w.heap.size w x
theorem Bx2.drew {w : World} {b : Array Value} {T : TypeId} {r : Array Value} {U : TypeId} {x : World} (h : Bx2 w b T r U x) : Bx2 w b T r U x.drew := ⟨h.p, h.q, h.b.drew⟩
theorem Bx2.call {w : World} {b : Array Value} {T : TypeId} {r : Array Value} {U : TypeId} {x x' : World} (h : Bx2 w b T r U x) (k : Below x.heap.size x x') : Bx2 w b T r U x' :=
  ⟨(k.block _ (lt_of_heap h.p)).trans h.p, (k.block _ (lt_of_heap h.q)).trans h.q, h.b.trans (k.mono h.b.size)⟩
end Go.Proofs.Ytlbkkeoffeohnab
