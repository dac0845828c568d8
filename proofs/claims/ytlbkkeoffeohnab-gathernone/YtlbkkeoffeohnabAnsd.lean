import Derived.Test.YtlbkkeoffeohnabCur2
import Derived.Deep.RegionHeld3
import Derived.Defers
import Derived.Recover
import Derived.RegionTactic
import Derived.Deep.RegionHeld
/- What a call of a reader answers, and how the reader stands behind it. -/
namespace Go.Proofs.Ytlbkkeoffeohnab
open Go.RowKit
theorem heap_new' (w : World) (o : Obj) (n : Nat) (h : w.heap.size = n) : (w.alloc o).heap[n]? = some o := by subst h; exact heap_new _ _
end Go.Proofs.Ytlbkkeoffeohnab
