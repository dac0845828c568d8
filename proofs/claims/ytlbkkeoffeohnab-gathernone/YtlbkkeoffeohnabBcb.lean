import Derived.Test.YtlbkkeoffeohnabBwh
import Derived.Test.YtlbkkeoffeohnabSays
import Derived.Test.YtlbkkeoffeohnabAnsd
import Derived.Deep.LoopGhost
import Derived.Deep.QuietTactic
import Derived.BigQuiet
/- checkBody: what is wrong with the records' bytes of a frame. -/
namespace Go.Proofs.Ytlbkkeoffeohnab
open Go.RowKit
theorem Bx1.alloc {w : World} {b : Array Value} {T : TypeId} {x : World} (h : Bx1 w b T x) (o : Obj) : Bx1 w b T (x.alloc o) := ⟨heap_alloc_at h.p, h.b.alloc h.b.size o⟩
end Go.Proofs.Ytlbkkeoffeohnab
