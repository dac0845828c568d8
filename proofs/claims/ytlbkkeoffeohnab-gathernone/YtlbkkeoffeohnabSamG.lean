import Derived.Test.YtlbkkeoffeohnabSam5
import Derived.Deep.RegionHeld3
/- Same of any two records: the cases ahead of its loop. -/
namespace Go.Proofs.Ytlbkkeoffeohnab
open Go.RowKit
theorem bl_ne {d d' : ByteArray} (h : d ≠ d') : ¬ d.toList = d'.toList := fun e => h (ByteArray.ext (Array.toList_inj.1 (by rw [← ByteArray.toList_eq, ← ByteArray.toList_eq]; exact e)))
end Go.Proofs.Ytlbkkeoffeohnab
