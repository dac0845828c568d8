import Derived.Test.YtlbkkeoffeohnabSam5
import Derived.Test.YtlbkkeoffeohnabRdr3
import Derived.Test.YtlbkkeoffeohnabWrec
import Derived.ProofKit
import Derived.OpenShut
import Derived.ShutString
import Derived.ChangeOld
import Derived.JoinedCond
import Derived.ChangeSame
import Derived.Deep.Slices
import Derived.Deep.Strs
/- RecordBack's walk: what is written is read again, whatever stands behind it; by another number, or of fewer bytes, it isn't. -/
namespace Go.Proofs.Ytlbkkeoffeohnab
open Go.RowKit
def cln (r : Rec) : Rec := ⟨r.t, r.kh, bd r.kh r.kd, r.vh, bd r.vh r.vd, r.hs.map fun x => (x.1, x.2.1, bd x.2.1 x.2.2)⟩
end Go.Proofs.Ytlbkkeoffeohnab
