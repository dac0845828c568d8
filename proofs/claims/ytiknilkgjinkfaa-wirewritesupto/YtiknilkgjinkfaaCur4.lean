/- What a cursor's call for a text or null answers. -/
import Derived.Test.YtiknilkgjinkfaaAnsd
namespace Go.Proofs.Ytiknilkgjinkfaa
open Go.RowKit
end Go.Proofs.Ytiknilkgjinkfaa
