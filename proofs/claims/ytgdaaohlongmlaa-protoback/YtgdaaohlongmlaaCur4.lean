/- What a cursor's call for a text or null answers. -/
import Derived.Test.YtgdaaohlongmlaaAnsd
namespace Go.Proofs.Ytgdaaohlongmlaa
open Go.RowKit
end Go.Proofs.Ytgdaaohlongmlaa
