/- What a cursor's call for a text or null answers. -/
import Derived.Test.YtgdaaohlongmlaaGreatAnsd
namespace Go.Proofs.YtgdaaohlongmlaaGreat
open Go.RowKit
end Go.Proofs.YtgdaaohlongmlaaGreat
