/- What the calls of a cursor answer: texts with a length ahead, and null. -/
import Derived.Test.YtgdaaohlongmlaaGreatCur2
namespace Go.Proofs.YtgdaaohlongmlaaGreat
open Go.RowKit
end Go.Proofs.YtgdaaohlongmlaaGreat
