/- What the calls of a cursor answer: texts with a length ahead, and null. -/
import Derived.Test.YtgdaaohlongmlaaCur2
namespace Go.Proofs.Ytgdaaohlongmlaa
open Go.RowKit
end Go.Proofs.Ytgdaaohlongmlaa
