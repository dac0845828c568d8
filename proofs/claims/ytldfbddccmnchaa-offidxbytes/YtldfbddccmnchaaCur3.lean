/- What the calls of a cursor answer: texts with a length ahead, and null. -/
import Derived.Test.YtldfbddccmnchaaCur2
namespace Go.Proofs.Ytldfbddccmnchaa
open Go.RowKit
end Go.Proofs.Ytldfbddccmnchaa
