/- What the calls of a cursor answer: texts with a length ahead, and null. -/
import Derived.Test.YtmhmohkeekmmgaaCur2
namespace Go.Proofs.Ytmhmohkeekmmgaa
open Go.RowKit
end Go.Proofs.Ytmhmohkeekmmgaa
