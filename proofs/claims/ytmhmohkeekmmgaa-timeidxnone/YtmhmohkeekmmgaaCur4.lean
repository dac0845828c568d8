/- What a cursor's call for a text or null answers. -/
import Derived.Test.YtmhmohkeekmmgaaAnsd
namespace Go.Proofs.Ytmhmohkeekmmgaa
open Go.RowKit
end Go.Proofs.Ytmhmohkeekmmgaa
