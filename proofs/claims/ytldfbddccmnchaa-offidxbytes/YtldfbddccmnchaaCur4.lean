/- What a cursor's call for a text or null answers. -/
import Derived.Test.YtldfbddccmnchaaAnsd
namespace Go.Proofs.Ytldfbddccmnchaa
open Go.RowKit
end Go.Proofs.Ytldfbddccmnchaa
