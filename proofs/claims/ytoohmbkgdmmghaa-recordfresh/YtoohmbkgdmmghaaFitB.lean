/- What fitBody answers of any records. -/
import Derived.Test.YtoohmbkgdmmghaaRecL
namespace Go.Proofs.Ytoohmbkgdmmghaa
open Go.RowKit
end Go.Proofs.Ytoohmbkgdmmghaa
