/- What attempt answers at one kind of answer: what its cursor's call has read; or zero and the error, and the reader stands where it stood; or at once the error that it has. -/
import Derived.Test.YtgdaaohlongmlaaGreatAnsd
namespace Go.Proofs.YtgdaaohlongmlaaGreat
open Go.RowKit
end Go.Proofs.YtgdaaohlongmlaaGreat
