import Derived.Test.YtlbkkeoffeohnabWm
import Derived.Test.YtlbkkeoffeohnabSays
/- Plain facts on the form of a record: what stands where in some bytes, what a reader of numbers and texts finds there, and the whole form. -/
namespace Go.Proofs.Ytlbkkeoffeohnab
open Go.RowKit
/-- What a text is written as. -/
def tx (d : ByteArray) : List Nat := M.form d.size ++ bl d
/-- What a text or null is written as. -/
def ol (h : Bool) (d : ByteArray) : List Nat := if h then M.form (2 * d.size) ++ bl d else [1]
abbrev MX : Int := 9223372036854775807
end Go.Proofs.Ytlbkkeoffeohnab
