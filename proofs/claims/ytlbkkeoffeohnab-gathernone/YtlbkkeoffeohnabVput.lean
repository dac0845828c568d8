import Derived.Test.YtlbkkeoffeohnabVread
import Derived.Lib.BufferRead
/- What layer 1's Put and PutSigned lay down, of the program and of the document's answer: the forms of the values; nothing that was there before is turned. -/
namespace Go.Proofs.Ytlbkkeoffeohnab
open Go.RowKit
/-- Bytes as cells. -/
def bc (l : List Nat) : List Value := l.map fun b : Nat => Value.int .u8 (b : Int)
end Go.Proofs.Ytlbkkeoffeohnab
