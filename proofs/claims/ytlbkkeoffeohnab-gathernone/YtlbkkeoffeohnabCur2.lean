import Derived.Test.YtlbkkeoffeohnabWld
import Derived.Deep.QuietTactic
import Derived.BigQuiet
/- What the calls of a cursor answer: numbers, texts; that each gives up where it must. -/
namespace Go.Proofs.Ytlbkkeoffeohnab
open Go.RowKit
/-- Bytes as a number, great end first. -/
def be (l : List Nat) : Nat := l.foldl (fun v b => v * 256 + b) 0
/-- What is there from k on. -/
def tl (s : ByteArray) (k : Nat) : ByteArray := s.extract k s.size
end Go.Proofs.Ytlbkkeoffeohnab
