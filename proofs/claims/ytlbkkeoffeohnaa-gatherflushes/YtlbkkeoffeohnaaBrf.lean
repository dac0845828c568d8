import Derived.Test.YtlbkkeoffeohnaaBcb
import Derived.Test.YtlbkkeoffeohnaaBsm
import Derived.Test.YtlbkkeoffeohnaaSays
import Derived.Test.YtlbkkeoffeohnaaAnsd
import Derived.Test.YtlbkkeoffeohnaaOsz
import Derived.Test.YtlbkkeoffeohnaaRecL
import Derived.Deep.RegionHeld
import Derived.Deep.RegionHeld3
/- refuseHead, stateOf, pack: what of a batch has no frame, how its records stand in it. -/
namespace Go.Proofs.Ytlbkkeoffeohnaa
open Go.RowKit
/-- A batch, and where its records lie. -/
structure Bt where
  base : Int
  pk : Bool
  prod : Int
  seq : Int
  l : List RI
  a : Option Addr
  cap : Nat
end Go.Proofs.Ytlbkkeoffeohnaa
