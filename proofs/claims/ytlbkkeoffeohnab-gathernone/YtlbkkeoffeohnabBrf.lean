import Derived.Test.YtlbkkeoffeohnabBcb
import Derived.Test.YtlbkkeoffeohnabBsm
import Derived.Test.YtlbkkeoffeohnabSays
import Derived.Test.YtlbkkeoffeohnabAnsd
import Derived.Test.YtlbkkeoffeohnabOsz
import Derived.Test.YtlbkkeoffeohnabRecL
import Derived.Deep.RegionHeld
import Derived.Deep.RegionHeld3
/- refuseHead, stateOf, pack: what of a batch has no frame, how its records stand in it. -/
namespace Go.Proofs.Ytlbkkeoffeohnab
open Go.RowKit
/-- A batch, and where its records lie. -/
structure Bt where
  base : Int
  pk : Bool
  prod : Int
  seq : Int
  l : List RI
  a : Option Addr
  cap : Nat
end Go.Proofs.Ytlbkkeoffeohnab
