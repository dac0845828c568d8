/- ProducerPlays: its walk over what comes in. -/
import Derived.Test.YtolobmhbmajolaaPi8
namespace Go.Proofs.Ytolobmhbmajolaa
open Go.RowKit
theorem plays_any (os : List Oq) (a : Option Addr) (cap : Nat) (w : World) (V : Ops w a os) (hl : os.length * 80 ≤ reachBytes ∧ os.length ≤ cap ∧ cap ≤ maxLen) (ok : ∀ x ∈ os, OqOk x) :
    Calls Try.prog 3 #[.slice a os.length cap] w fun e w' => e = .returned (.bool true) ∧ Below w.heap.size w w' :=
  plays_walk os a cap w V (by have := hl.1; unfold reachBytes at this; omega) hl.2.1 hl.2.2 ok
end Go.Proofs.Ytolobmhbmajolaa
