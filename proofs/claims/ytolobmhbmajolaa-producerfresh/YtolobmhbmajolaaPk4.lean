/- ProducerFresh: its walk over what comes in. -/
import Derived.Test.YtolobmhbmajolaaPk3
namespace Go.Proofs.Ytolobmhbmajolaa
open Go.RowKit
theorem fresh_any (hs : List Hd) (a : Option Addr) (cap : Nat) (os : List Oq) (a2 : Option Addr) (cap2 : Nat) (w : World) (V : Hds w a hs) (hl : hs.length * 64 ≤ reachBytes) (ok : ∀ x ∈ hs, HdOk x) (V2 : Ops w a2 os) (hl2 : os.length * 80 ≤ reachBytes ∧ os.length ≤ cap2 ∧ cap2 ≤ maxLen) (ok2 : ∀ x ∈ os, OqOk x) :
    Calls Try.prog 7 #[.slice a hs.length cap, .slice a2 os.length cap2] w fun e w' => e = .returned (.bool true) ∧ Below w.heap.size w w' :=
  fresh_walk hs a cap os a2 cap2 w V (by unfold reachBytes at hl; omega) ok V2 (by have := hl2.1; unfold reachBytes at this; omega) ok2
end Go.Proofs.Ytolobmhbmajolaa
