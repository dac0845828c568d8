/- ProducerApart: its walk over what comes in. -/
import Derived.Test.YtolobmhbmajolaaPf6
import Derived.SizedLaws
namespace Go.Proofs.Ytolobmhbmajolaa
open Go.RowKit
theorem apart_any (hs : List Hd) (a : Option Addr) (cap : Nat) (p q : Int) (w : World) (V : Hds w a hs) (hl : hs.length * 64 ≤ reachBytes) (ok : ∀ x ∈ hs, HdOk x) (p0 : 0 ≤ p) (p1 : p ≤ 65535) (q0 : 0 ≤ q) (q1 : q ≤ 65535) :
    Calls Try.prog 6 #[.slice a hs.length cap, .int .u16 p, .int .u16 q] w fun e w' => e = .returned (.bool true) ∧ Below w.heap.size w w' := by
  obtain ⟨P, rfl⟩ := Int.eq_ofNat_of_zero_le p0
  obtain ⟨Q, rfl⟩ := Int.eq_ofNat_of_zero_le q0
  exact apart_walk hs a cap P Q w (by omega) (by omega) V (by unfold reachBytes at hl; omega) (fun x hx => ⟨(ok x hx).c0, (ok x hx).c1, (ok x hx).b0, (ok x hx).b1⟩)
end Go.Proofs.Ytolobmhbmajolaa
