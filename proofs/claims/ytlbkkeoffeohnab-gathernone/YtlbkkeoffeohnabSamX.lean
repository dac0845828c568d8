import Derived.Test.YtlbkkeoffeohnabSam5
import Derived.Deep.RegionHeld3
/- The document's Same and Clean, of records that are the same and clean. -/
namespace Go.Proofs.Ytlbkkeoffeohnab
open Go.RowKit
set_option maxHeartbeats 400000 in
set_option maxRecDepth 20000 in
theorem xsameopt_yes (b : Bool) (d : ByteArray) (w : World) :
    Calls Try.prog 24 #[.agg #[.bool b, .string d], .agg #[.bool b, .string d]] w fun e w' => e = .returned (.bool true) ∧ Below w.heap.size w w' := by
  cases b with
  | false =>
    go_enter Try.func24, Try.ntmps24
    go_wp2_with fail
    go_ret
    exact ⟨rfl, ((Below.refl _ w).alloc (Nat.le_refl _) _).alloc (by simp) _⟩
  | true =>
    go_enter Try.func24, Try.ntmps24
    go_wp2_with fail
    go_ret
    exact ⟨rfl, ((Below.refl _ w).alloc (Nat.le_refl _) _).alloc (by simp) _⟩
end Go.Proofs.Ytlbkkeoffeohnab
