import Derived.Test.YtlbkkeoffeohnabWr
/- What a sheet's call for a number lays down: its bytes, great end first. -/
namespace Go.Proofs.Ytlbkkeoffeohnab
open Go.RowKit
theorem wrap_in {n : Int} (h1 : -9223372036854775808 ≤ n) (h2 : n ≤ 9223372036854775807) : IntKind.i64.wrap n = n := by
  simp only [IntKind.wrap, IntKind.bits, IntKind.signed, Bool.true_and]; split <;> rename_i h <;> simp at h <;> omega
end Go.Proofs.Ytlbkkeoffeohnab
