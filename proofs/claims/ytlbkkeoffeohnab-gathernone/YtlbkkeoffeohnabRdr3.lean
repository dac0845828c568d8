import Derived.Test.YtlbkkeoffeohnabRdS
import Derived.Test.YtlbkkeoffeohnabWrec
/- The record's reader: what record answers of a form's own bytes. -/
namespace Go.Proofs.Ytlbkkeoffeohnab
open Go.RowKit
theorem own_base {w : World} {B B' : Nat} {v : Value} {rs : List Hdr} (hB : B ≤ B') (h : OwnH w B' v rs) : OwnH w B v rs := by
  obtain ⟨h1, h2⟩ := h
  refine ⟨h1, ?_⟩
  rcases h2 with h2 | ⟨g, cap, cur, rfl, hg, r⟩
  · exact Or.inl h2
  · exact Or.inr ⟨g, cap, cur, rfl, Nat.le_trans hB hg, r⟩
end Go.Proofs.Ytlbkkeoffeohnab
