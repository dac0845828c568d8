/- What attempt answers, by what its cursor's call does: where it has read, that; where it gives up, zero and the error, and the reader stands where it stood. -/
import Derived.Test.YtgdaaohlongmlaaCur3
import Derived.Defers
import Derived.Recover
import Derived.RegionTactic
import Derived.Deep.RegionHeld
namespace Go.Proofs.Ytgdaaohlongmlaa
open Go.RowKit
theorem source_some (b : Nat) (w : World) :
    Calls Try.prog 72 #[.pointer (some ⟨b, 0, none⟩)] w fun e w' => e = .returned (.pointer (some ⟨b, 0, none⟩)) ∧ w' = w := by
  go_enter Try.func72, Try.ntmps72
  go_wp2
  go_ret
  exact ⟨rfl, rfl⟩
theorem assert_failure (v : Value) (w : World) : (Instr.typeAssert (.iface 129 v) 20 129 true).run Try.prog w = .ok (.tuple #[v, .bool true]) w := by
  simp [Instr.typeAssert, run_underlying Try.underlying129]
end Go.Proofs.Ytgdaaohlongmlaa
