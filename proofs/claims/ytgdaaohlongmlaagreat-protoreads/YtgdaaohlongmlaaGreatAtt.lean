/- What attempt answers, by what its cursor's call does: where it has read, that; where it gives up, zero and the error, and the reader stands where it stood. -/
import Derived.Test.YtgdaaohlongmlaaGreatCur3
import Derived.Defers
import Derived.Recover
import Derived.RegionTactic
import Derived.Deep.RegionHeld
namespace Go.Proofs.YtgdaaohlongmlaaGreat
open Go.RowKit
theorem source_some (b : Nat) (w : World) :
    Calls Tryz.prog 99 #[.pointer (some ⟨b, 0, none⟩)] w fun e w' => e = .returned (.pointer (some ⟨b, 0, none⟩)) ∧ w' = w := by
  go_enter Tryz.func99, Tryz.ntmps99
  go_wp2
  go_ret
  exact ⟨rfl, rfl⟩
theorem assert_failure (v : Value) (w : World) : (Instr.typeAssert (.iface 145 v) 20 145 true).run Tryz.prog w = .ok (.tuple #[v, .bool true]) w := by
  simp [Instr.typeAssert, run_underlying Tryz.underlying145]
end Go.Proofs.YtgdaaohlongmlaaGreat
