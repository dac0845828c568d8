/- What attempt answers, by what its cursor's call does: where it has read, that; where it gives up, zero and the error, and the reader stands where it stood. -/
import Derived.Test.YtiknilkgjinkfaaCur3
import Derived.Defers
import Derived.Recover
import Derived.RegionTactic
import Derived.Deep.RegionHeld
namespace Go.Proofs.Ytiknilkgjinkfaa
open Go.RowKit
theorem source_some (b : Nat) (w : World) :
    Calls Try.prog 53 #[.pointer (some ⟨b, 0, none⟩)] w fun e w' => e = .returned (.pointer (some ⟨b, 0, none⟩)) ∧ w' = w := by
  go_enter Try.func53, Try.ntmps53
  go_wp2
  go_ret
  exact ⟨rfl, rfl⟩
theorem assert_failure (v : Value) (w : World) : (Instr.typeAssert (.iface 93 v) 20 93 true).run Try.prog w = .ok (.tuple #[v, .bool true]) w := by
  simp [Instr.typeAssert, run_underlying Try.underlying93]
end Go.Proofs.Ytiknilkgjinkfaa
