/- An element of an array by value. -/
import Derived.Test.YtohpjbhjcgihkaaDig
namespace Go.Proofs.Ytohpjbhjcgihkaa
open Go.RowKit
theorem index_tab {c : Array Value} {v : Int} (w : World) (i : Nat) (hi : i < 256) (h : c[i]? = some (.int .u32 v)) :
    (Instr.index 32 (.agg c) (.int .i64 i)).run Try.prog w = .ok (.int .u32 v) w := by
  simp [Instr.index, go_sem, hi]
  rw [h]
  rfl
end Go.Proofs.Ytohpjbhjcgihkaa
