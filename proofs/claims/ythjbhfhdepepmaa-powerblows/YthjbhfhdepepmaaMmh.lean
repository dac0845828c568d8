/- A map made with a hint. -/
import Derived.Test.YthjbhfhdepepmaaFcl
namespace Go.Proofs.Ythjbhfhdepepmaa
open Go.RowKit
theorem run_makeMap_hint (t k e : TypeId) (q : IntKind) (n : Int) (w : World) (hu : Try.prog.underlying t = some (.map k e)) : (Instr.makeMap t (some (.int q n))).run Try.prog w = .ok (.map (some w.heap.size)) (w.alloc (.map #[] 0)) := by
  simp [Instr.makeMap, run_underlying hu, asInt, asIntOf, Result.andThen]
end Go.Proofs.Ythjbhfhdepepmaa
