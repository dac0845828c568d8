/- The zero chains. -/
import Derived.Test.YtdkfenmhfkggdaaWld
namespace Go.Proofs.Ytdkfenmhfkggdaa
open Go.RowKit
set_option maxRecDepth 1000000 in
theorem Try.infoChn : (Try.prog.info? 56).map (fun i => (i.zero, i.size)) = some (some (.agg (Array.replicate 16384 (.int .i64 0))), 16384) := by kernel_rfl
end Go.Proofs.Ytdkfenmhfkggdaa
