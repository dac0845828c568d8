/- The reference's first token of some bytes. -/
import Derived.Test.YtdkfenmhfkggdabFst
namespace Go.Proofs.Ytdkfenmhfkggdab
open Go.RowKit
theorem fst_lit (p : ByteArray) (hp : 0 < p.size) (hc : p[0].toNat < 128) : M.fst' p.data.toList = if p.size < p[0].toNat + 2 then .error 20 else .ok (.lit ((p.data.toList.drop 1).take (p[0].toNat + 1)), p[0].toNat + 2) := by
  unfold M.fst'
  rw [← at_ p 0 hp]
  simp only [hc, if_true, len_]
end Go.Proofs.Ytdkfenmhfkggdab
