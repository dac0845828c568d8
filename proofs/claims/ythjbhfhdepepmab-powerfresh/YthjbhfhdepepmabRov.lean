/- The document's disk: Overwrite, Read. -/
import Derived.Test.YthjbhfhdepepmabRcu
namespace Go.Proofs.Ythjbhfhdepepmab
open Go.RowKit
theorem ba_app (a b : List UInt8) : ba a ++ ba b = ba (a ++ b) := by
  apply ByteArray.ext
  rw [ByteArray.data_append]
  apply Array.toList_inj.1
  simp [ba]
theorem ba_of' (s : ByteArray) : ba s.data.toList = s := by apply ByteArray.ext; show s.data.toList.toArray = s.data; simp
end Go.Proofs.Ythjbhfhdepepmab
