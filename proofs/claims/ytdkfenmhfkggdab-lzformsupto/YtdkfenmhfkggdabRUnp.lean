/- The reference's Unpack answers as the document asks. -/
import Derived.Test.YtdkfenmhfkggdabRFst
import Derived.Test.YtdkfenmhfkggdabUnp
namespace Go.Proofs.Ytdkfenmhfkggdab
open Go.RowKit
theorem Own.slice {w : World} {B : Nat} {v : Value} {l : List UInt8} (h : Own w B v l) : ∃ a cap, v = .slice a l.length cap := by
  obtain ⟨hl, h⟩ := h
  rcases h with ⟨rfl, h1⟩ | ⟨g, cap, cur, rfl, _⟩
  · rw [h1]; exact ⟨_, _, rfl⟩
  · exact ⟨_, _, rfl⟩
def unV (R : Except Nat (List UInt8)) : Value :=
  match R with
    | .error k => .tuple #[.string ⟨#[]⟩, .int .i64 (k : Nat)]
    | .ok F => .tuple #[.string (ba F), .int .i64 0]
end Go.Proofs.Ytdkfenmhfkggdab
