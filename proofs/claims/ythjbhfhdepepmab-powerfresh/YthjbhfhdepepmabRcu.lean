/- The document's disk: Cut. -/
import Derived.Test.YthjbhfhdepepmabRtu
namespace Go.Proofs.Ythjbhfhdepepmab
open Go.RowKit
theorem ba_ext (l : List UInt8) (a b : Nat) : (ba l).extract a b = ba ((l.drop a).take (b - a)) := by
  apply ByteArray.ext
  show (ByteArray.extract (ba l) a b).data = ((l.drop a).take (b - a)).toArray
  rw [ByteArray.data_extract]
  apply Array.toList_inj.1
  show (l.toArray.extract a b).toList = _
  simp
theorem ba_ext0 (l : List UInt8) (b : Nat) : (ba l).extract 0 b = ba (l.take b) := by rw [ba_ext]; simp
section
variable {w w1 w2 : World} {ft : Nat → Prop} {d : Nat} {rm : Nat} {cl cb cl1 cb1 cl2 cb2 : Int} {V1 V2 : Vw}
theorem RAft.then (h1 : RAft w ft d rm cl1 cb1 V1 w1) (h2 : ∀ ft', Rs w1 d ft' rm cl1 cb1 V1 → RAft w1 ft' d rm cl2 cb2 V2 w2) : RAft w ft d rm cl2 cb2 V2 w2 := by
  obtain ⟨f1, k1, k2, k3⟩ := h1
  obtain ⟨f2, m1, m2, m3⟩ := h2 f1 k1
  refine ⟨f2, m1, k2.then m2 (fun i hi hf => ?_), fun i hi => ?_⟩
  · rcases k3 i hf with h | h
    · exact h
    · omega
  · rcases m3 i hi with h | h
    · exact k3 i h
    · exact Or.inr (Nat.le_trans k2.size h)
end
end Go.Proofs.Ythjbhfhdepepmab
