/- A row of bytes that a conversion made: the conversion. -/
import Derived.Test.YthjbhfhdepepmaaCbt
namespace Go.Proofs.Ythjbhfhdepepmaa
open Go.RowKit
theorem conv_b (w : World) (b : List UInt8) : ∃ C w3, (convert 9 81 (.string (ba b))).run Try.prog w = .ok (.slice (some ⟨w.heap.size, 0, none⟩) b.length C) w3 ∧ Cb w3 w.heap.size C b ∧ Below w.heap.size w w3 := by
  have hcv := Lib.run_convert_string_bytes (P := Try.prog) w 9 81 5 (ba b) Try.under9 Try.underBytes Try.under5
  have hC3 := Cb.conv w (ba b)
  have hbw3' : Below w.heap.size w (Lib.bytesWorld w 5 (ba b)) := ⟨rfl, rfl, rfl, by rw [Lib.bytesWorld_size]; omega, fun k hk => Lib.bytesWorld_at_old w 5 (ba b) k hk⟩
  have hsz := ba_size b
  have hcp : (Lib.bytesCells w 5 (ba b)).size = grownCap w (ba b).size 0 5 := by
    have hg := grownCap_ge w (ba b).size 0 5
    have e : (Lib.bytesCells w 5 (ba b)).size = (ba b).size + (grownCap w (ba b).size 0 5 - (ba b).size) := by
      unfold Lib.bytesCells
      rw [Array.size_append, Array.size_map, Array.size_replicate]
      rfl
    rw [e]
    generalize grownCap w (ba b).size 0 5 = x at *
    omega
  rw [hcp] at hC3
  rw [hsz] at hcv
  exact ⟨_, _, hcv, hC3, hbw3'⟩
end Go.Proofs.Ythjbhfhdepepmaa
