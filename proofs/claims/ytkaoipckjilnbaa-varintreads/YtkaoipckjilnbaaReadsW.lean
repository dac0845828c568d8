/- The walk of VarintReads: it answers true at every list of texts; nothing that was there before is turned. -/
import Derived.Test.YtkaoipckjilnbaaReads
namespace Go.Proofs.Ytkaoipckjilnbaa
open Go.RowKit
set_option maxHeartbeats 2000000 in
set_option maxRecDepth 20000 in
theorem reads_walk (a : Option Addr) (cap : Nat) (ss : List ByteArray) (w : World) (hl : ss.length ≤ 9223372036854775807) (hs : ∀ s ∈ ss, s.size ≤ 9223372036854775807)
    (hv : ss = [] ∨ ∃ b off, a = some ⟨b, off, none⟩ ∧ b < w.heap.size ∧ ∀ j, j < ss.length → w.cell? ⟨b, off + j, none⟩ = some (.string (ss.getD j ByteArray.empty))) :
    Calls Try.prog 3 #[.slice a ss.length cap] w fun e w' => e = .returned (.bool true) ∧ Below w.heap.size w w' := by
  go_enter Try.func3, Try.ntmps3
  go_wp2_with (go_at_call 9; refine (fixed_any _).mono ?_; rintro e w1 ⟨rfl, hbel⟩)
  go_loop [3] (fun i => ∃ k : Nat, k ≤ ss.length ∧ i = .int .i64 k) (fun i => ss.length - (intOf i).toNat)
  case atStart => exact ⟨0, by omega, rfl⟩
  case round =>
    obtain ⟨k, hk, rfl⟩ := hrel
    by_cases hlt : k < ss.length
    · rcases hv with rfl | ⟨b, off, rfl, hb, hc⟩
      · simp at hlt
      · have hcell := (hbel.cell hb).trans (hc k hlt)
        have hsz : (ss.getD k ByteArray.empty).size ≤ 9223372036854775807 := hs _ (by simp [List.getD_eq_getElem?_getD, hlt])
        generalize ss.getD k ByteArray.empty = s at hcell hsz
        clear hc hs
        go_wp2_with (first | (go_at_call 10; refine (plain_any _ _ hsz).mono ?_; rintro e w' ⟨rfl, rfl⟩) | (go_at_call 11; refine (signed_any _ _ hsz).mono ?_; rintro e w' ⟨rfl, rfl⟩))
        go_round
        case rel => exact ⟨k + 1, by omega, by go_num⟩
        case measure => simp [intOf]; omega
    · clear hv hs
      go_wp2
      go_ret
      exact ⟨rfl, hbel⟩
end Go.Proofs.Ytkaoipckjilnbaa
