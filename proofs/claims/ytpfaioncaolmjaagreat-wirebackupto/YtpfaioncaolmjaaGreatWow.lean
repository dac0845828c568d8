/- WireWrites' walk: any calls of both writers, one behind the other. -/
import Derived.Test.YtpfaioncaolmjaaGreatWop
namespace Go.Proofs.YtpfaioncaolmjaaGreat
open Go.RowKit
/-- What the first call makes of nothing. -/
theorem first_any (os : List (Nat × Nat × ByteArray)) (hz : ∀ o ∈ os, o.1 < 256 ∧ o.2.1 < 18446744073709551616 ∧ o.2.2.size ≤ 1048576) :
    ∃ l1 : List Nat, l1.length ≤ 1048596 ∧ (0 < os.length → ∀ p q B w, WW p q B [] w → Calls Tryz.prog 9 #[.pointer (some ⟨p, 0, none⟩), .pointer (some ⟨q, 0, none⟩), .agg #[.int .u8 (os.getD 0 (0, 0, ByteArray.empty)).1, .int .u64 (os.getD 0 (0, 0, ByteArray.empty)).2.1, .string (os.getD 0 (0, 0, ByteArray.empty)).2.2]] w fun e w' => e = .returned (.bool true) ∧ WW p q B l1 w' ∧ Old p q B w w') := by
  by_cases h : 0 < os.length
  · obtain ⟨h1, h2, h3⟩ := hz _ (opq_mem h)
    obtain ⟨l', hl', hw⟩ := write_any _ _ _ [] h1 h2 (Nat.zero_le _) (Nat.le_trans h3 (by omega))
    exact ⟨l', by rw [List.length_nil] at hl'; omega, fun _ => hw⟩
  · exact ⟨[], by simp, fun h' => absurd h' h⟩
end Go.Proofs.YtpfaioncaolmjaaGreat
