/- What a file's own calls answer and change. -/
import Derived.Test.YthjbhfhdepepmaaDfi
namespace Go.Proofs.Ythjbhfhdepepmaa
open Go.RowKit
def has5 (l : Nat) (at_ n : Int) : Bool := decide (0 ≤ at_ ∧ 0 ≤ n ∧ n ≤ l - at_)
set_option maxHeartbeats 1000000 in
theorem has_any (f : Fl) (at_ n : Int) (w : World) (h : FA w f) (ha : at_ ≤ 9223372036854775807) (hl : f.da.length ≤ 1073741824) :
    Calls Try.prog 73 #[.pointer (some ⟨f.bk, 0, none⟩), .int .i64 at_, .int .i64 n] w fun e w' => e = .returned (.bool (has5 f.da.length at_ n)) ∧ w' = w := by
  go_enter Try.func73, Try.ntmps73
  unfold has5
  by_cases h1 : 0 ≤ at_
  · by_cases h2 : 0 ≤ n
    · go_wp2_with (go_at_call 70; refine (fsize_any f _ h).mono ?_; rintro e w' ⟨rfl, rfl⟩)
      go_ret
      refine ⟨?_, rfl⟩
      have e : IntKind.i64.wrap ((f.da.length : Int) - at_) = f.da.length - at_ := by simp only [IntKind.wrap, IntKind.bits, IntKind.signed, Bool.true_and]; split <;> rename_i h <;> simp at h <;> omega
      simp_all
    · have e : decide (0 ≤ at_ ∧ 0 ≤ n ∧ n ≤ f.da.length - at_) = false := by simp [h2]
      rw [e]
      go_wp2
      go_ret
      exact ⟨by simp_all, rfl⟩
  · have e : decide (0 ≤ at_ ∧ 0 ≤ n ∧ n ≤ f.da.length - at_) = false := by simp [h1]
    rw [e]
    go_wp2
    go_ret
    exact ⟨by simp_all, rfl⟩
end Go.Proofs.Ythjbhfhdepepmaa
