/- The answers that the document fixes are the program's: 'fixed' returns true, and nothing that was there before is turned. -/
import Derived.Test.YtkaoipckjilnbaaPut
namespace Go.Proofs.Ytkaoipckjilnbaa
open Go.RowKit
theorem fx1 (w : World) : Calls Try.prog 36 #[.string ⟨#[172, 2, 7]⟩] w fun e w' => e = .returned (.tuple #[.int .u64 300, .int .i64 2, .int .i64 0]) ∧ w' = w := by
  have h := read_any ⟨#[172, 2, 7]⟩ w (by decide)
  have e : rm ⟨#[172, 2, 7]⟩ 18446744073709551615 = (300, 2, 0) := by decide +kernel
  rw [e] at h
  exact h
theorem fx2 (w : World) : Calls Try.prog 38 #[.string ⟨#[172, 2]⟩] w fun e w' => e = .returned (.tuple #[.int .u8 0, .int .i64 0, .int .i64 1]) ∧ w' = w := by
  have h := read8_any ⟨#[172, 2]⟩ w (by decide)
  have e : rm ⟨#[172, 2]⟩ 255 = (0, 0, 1) := by decide +kernel
  rw [e] at h
  exact h
theorem fx3 (w : World) : Calls Try.prog 37 #[.string ⟨#[127]⟩] w fun e w' => e = .returned (.tuple #[.int .i64 (-64), .int .i64 1, .int .i64 0]) ∧ w' = w := by
  have h := sread_any ⟨#[127]⟩ w (by decide)
  have e : rs ⟨#[127]⟩ (-9223372036854775808) 9223372036854775807 = (-64, 1, 0) := by decide +kernel
  rw [e] at h
  exact h
theorem fx4 (w : World) (o : Obj) (ho : o = .cells #[.int .u64 300, .int .u64 0] 29 (0, 0)) : Calls Try.prog 12 #[.slice (some ⟨w.heap.size, 0, none⟩) 2 2] (w.alloc o) fun e w' => e = .returned (.string ⟨#[172, 2, 0]⟩) ∧ Below w.heap.size w w' := by
  subst ho
  have h := put_any (some ⟨w.heap.size, 0, none⟩) 2 [300, 0] (w.alloc (.cells #[.int .u64 300, .int .u64 0] 29 (0, 0))) (by intro z hz; simp at hz; omega) (by decide) (by decide +kernel) (Or.inr ⟨w.heap.size, 0, rfl, by simp, fun j hj => by
    match j, hj with
    | 0, _ => simp
    | 1, _ => simp⟩)
  have e : bs (forms [300, 0]) = ⟨#[172, 2, 0]⟩ := by decide +kernel
  rw [e] at h
  exact h.mono fun e w' ⟨h1, h2⟩ => ⟨h1, ((Below.refl _ _).alloc (Nat.le_refl _) _).trans (h2.mono (by simp))⟩
theorem fx5 (w : World) : Calls Try.prog 22 #[.int .i64 (-1)] w fun e w' => e = .returned (.int .u64 1) ∧ w' = w := zz_any (-1) w (by decide) (by decide)
set_option maxHeartbeats 1000000 in
set_option maxRecDepth 20000 in
theorem fixed_any (w : World) : Calls Try.prog 9 #[] w fun e w' => e = .returned (.bool true) ∧ Below w.heap.size w w' := by
  go_enter Try.func9, Try.ntmps9
  go_wp2_with (first | (go_at_call 36; refine (fx1 _).mono ?_; rintro e w' ⟨rfl, rfl⟩) | (go_at_call 38; refine (fx2 _).mono ?_; rintro e w' ⟨rfl, rfl⟩) | (go_at_call 37; refine (fx3 _).mono ?_; rintro e w' ⟨rfl, rfl⟩) | (go_at_call 12; refine (fx4 _ _ rfl).mono ?_; rintro e w' ⟨rfl, hb⟩) | (go_at_call 22; refine (fx5 _).mono ?_; rintro e w' ⟨rfl, rfl⟩))
  go_ret
  exact ⟨rfl, by assumption⟩
end Go.Proofs.Ytkaoipckjilnbaa
