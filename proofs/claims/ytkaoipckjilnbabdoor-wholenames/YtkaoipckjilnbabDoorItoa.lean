/- What an Errno from 0 to 99 says: a text that isn't empty; the world stays as it was. -/
import Derived.Test.YtkaoipckjilnbabDoorRows
import Derived.WalkKit
import Derived.WalkSpells
import Derived.WalkLawsBesides
namespace Go.Proofs.YtkaoipckjilnbabDoor
open Go.RowKit
theorem full_of (s t : ByteArray) (h : 0 < s.size) : (s ++ t).toList.isEmpty = false := by
  rw [ByteArray.toList_eq, List.isEmpty_eq_false_iff]
  intro e
  have h2 := congrArg List.length e
  rw [Array.length_toList] at h2
  have h3 : (s ++ t).size = 0 := h2
  rw [ByteArray.size_append] at h3
  omega
set_option maxHeartbeats 1000000 in
set_option maxRecDepth 20000 in
theorem small_any (i : Int) (w : World) (h0 : 0 ≤ i) (h1 : i < 100) : Calls Tryd.prog 8 #[.int .i64 i] w fun e w' => ∃ t : ByteArray, e = .returned (.string t) ∧ t.size ≤ 1000 ∧ w' = w := by
  by_cases h : i < 10
  · go_enter Tryd.func8, Tryd.ntmps8
    go_wp2
    go_ret
    exact ⟨_, rfl, by rw [ByteArray.size_extract]; exact Nat.le_trans (Nat.sub_le _ _) (Nat.le_trans (Nat.min_le_right _ _) (by decide)), rfl⟩
  · go_enter Tryd.func8, Tryd.ntmps8
    go_wp2
    go_ret
    exact ⟨_, rfl, by rw [ByteArray.size_extract]; exact Nat.le_trans (Nat.sub_le _ _) (Nat.le_trans (Nat.min_le_right _ _) (by decide)), rfl⟩
set_option maxHeartbeats 1000000 in
theorem fmt_any (i : Int) (w : World) (h0 : 0 ≤ i) (h1 : i < 100) : Calls Tryd.prog 7 #[.int .i64 i, .int .i64 10] w fun e w' => ∃ t : ByteArray, e = .returned (.string t) ∧ t.size ≤ 1000 ∧ w' = w := by
  go_enter Tryd.func7, Tryd.ntmps7
  go_wp2_with (go_at_call 8; refine (small_any _ _ h0 h1).mono ?_; rintro e w' ⟨t, rfl, ht, rfl⟩)
  go_ret
  exact ⟨_, rfl, ht, rfl⟩
theorem itoa_any (i : Int) (w : World) (h0 : 0 ≤ i) (h1 : i < 100) : Calls Tryd.prog 6 #[.int .i64 i] w fun e w' => ∃ t : ByteArray, e = .returned (.string t) ∧ t.size ≤ 1000 ∧ w' = w := by
  go_enter Tryd.func6, Tryd.ntmps6
  go_wp2_with (go_at_call 7; refine (fmt_any _ _ h0 h1).mono ?_; rintro e w' ⟨t, rfl, ht, rfl⟩)
  go_ret
  exact ⟨_, rfl, ht, rfl⟩
theorem sitoa_any (i : Int) (w : World) (h0 : 0 ≤ i) (h1 : i < 100) : Calls Tryd.prog 5 #[.int .i64 i] w fun e w' => ∃ t : ByteArray, e = .returned (.string t) ∧ t.size ≤ 1000 ∧ w' = w := by
  go_enter Tryd.func5, Tryd.ntmps5
  go_wp2_with (go_at_call 6; refine (itoa_any _ _ h0 h1).mono ?_; rintro e w' ⟨t, rfl, ht, rfl⟩)
  go_ret
  exact ⟨_, rfl, ht, rfl⟩
theorem err_any (i : Int) (w : World) (h0 : 0 ≤ i) (h1 : i < 100) : Calls Tryd.prog 4 #[.int .i64 i] w fun e w' => ∃ t : ByteArray, e = .returned (.string t) ∧ t.toList.isEmpty = false ∧ w' = w := by
  go_enter Tryd.func4, Tryd.ntmps4
  go_wp2_with (go_at_call 5; refine (sitoa_any _ _ h0 h1).mono ?_; rintro e w' ⟨t, rfl, ht, rfl⟩)
  go_ret
  exact ⟨_, rfl, full_of _ _ (by decide), rfl⟩
end Go.Proofs.YtkaoipckjilnbabDoor
