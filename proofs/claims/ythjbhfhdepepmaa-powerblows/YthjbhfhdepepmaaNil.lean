/- What a nil disk answers. -/
import Derived.Test.YthjbhfhdepepmaaFac
namespace Go.Proofs.Ythjbhfhdepepmaa
open Go.RowKit
set_option maxHeartbeats 1000000 in
theorem room_nil (w : World) : Calls Try.prog 60 #[.pointer none] w fun e w' => e = .returned (.int .i64 0) ∧ w' = w := by
  go_enter Try.func60, Try.ntmps60
  go_wp2
  go_ret
  exact ⟨rfl, rfl⟩
set_option maxHeartbeats 1000000 in
theorem used_nil (w : World) : Calls Try.prog 38 #[.pointer none] w fun e w' => e = .returned (.int .i64 0) ∧ w' = w := by
  go_enter Try.func38, Try.ntmps38
  go_wp2
  go_ret
  exact ⟨rfl, rfl⟩
set_option maxHeartbeats 1000000 in
theorem reads_nil (w : World) : Calls Try.prog 63 #[.pointer none] w fun e w' => e = .returned (.tuple #[.int .i64 0, .int .i64 0]) ∧ w' = w := by
  go_enter Try.func63, Try.ntmps63
  go_wp2
  go_ret2
  exact ⟨rfl, rfl⟩
set_option maxHeartbeats 1000000 in
theorem list_nil (w : World) : Calls Try.prog 39 #[.pointer none] w fun e w' => e = .returned (.slice none 0 0) ∧ w' = w := by
  go_enter Try.func39, Try.ntmps39
  go_wp2
  go_ret
  exact ⟨rfl, rfl⟩
set_option maxHeartbeats 1000000 in
theorem clone_nil (w : World) : Calls Try.prog 33 #[.pointer none] w fun e w' => e = .returned (.pointer none) ∧ w' = w := by
  go_enter Try.func33, Try.ntmps33
  go_wp2
  go_ret
  exact ⟨rfl, rfl⟩
set_option maxHeartbeats 1000000 in
theorem size_nil (nm : ByteArray) (w : World) : Calls Try.prog 36 #[.pointer none, .string nm] w fun e w' => e = .returned (.tuple #[.int .i64 0, .int .i64 4]) ∧ w' = w := by
  have HF := hid (file_nil nm w)
  go_enter Try.func36, Try.ntmps36
  go_wp2_with (go_at_call 66; refine HF.out.mono ?_; rintro e w' ⟨rfl, rfl⟩)
  go_ret2
  exact ⟨rfl, rfl⟩
set_option maxHeartbeats 1000000 in
theorem synced_nil (nm : ByteArray) (w : World) : Calls Try.prog 35 #[.pointer none, .string nm] w fun e w' => e = .returned (.tuple #[.int .i64 0, .int .i64 4]) ∧ w' = w := by
  have HF := hid (file_nil nm w)
  go_enter Try.func35, Try.ntmps35
  go_wp2_with (go_at_call 66; refine HF.out.mono ?_; rintro e w' ⟨rfl, rfl⟩)
  go_ret2
  exact ⟨rfl, rfl⟩
set_option maxHeartbeats 1000000 in
theorem sync_nil (nm : ByteArray) (w : World) : Calls Try.prog 45 #[.pointer none, .string nm] w fun e w' => e = .returned (.int .i64 4) ∧ w' = w := by
  have HF := hid (file_nil nm w)
  go_enter Try.func45, Try.ntmps45
  go_wp2_with (go_at_call 66; refine HF.out.mono ?_; rintro e w' ⟨rfl, rfl⟩)
  go_ret
  exact ⟨rfl, rfl⟩
set_option maxHeartbeats 1000000 in
theorem remove_nil (nm : ByteArray) (w : World) : Calls Try.prog 77 #[.pointer none, .string nm] w fun e w' => e = .returned (.int .i64 4) ∧ w' = w := by
  have HF := hid (file_nil nm w)
  go_enter Try.func77, Try.ntmps77
  go_wp2_with (go_at_call 66; refine HF.out.mono ?_; rintro e w' ⟨rfl, rfl⟩)
  go_ret
  exact ⟨rfl, rfl⟩
set_option maxHeartbeats 1000000 in
theorem cut_nil (nm : ByteArray) (a : Int) (w : World) : Calls Try.prog 78 #[.pointer none, .string nm, .int .i64 a] w fun e w' => e = .returned (.int .i64 4) ∧ w' = w := by
  have HF := hid (file_nil nm w)
  go_enter Try.func78, Try.ntmps78
  go_wp2_with (go_at_call 66; refine HF.out.mono ?_; rintro e w' ⟨rfl, rfl⟩)
  go_ret
  exact ⟨rfl, rfl⟩
set_option maxHeartbeats 1000000 in
theorem over_nil (nm : ByteArray) (a : Int) (s : ByteArray) (w : World) : Calls Try.prog 81 #[.pointer none, .string nm, .int .i64 a, .string s] w fun e w' => e = .returned (.int .i64 4) ∧ w' = w := by
  have HF := hid (file_nil nm w)
  go_enter Try.func81, Try.ntmps81
  go_wp2_with (go_at_call 66; refine HF.out.mono ?_; rintro e w' ⟨rfl, rfl⟩)
  go_ret
  exact ⟨rfl, rfl⟩
set_option maxHeartbeats 1000000 in
theorem append_nil (nm : ByteArray) (s : ByteArray) (w : World) : Calls Try.prog 30 #[.pointer none, .string nm, .string s] w fun e w' => e = .returned (.tuple #[.int .i64 0, .int .i64 4]) ∧ w' = w := by
  have HF := hid (file_nil nm w)
  go_enter Try.func30, Try.ntmps30
  go_wp2_with (go_at_call 66; refine HF.out.mono ?_; rintro e w' ⟨rfl, rfl⟩)
  go_ret2
  exact ⟨rfl, rfl⟩
set_option maxHeartbeats 1000000 in
theorem read_nil (nm : ByteArray) (a n : Int) (w : World) : Calls Try.prog 37 #[.pointer none, .string nm, .int .i64 a, .int .i64 n] w fun e w' => e = .returned (.tuple #[.string ⟨#[]⟩, .int .i64 4]) ∧ w' = w := by
  have HF := hid (file_nil nm w)
  go_enter Try.func37, Try.ntmps37
  go_wp2_with (go_at_call 66; refine HF.out.mono ?_; rintro e w' ⟨rfl, rfl⟩)
  go_ret2
  exact ⟨rfl, rfl⟩
def crN (nm : ByteArray) : Nat := if 1 ≤ nm.size ∧ nm.size ≤ 255 then 2 else 3
set_option maxHeartbeats 1000000 in
theorem create_nil (nm : ByteArray) (w : World) : Calls Try.prog 28 #[.pointer none, .string nm] w fun e w' => e = .returned (.int .i64 (crN nm)) ∧ w' = w := by
  have HF := hid (file_nil nm w)
  have HG := hid (good_any nm w)
  unfold crN
  by_cases hg : 1 ≤ nm.size ∧ nm.size ≤ 255
  · rw [show decide (1 ≤ nm.size ∧ nm.size ≤ 255) = true from decide_eq_true hg] at HG
    rw [if_pos hg]
    clear hg
    go_enter Try.func28, Try.ntmps28
    go_wp2_with (first | (go_at_call 65; refine HG.out.mono ?_; rintro e w' ⟨rfl, rfl⟩) | (go_at_call 66; refine HF.out.mono ?_; rintro e w' ⟨rfl, rfl⟩))
    go_ret
    exact ⟨rfl, rfl⟩
  · rw [show decide (1 ≤ nm.size ∧ nm.size ≤ 255) = false from decide_eq_false hg] at HG
    rw [if_neg hg]
    clear hg HF
    go_enter Try.func28, Try.ntmps28
    go_wp2_with (go_at_call 65; refine HG.out.mono ?_; rintro e w' ⟨rfl, rfl⟩)
    go_ret
    exact ⟨rfl, rfl⟩
end Go.Proofs.Ythjbhfhdepepmaa
