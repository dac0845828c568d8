/- Bound, and the answers that the document fixes. -/
import Derived.Test.YtdkfenmhfkggdaaUnp
namespace Go.Proofs.Ytdkfenmhfkggdaa
open Go.RowKit
/-- What Bound answers. -/
def bndZ (n : Int) : Int := if n < 0 then 0 else if 1073741824 < n then 1082130432 else n + (n + 127) / 128
set_option maxHeartbeats 1000000 in
theorem bound_any (n : Int) (w : World) : Calls Try.prog 14 #[.int .i64 n] w fun e w' => e = .returned (.int .i64 (bndZ n)) ∧ w' = w := by
  by_cases h0 : n < 0
  · have e : bndZ n = 0 := by unfold bndZ; rw [if_pos h0]
    rw [e]
    clear e
    go_enter Try.func14, Try.ntmps14
    go_wp2_with fail
    go_ret
    exact ⟨rfl, rfl⟩
  · by_cases h1 : 1073741824 < n
    · have e : bndZ n = 1082130432 := by unfold bndZ; rw [if_neg h0, if_pos h1]
      rw [e]
      have h0' : (0 : Int) < n := by omega
      clear e
      go_enter Try.func14, Try.ntmps14
      go_wp2_with fail
      go_ret
      exact ⟨rfl, rfl⟩
    · have HE : Hid (bndZ n = n + (n + 127) / 128) := by show bndZ n = _; unfold bndZ; rw [if_neg h0, if_neg h1]
      have h0' : (0 : Int) ≤ n := by omega
      have h1' : n ≤ 1073741824 := by omega
      generalize bndZ n = R at *
      clear h0 h1
      go_enter Try.func14, Try.ntmps14
      go_wp2_with fail
      all_goals
        go_ret
        exact ⟨ret_int (by rw [HE.out]; omega), rfl⟩
theorem fx1 (w : World) : Calls Try.prog 16 #[.string ⟨#[2, 97, 98, 99, 130, 0, 3, 0, 100]⟩, .int .i64 10, .int .i64 10] w fun e w' => e = .returned (.tuple #[.string ⟨#[97, 98, 99, 97, 98, 99, 97, 98, 99, 100]⟩, .int .i64 0]) ∧ Below w.heap.size w w' := by
  have h := unpack_any ⟨#[2, 97, 98, 99, 130, 0, 3, 0, 100]⟩ 10 10 w (by omega) (fun _ _ => by omega)
  have e : unZ [2, 97, 98, 99, 130, 0, 3, 0, 100] 10 10 = .tuple #[.string ⟨#[97, 98, 99, 97, 98, 99, 97, 98, 99, 100]⟩, .int .i64 0] := by
    unfold unZ
    rw [if_neg (by omega), show (10 : Int).toNat = 10 from rfl, M.un_abc]
    rfl
  rw [show (⟨#[2, 97, 98, 99, 130, 0, 3, 0, 100]⟩ : ByteArray).data.toList = [2, 97, 98, 99, 130, 0, 3, 0, 100] from rfl, e] at h
  exact h
theorem fx2 (w : World) : Calls Try.prog 16 #[.string ⟨#[128, 0, 1]⟩, .int .i64 4, .int .i64 9] w fun e w' => e = .returned (.tuple #[.string ⟨#[]⟩, .int .i64 25]) ∧ Below w.heap.size w w' := by
  have h := unpack_any ⟨#[128, 0, 1]⟩ 4 9 w (by omega) (fun _ _ => by omega)
  have e : unZ [128, 0, 1] 4 9 = .tuple #[.string ⟨#[]⟩, .int .i64 25] := by
    unfold unZ
    rw [if_neg (by omega), show (4 : Int).toNat = 4 from rfl, M.un_bad]
    rfl
  rw [show (⟨#[128, 0, 1]⟩ : ByteArray).data.toList = [128, 0, 1] from rfl, e] at h
  exact h
theorem fx3 (w : World) : Calls Try.prog 12 #[.string ⟨#[97, 98, 99, 97, 98, 99, 97, 98, 99, 100]⟩, .int .i64 3] w fun e w' => e = .returned (.tuple #[.int .i64 6, .int .i64 3]) ∧ Below w.heap.size w w' := by
  have h := best_in ⟨#[97, 98, 99, 97, 98, 99, 97, 98, 99, 100]⟩ 3 w (by decide) (by decide)
  rw [show (⟨#[97, 98, 99, 97, 98, 99, 97, 98, 99, 100]⟩ : ByteArray).data.toList = [97, 98, 99, 97, 98, 99, 97, 98, 99, 100] from rfl, M.best_abc] at h
  exact h
theorem fx4 (w : World) : Calls Try.prog 10 #[.string ⟨#[97, 98, 99, 97, 98, 99, 97, 98, 99, 100]⟩] w fun e w' => e = .returned (.string ⟨#[2, 97, 98, 99, 130, 0, 3, 0, 100]⟩) ∧ Below w.heap.size w w' := by
  have h := pack_any ⟨#[97, 98, 99, 97, 98, 99, 97, 98, 99, 100]⟩ w (by decide)
  rw [show (⟨#[97, 98, 99, 97, 98, 99, 97, 98, 99, 100]⟩ : ByteArray).data.toList = [97, 98, 99, 97, 98, 99, 97, 98, 99, 100] from rfl, M.pack_abc] at h
  exact h
theorem fx5 (w : World) : Calls Try.prog 14 #[.int .i64 129] w fun e w' => e = .returned (.int .i64 131) ∧ w' = w := bound_any 129 w
set_option maxHeartbeats 1000000 in
set_option maxRecDepth 20000 in
theorem fixed_any (w : World) : Calls Try.prog 9 #[] w fun e w' => e = .returned (.bool true) ∧ Below w.heap.size w w' := by
  go_enter Try.func9, Try.ntmps9
  go_wp2_with fail
  refine (fx1 _).mono ?_
  rintro e w1 ⟨rfl, hb1⟩
  go_wp2_with fail
  refine (fx2 _).mono ?_
  rintro e w2 ⟨rfl, hb2⟩
  have hb2' := bel_bel hb1 hb2 hb1.size
  clear hb1 hb2
  go_wp2_with fail
  refine (fx3 _).mono ?_
  rintro e w3 ⟨rfl, hb3⟩
  have hb3' := bel_bel hb2' hb3 hb2'.size
  clear hb2' hb3
  go_wp2_with fail
  refine (fx4 _).mono ?_
  rintro e w4 ⟨rfl, hb4⟩
  have hb4' := bel_bel hb3' hb4 hb3'.size
  clear hb3' hb4
  go_wp2_with fail
  refine (fx5 _).mono ?_
  rintro e w5 ⟨rfl, rfl⟩
  go_wp2_with fail
  go_ret
  exact ⟨rfl, hb4'⟩
end Go.Proofs.Ytdkfenmhfkggdaa
