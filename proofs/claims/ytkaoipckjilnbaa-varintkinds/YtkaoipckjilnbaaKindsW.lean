/- The walk of VarintKinds: it answers true at all numbers; nothing that was there before is turned. -/
import Derived.Test.YtkaoipckjilnbaaOnes
namespace Go.Proofs.Ytkaoipckjilnbaa
open Go.RowKit
theorem wrap_i8_bd (x : Int) : -128 ≤ IntKind.i8.wrap x ∧ IntKind.i8.wrap x ≤ 127 := by
  simp only [IntKind.wrap, IntKind.bits, IntKind.signed, Bool.true_and]; split <;> rename_i h <;> simp at h <;> omega
theorem wrap_i16_bd (x : Int) : -32768 ≤ IntKind.i16.wrap x ∧ IntKind.i16.wrap x ≤ 32767 := by
  simp only [IntKind.wrap, IntKind.bits, IntKind.signed, Bool.true_and]; split <;> rename_i h <;> simp at h <;> omega
theorem wrap_i32_bd (x : Int) : -2147483648 ≤ wrap32 x ∧ wrap32 x ≤ 2147483647 := by
  simp only [wrap32]; omega
set_option maxHeartbeats 4000000 in
set_option maxRecDepth 20000 in
theorem kinds_walk (u v : Int) (w : World) (hu1 : 0 ≤ u) (hu2 : u ≤ 18446744073709551615) (hv1 : -9223372036854775808 ≤ v) (hv2 : v ≤ 9223372036854775807) :
    Calls Try.prog 5 #[.int .u64 u, .int .i64 v] w fun e w' => e = .returned (.bool true) ∧ Below w.heap.size w w' := by
  have h16 : IntKind.u16.wrap u = u % 65536 := IntKind.wrap_u16 u
  have h32 : IntKind.u32.wrap u = u % 4294967296 := IntKind.wrap_u32' u
  obtain ⟨a1, a2⟩ := wrap_i8_bd v
  obtain ⟨b1, b2⟩ := wrap_i16_bd v
  obtain ⟨c1, c2⟩ := wrap_i32_bd v
  go_enter Try.func5, Try.ntmps5
  go_wp2_with (first | (go_at_call 9; refine (fixed_any _).mono ?_; rintro e w' ⟨rfl, hbel⟩) | (go_at_call 16; refine (put81 _ w _ (by omega) (by omega) (by assumption)).mono ?_; rintro e w' ⟨rfl, hbel⟩) | (go_at_call 12; refine (put1 _ w _ (by omega) (by omega) (by assumption)).mono ?_; rintro e w' ⟨rfl, hbel⟩) | (go_at_call 24; refine (put161 _ w _ (by omega) (by omega) (by assumption)).mono ?_; rintro e w' ⟨rfl, hbel⟩) | (go_at_call 25; refine (putId1 _ w _ (by omega) (by omega) (by assumption)).mono ?_; rintro e w' ⟨rfl, hbel⟩) | (go_at_call 26; refine (putUint1 _ w _ (by omega) (by omega) (by assumption)).mono ?_; rintro e w' ⟨rfl, hbel⟩) | (go_at_call 17; refine (size_any _ _ (by omega) (by omega)).mono ?_; rintro e w' ⟨rfl, rfl⟩) | (go_at_call 27; refine (sizeId_any _ _ (by omega) (by omega)).mono ?_; rintro e w' ⟨rfl, rfl⟩) | (go_at_call 28; refine (sput81 _ w _ (by omega) (by omega) (by assumption)).mono ?_; rintro e w' ⟨rfl, hbel⟩) | (go_at_call 14; refine (sput1 _ w _ (by omega) (by omega) (by assumption)).mono ?_; rintro e w' ⟨rfl, hbel⟩) | (go_at_call 29; refine (sput161 _ w _ (by omega) (by omega) (by assumption)).mono ?_; rintro e w' ⟨rfl, hbel⟩) | (go_at_call 30; refine (sput321 _ w _ (by omega) (by omega) (by assumption)).mono ?_; rintro e w' ⟨rfl, hbel⟩) | (go_at_call 31; refine (sputInt1 _ w _ (by omega) (by omega) (by assumption)).mono ?_; rintro e w' ⟨rfl, hbel⟩) | (go_at_call 23; refine (ssize_any _ _ (by omega) (by omega)).mono ?_; rintro e w' ⟨rfl, rfl⟩) | (go_at_call 32; refine (ssize8_any _ _ (by omega) (by omega)).mono ?_; rintro e w' ⟨rfl, rfl⟩))
  go_ret
  exact ⟨rfl, by assumption⟩
end Go.Proofs.Ytkaoipckjilnbaa
