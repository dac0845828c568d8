import Derived.Test.YtlbkkeoffeohnabRecN
import Derived.Test.YtlbkkeoffeohnabSiz
import Derived.Deep.QuietTactic
import Derived.BigQuiet
import Derived.Deep.RegionHeld3
import Derived.Deep.DeepCutAuto
/- How many bytes a record's form has, as the program counts them; nothing that was there before is turned. -/
namespace Go.Proofs.Ytlbkkeoffeohnab
open Go.RowKit
theorem drewN_bel {w0 w : World} {B : Nat} (hb : Below B w0 w) (n : Nat) : Below B w0 (w.drewN n) := ⟨hb.os, hb.tape, hb.output, hb.size, hb.block⟩
theorem hid {p : Prop} (h : p) : Hid p := h
set_option maxHeartbeats 1000000 in
set_option maxRecDepth 20000 in
theorem optsize_any (h : Bool) (d : ByteArray) (w : World) (hd : d.size ≤ 1000000000000000000) :
    Calls Try.prog 41 #[.agg #[.bool h, .string d]] w fun e w' => e = .returned (.int .i64 (ol h d).length) ∧ Below w.heap.size w w' := by
  cases h with
  | false =>
    go_enter Try.func41, Try.ntmps41
    go_wp2_with (go_at_call 45; refine (ssizeInt_any (-1) _ (by omega) (by omega)).mono ?_; rintro e w' ⟨rfl, rfl⟩)
    go_ret
    exact ⟨rfl, (Below.refl _ w).alloc (Nat.le_refl _) _⟩
  | true =>
    have hfl := M.form_le (2 * d.size)
    have hc := fun w => ssizeInt_any (d.size : Int) w (by omega) (by omega)
    rw [zz_nat] at hc
    have HE : Hid ((ol true d).length = (M.form (2 * d.size)).length + d.size) := by unfold Hid ol; rw [if_pos rfl, List.length_append, bl_len]
    have HC := hid hc
    clear hc
    go_enter Try.func41, Try.ntmps41
    go_wp2_with fail
    go_quiet ((go_at_call 45; exact Calls.quiet_of_same (HC.out _)))
    go_wp2
    go_ret
    exact ⟨ret_int (by rw [HE.out]; omega), drewN_bel ((Below.refl _ w).alloc (Nat.le_refl _) _) _⟩
set_option maxHeartbeats 1000000 in
set_option maxRecDepth 20000 in
theorem textsize_any (d : ByteArray) (w : World) (hd : d.size ≤ 1000000000000000000) :
    Calls Try.prog 42 #[.string d] w fun e w' => e = .returned (.int .i64 (tx d).length) ∧ Below w.heap.size w w' := by
  have hfl := M.form_le d.size
  have hc := fun w => size_any (d.size : Int) w (by omega) (by omega)
  rw [Int.toNat_natCast] at hc
  have HE : Hid ((tx d).length = (M.form d.size).length + d.size) := by unfold Hid tx; rw [List.length_append, bl_len]
  have HC := hid hc
  have hsz : M.size d.size = (M.form d.size).length := rfl
  clear hc
  go_enter Try.func42, Try.ntmps42
  go_wp2_with (go_at_call 39; refine (HC.out _).mono ?_; rintro e w' ⟨rfl, rfl⟩)
  go_ret
  exact ⟨ret_int (by rw [HE.out]; omega), Below.refl _ _⟩
end Go.Proofs.Ytlbkkeoffeohnab
