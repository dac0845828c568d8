/- The document's examples: the call that spells them answers true; nothing that was there before is turned. -/
import Derived.Test.YtoohmbkgdmmghaaRdr5
import Derived.Test.YtoohmbkgdmmghaaByt
namespace Go.Proofs.Ytoohmbkgdmmghaa
open Go.RowKit
def ex1 : Rec := ⟨3, true, ⟨#[]⟩, true, ⟨#[97, 98]⟩, []⟩
def ex2 : Rec := ⟨5, false, ⟨#[]⟩, false, ⟨#[]⟩, []⟩
theorem ex_a : bym ex1 5 1 = ⟨#[8, 0, 3, 1, 0, 4, 97, 98, 0]⟩ := by kernel_rfl
theorem ex_b : sze ex1 5 1 = 0 := by kernel_rfl
theorem ex_c : rd5 ⟨#[6, 0, 0, 0, 1, 1, 0]⟩ 5 0 = .ok (ex2, 7) := by kernel_rfl
theorem ex_d : rd5 ⟨#[6, 0, 0, 0, 1, 1, 0]⟩ 5 1 = .error 27 := by kernel_rfl
theorem ex_m : Mod ex1 := ⟨by decide, by decide, (by intro x hx; cases hx), by decide, by decide⟩
theorem ex_z : (⟨#[6, 0, 0, 0, 1, 1, 0]⟩ : ByteArray).size ≤ 9223372036854775807 := by decide
set_option maxHeartbeats 1000000 in
set_option maxRecDepth 20000 in
theorem forms_any (w : World) :
    Calls Try.prog 5 #[] w fun e w' => e = .returned (.bool true) ∧ Below w.heap.size w w' := by
  have cb := fun x => bytes5_any ex1 none 0 5 1 x (Or.inl rfl) (by decide) (by decide) ex_m
  have cr := fun x => read5_any ⟨#[6, 0, 0, 0, 1, 1, 0]⟩ 5 0 x ex_z (by decide)
  have cs := fun x => read5_any ⟨#[6, 0, 0, 0, 1, 1, 0]⟩ 5 1 x ex_z (by decide)
  rw [ex_a, ex_b] at cb
  rw [ex_c] at cr
  rw [ex_d] at cs
  have CB := hid cb
  have CR := hid cr
  have CS := hid cs
  clear cb cr cs
  go_enter Try.func5, Try.ntmps5
  go_wp2_with fail
  refine (CB.out _).mono ?_
  rintro e w1 ⟨rfl, hb1⟩
  go_wp2_with fail
  refine (CR.out _).mono ?_
  rintro e w2 ⟨hb2, a, cap, rfl, ho⟩
  have HB2 := hid (bel_next hb1 (Nat.le_refl _) hb2)
  have HO := hid ho
  clear ho hb1 hb2
  unfold recV ex2
  go_wp2_with fail
  refine (CS.out _).mono ?_
  rintro e w3 ⟨hb3, rfl, _⟩
  have HB3 := hid (bel_next (HB2.out.alloc HB2.out.size _) (Nat.le_refl _) hb3)
  clear hb3
  unfold noRec
  go_wp2_with fail
  go_ret
  exact ⟨rfl, HB3.out⟩
end Go.Proofs.Ytoohmbkgdmmghaa
