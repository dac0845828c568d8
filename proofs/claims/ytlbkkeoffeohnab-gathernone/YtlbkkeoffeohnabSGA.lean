import Derived.Test.YtlbkkeoffeohnabSamG
/- Same of any two records. -/
namespace Go.Proofs.Ytlbkkeoffeohnab
open Go.RowKit
/-- Two headers say the same. -/
def hq (x z : Hdr) : Prop := x.1 = z.1 ∧ x.2.1 = z.2.1 ∧ bd x.2.1 x.2.2 = bd z.2.1 z.2.2
/-- Two records say the same. -/
def SamR (r s : Rec) : Prop := r.t = s.t ∧ (r.kh = s.kh ∧ bd r.kh r.kd = bd s.kh s.kd) ∧ (r.vh = s.vh ∧ bd r.vh r.vd = bd s.vh s.vd) ∧ r.hs.length = s.hs.length ∧ ∀ j, j < r.hs.length → hq (r.hs.getD j df) (s.hs.getD j df)
noncomputable def sameB (r s : Rec) : Bool := @decide (SamR r s) (Classical.propDecidable _)
theorem sameB_yes {r s : Rec} (h : SamR r s) : sameB r s = true := @decide_eq_true _ (Classical.propDecidable _) h
theorem sameB_no {r s : Rec} (h : ¬ SamR r s) : sameB r s = false := @decide_eq_false _ (Classical.propDecidable _) h
theorem first_bad (P : Nat → Prop) : ∀ n, (∀ j, j < n → P j) ∨ ∃ j0, j0 < n ∧ ¬ P j0 ∧ ∀ j, j < j0 → P j
  | 0 => Or.inl (fun j hj => by omega)
  | n + 1 => by
    rcases first_bad P n with h | ⟨j0, h1, h2, h3⟩
    · rcases Classical.em (P n) with hp | hp
      · exact Or.inl (fun j hj => by
          rcases Nat.lt_or_ge j n with h4 | h4
          · exact h j h4
          · have : j = n := by omega
            rw [this]; exact hp)
      · exact Or.inr ⟨n, by omega, hp, h⟩
    · exact Or.inr ⟨j0, by omega, h2, h3⟩
end Go.Proofs.Ytlbkkeoffeohnab
