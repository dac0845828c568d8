/- What Body answers of any records. -/
import Derived.Test.YtoohmbkgdmmghaaRecL
namespace Go.Proofs.Ytoohmbkgdmmghaa
open Go.RowKit
theorem iscount_any (n : Int) (w : World) : Calls Try.prog 19 #[.int .i64 n] w fun e w' => e = .returned (.bool (decide (1 ≤ n ∧ n ≤ 65536))) ∧ w' = w := by
  by_cases h1 : 1 ≤ n
  · by_cases h2 : n ≤ 65536
    · rw [decide_eq_true ⟨h1, h2⟩]
      go_enter Try.func19, Try.ntmps19
      go_wp2
      go_ret
      exact ⟨rfl, rfl⟩
    · rw [decide_eq_false (fun h => h2 h.2)]
      go_enter Try.func19, Try.ntmps19
      go_wp2
      go_ret
      exact ⟨rfl, rfl⟩
  · rw [decide_eq_false (fun h => h1 h.1)]
    go_enter Try.func19, Try.ntmps19
    go_wp2
    go_ret
    exact ⟨rfl, rfl⟩
theorem iscount_yes (n : Int) (w : World) (h : 1 ≤ n ∧ n ≤ 65536) : Calls Try.prog 19 #[.int .i64 n] w fun e w' => e = .returned (.bool true) ∧ w' = w := by
  have := iscount_any n w
  rw [decide_eq_true h] at this
  exact this
theorem iscount_no (n : Int) (w : World) (h : ¬ (1 ≤ n ∧ n ≤ 65536)) : Calls Try.prog 19 #[.int .i64 n] w fun e w' => e = .returned (.bool false) ∧ w' = w := by
  have := iscount_any n w
  rw [decide_eq_false h] at this
  exact this
/-- Why records have no body, or 0, with the count. -/
def BodyE (l : List RI) (E : Nat) : Prop := (¬ (1 ≤ l.length ∧ l.length ≤ 65536) ∧ E = 28) ∨ ((1 ≤ l.length ∧ l.length ≤ 65536) ∧ FitE l (l.getD 0 dri).r.t E)
def BodyP (l : List RI) (E : Nat) (S : ByteArray) : Prop := BodyE l E ∧ (E ≠ 0 → S = ⟨#[]⟩) ∧ (E = 0 → S = bs (bdy (l.getD 0 dri).r.t 0 (l.map RI.r)))
end Go.Proofs.Ytoohmbkgdmmghaa
