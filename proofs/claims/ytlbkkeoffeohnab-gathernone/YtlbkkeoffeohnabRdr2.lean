import Derived.Test.YtlbkkeoffeohnabRdr1
/- The record's reader: what headers answers, of whatever bytes, wherever it stands. -/
namespace Go.Proofs.Ytlbkkeoffeohnab
open Go.RowKit
theorem fl_zero {f e : Nat} (h : fl f e = 0) : f = 0 ∧ e = 0 := by
  unfold fl at h
  split at h
  · exact absurd h (by assumption)
  · exact ⟨by omega, h⟩
theorem fl_read {f e e' : Nat} (h : fl f e ≠ 0) (he : e ≠ 0 → e' = e) : fl f e' = fl f e := by
  unfold fl at *
  split
  · rfl
  · rename_i hf; rw [if_neg hf] at h; exact he h
theorem fl_rf {f e : Nat} (b : Bool) (why : Nat) (h : fl f e ≠ 0) : fl (rf b why f e) e = fl f e := by
  unfold rf
  rw [if_neg (fun x => h x.2)]
theorem rf_no (why f e : Nat) : rf false why f e = f := by unfold rf; rw [if_neg (by simp)]
theorem rf_yes {why f e : Nat} (h : fl f e = 0) : rf true why f e = why := by unfold rf; rw [if_pos ⟨rfl, h⟩]
/-- What headers are read, of a reader at k with the faults f and e. -/
def hres (f e : Nat) (p : ByteArray) (k : Nat) : Except Nat (List Hdr × Nat) := if fl f e ≠ 0 then .error (fl f e) else if (uq p k 0).2.2 ≠ 0 then .error (uq p k 0).2.2 else if 1024 < (uq p k 0).1 then .error 5 else hdq p (uq p k 0).1 (uq p k 0).2.1
end Go.Proofs.Ytlbkkeoffeohnab
