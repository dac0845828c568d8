/- What Size answers of any record: the number of its form's bytes, or why it has none; nothing that was there before is turned. -/
import Derived.Test.YtpfaioncaolmjaaGreatOsz2
namespace Go.Proofs.YtpfaioncaolmjaaGreat
open Go.RowKit
theorem bel_al {w w' : World} {o : Obj} (h : Below (w.alloc o).heap.size (w.alloc o) w') : Below w.heap.size w w' := ((Below.refl _ w).alloc (Nat.le_refl _) o).trans (h.mono (by simp))
/-- Why a record has no form, or 0. -/
def sze (r : Rec) (first n : Int) : Nat := if ¬ (0 ≤ n ∧ n < 65536) then 1 else if ¬ I64 (r.t - first) then 27 else if 1024 < r.hs.length then 5 else if 16777216 < (fm (r.t - first) n.toNat r).length then 66 else 0
/-- How many bytes its form has. -/
def szn (r : Rec) (first n : Int) : Nat := if sze r first n = 0 then (fm (r.t - first) n.toNat r).length else 0
theorem sze_ok {r : Rec} {first n : Int} (h : sze r first n = 0) : (0 ≤ n ∧ n < 65536) ∧ I64 (r.t - first) ∧ r.hs.length ≤ 1024 ∧ (fm (r.t - first) n.toNat r).length ≤ 16777216 := by
  unfold sze at h
  split at h
  · cases h
  · split at h
    · cases h
    · split at h
      · cases h
      · split at h
        · cases h
        · rename_i h1 h2 h3 h4
          exact ⟨by omega, by simpa using h2, by omega, by omega⟩
/-- What the program's counting asks: nothing too great for any machine. -/
structure Mod (r : Rec) : Prop where
  k : r.kd.size ≤ 1000000000000000000
  v : r.vd.size ≤ 1000000000000000000
  h : Small r.hs
  n : r.hs.length ≤ 9223372036854775807
  all : 100 + (ol r.kh r.kd).length + (ol r.vh r.vd).length + (hl r.hs).length ≤ 100000000000000000
theorem own_le (d : Int) (n : Nat) (r : Rec) (hm : Mod r) : (own d n r).length ≤ 100000000000000000 := by
  have := hm.all
  have h1 := M.form_le (M.zz d).toNat
  have h2 := M.form_le n
  have h3 := M.form_le r.hs.length
  simp only [own, List.length_append, List.length_cons, List.length_nil]
  omega
end Go.Proofs.YtpfaioncaolmjaaGreat
