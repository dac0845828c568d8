/- Remove. -/
import Derived.Test.YthjbhfhdepepmabDop
namespace Go.Proofs.Ythjbhfhdepepmab
open Go.RowKit
def rmV (nm : ByteArray) (V : Vw) : Vw := vdel nm V
theorem vdel_no {nm : ByteArray} {V : Vw} (h : vl nm V = none) : vdel nm V = V := by
  unfold vdel
  refine List.filter_eq_self.2 (fun y hy => ?_)
  unfold vl at h
  rw [Option.map_eq_none_iff] at h
  have := List.find?_eq_none.1 h y hy
  simpa using this
theorem fil_mid {nm : ByteArray} {l r : List Fl} {f : Fl} (hl : ∀ x ∈ l, x.nm ≠ nm) (hr : ∀ x ∈ r, x.nm ≠ nm) (hf : f.nm = nm) : vdel nm (vw (l ++ f :: r)) = vw (l ++ r) := by
  unfold vdel vw
  rw [List.map_append, List.map_cons, List.filter_append, List.filter_cons, List.map_append]
  simp only [hf, ne_eq, not_true_eq_false, decide_false, Bool.false_eq_true, if_false]
  congr 1
  · refine List.filter_eq_self.2 (fun y hy => ?_)
    obtain ⟨x, hx, rfl⟩ := List.mem_map.1 hy
    simpa using hl x hx
  · refine List.filter_eq_self.2 (fun y hy => ?_)
    obtain ⟨x, hx, rfl⟩ := List.mem_map.1 hy
    simpa using hr x hx
theorem dm_del {nm : ByteArray} {l r : List Fl} {f : Fl} (hl : ∀ x ∈ l, x.nm ≠ nm) (hr : ∀ x ∈ r, x.nm ≠ nm) (hf : f.nm = nm) : (dm (l ++ f :: r)).del (.string nm.data.toList) = dm (l ++ r) := by
  unfold dm
  rw [DataW.del_eq]
  unfold ChangeMaps.delKey
  rw [List.map_append, List.map_cons, List.filter_append, List.filter_cons, List.map_append]
  have e0 : ChangeMaps.notKey (.string nm.data.toList) (ent f) = false := by unfold ChangeMaps.notKey; rw [same_nm]; simp [hf]
  have e1 : ∀ x, x.nm ≠ nm → ChangeMaps.notKey (.string nm.data.toList) (ent x) = true := fun x hx => by unfold ChangeMaps.notKey; rw [same_nm]; simp [hx]
  rw [e0]
  simp only [Bool.false_eq_true, if_false]
  congr 2
  · refine List.filter_eq_self.2 (fun y hy => ?_)
    obtain ⟨x, hx, rfl⟩ := List.mem_map.1 hy
    exact e1 x (hl x hx)
  · refine List.filter_eq_self.2 (fun y hy => ?_)
    obtain ⟨x, hx, rfl⟩ := List.mem_map.1 hy
    exact e1 x (hr x hx)
/-- A map's bound is its number of entries. -/
theorem own_tight {w : World} {b n : Nat} {fs : List Fl} (h : w.ownsMap Try.prog 9 RP b n (dm fs)) : w.ownsMap Try.prog 9 RP b fs.length (dm fs) := by
  obtain ⟨es, clock, hb, F, hs, hD⟩ := h
  refine ⟨es, clock, hb, F, ?_, hD⟩
  unfold dm at hD
  injection hD with hD
  have := congrArg List.length hD
  rw [length_sorted, List.length_map, List.length_map] at this
  simp at this
  omega
end Go.Proofs.Ythjbhfhdepepmab
