/- The document's disk: its block, its files in a row. -/
import Derived.Test.YthjbhfhdepepmaaRvw
import Derived.Test.YthjbhfhdepepmaaDop2
import Derived.Deep.LoopGhost
import Derived.Laws.AppendOwnNone
import Derived.Laws.OwnMore
namespace Go.Proofs.Ythjbhfhdepepmaa
open Go.RowKit
/-- A file's three cells. -/
def rfc (x : ByteArray × List UInt8 × Nat) : List Value := [.string x.1, .string (ba x.2.1), .int .i64 x.2.2]
def rfs (V : Vw) : List Value := V.flatMap rfc
theorem rfs_len (V : Vw) : (rfs V).length = V.length * 3 := by
  induction V with
  | nil => rfl
  | cons r rs ih => simp only [rfs, List.flatMap_cons, List.length_append] at *; rw [ih]; simp [rfc]; omega
theorem rfs_app (a b : Vw) : rfs (a ++ b) = rfs a ++ rfs b := by simp [rfs]
theorem rfs_cons (x : ByteArray × List UInt8 × Nat) (b : Vw) : rfs (x :: b) = rfc x ++ rfs b := rfl
theorem rfs_one (V : Vw) : ∀ u ∈ rfs V, u.oneCell' = true := by
  intro u hu
  simp only [rfs, List.mem_flatMap] at hu
  obtain ⟨r, _, h⟩ := hu
  simp only [rfc, List.mem_cons, List.not_mem_nil, or_false] at h
  rcases h with rfl | rfl | rfl <;> rfl
theorem rfs_at (l r : Vw) (x : ByteArray × List UInt8 × Nat) (k : Nat) (hk : k < 3) : (rfs (l ++ x :: r))[l.length * 3 + k]? = (rfc x)[k]? := by
  rw [rfs_app, rfs_cons, List.getElem?_append_right (by rw [rfs_len]; omega), rfs_len, show l.length * 3 + k - l.length * 3 = k from by omega, List.getElem?_append_left (by show k < 3; exact hk)]
theorem rfs_set (l r : Vw) (x y : ByteArray × List UInt8 × Nat) (k : Nat) (u : Value) (hk : k < 3) (h : (rfc x).set k u = rfc y) : (rfs (l ++ x :: r)).set (l.length * 3 + k) u = rfs (l ++ y :: r) := by
  rw [rfs_app, rfs_cons, List.set_append_right _ _ (by rw [rfs_len]; omega), rfs_len, show l.length * 3 + k - l.length * 3 = k from by omega, List.set_append_left _ _ (by show k < 3; exact hk), h, rfs_app, rfs_cons]
/-- The document's disk. -/
structure Rk (w : World) (d : Nat) (fl : Value) (rm : Nat) (cl cb : Int) (V : Vw) : Prop where
  blk : w.heap[d]? = some (.cells #[.int .i64 rm, fl, .int .i64 cl, .int .i64 cb] 77 (0, 0))
  row : w.ownsRow 0 74 3 fl V.length (rfs V)
def Rt (d : Nat) (fl : Value) (i : Nat) : Prop := i = d ∨ fl.ownBlock = some i
def Rs (w : World) (d : Nat) (ft : Nat → Prop) (rm : Nat) (cl cb : Int) (V : Vw) : Prop := ∃ fl, Rk w d fl rm cl cb V ∧ ft = Rt d fl
def RAft (w : World) (ft : Nat → Prop) (d : Nat) (rm : Nat) (cl cb : Int) (V : Vw) (w' : World) : Prop := ∃ ft', Rs w' d ft' rm cl cb V ∧ Ch ft w w' ∧ ∀ i, ft' i → ft i ∨ w.heap.size ≤ i
section
variable {w w' : World} {d : Nat} {fl : Value} {rm : Nat} {cl cb : Int} {V : Vw} {S ft : Nat → Prop}
theorem Rk.lt (h : Rk w d fl rm cl cb V) {i : Nat} (hi : Rt d fl i) : i < w.heap.size := by
  rcases hi with rfl | hi
  · exact lt_of_heap h.blk
  · exact (h.row.lt i hi).2
theorem Rk.ch (h : Rk w d fl rm cl cb V) (hc : Ch S w w') (hS : ∀ i, Rt d fl i → ¬ S i) : Rk w' d fl rm cl cb V :=
  ⟨(hc.block d (lt_of_heap h.blk) (hS d (Or.inl rfl))).trans h.blk, own_ch h.row hc (fun i hi => hS i (Or.inr hi))⟩
theorem Rs.lt (h : Rs w d ft rm cl cb V) {i : Nat} (hi : ft i) : i < w.heap.size := by
  obtain ⟨fl, h1, rfl⟩ := h
  exact h1.lt hi
theorem Rs.ch (h : Rs w d ft rm cl cb V) (hc : Ch S w w') (hS : ∀ i, ft i → ¬ S i) : Rs w' d ft rm cl cb V := by
  obtain ⟨fl, h1, rfl⟩ := h
  exact ⟨fl, h1.ch hc hS, rfl⟩
theorem Rs.drewN (h : Rs w d ft rm cl cb V) (k : Nat) : Rs (w.drewN k) d ft rm cl cb V := h.ch ((Ch.refl (fun _ => False) w).drewN k) (fun _ _ hi => hi)
theorem Rk.c0 (h : Rk w d fl rm cl cb V) : w.cell? ⟨d, 0, none⟩ = some (.int .i64 rm) := (cell_of h.blk).trans rfl
theorem Rk.c1 (h : Rk w d fl rm cl cb V) : w.cell? ⟨d, 1, none⟩ = some fl := (cell_of h.blk).trans rfl
theorem Rk.c2 (h : Rk w d fl rm cl cb V) : w.cell? ⟨d, 2, none⟩ = some (.int .i64 cl) := (cell_of h.blk).trans rfl
theorem Rk.c3 (h : Rk w d fl rm cl cb V) : w.cell? ⟨d, 3, none⟩ = some (.int .i64 cb) := (cell_of h.blk).trans rfl
theorem Rk.fz (h : Rk w d fl rm cl cb V) (i : Nat) : w.frozen? ⟨d, i, none⟩ = false := froz_of h.blk
theorem Rk.ne (h : Rk w d fl rm cl cb V) {g : Nat} (hg : fl.ownBlock = some g) : g ≠ d := by
  rintro rfl
  rcases h.row.2 with ⟨rfl, _⟩ | ⟨g', cap, cur, rfl, _, hh, _⟩
  · cases hg
  · injection hg with hg
    subst hg
    rw [h.blk] at hh
    injection hh with hh
    injection hh with _ hh _
    exact absurd hh (by decide)
theorem Rk.form (h : Rk w d fl rm cl cb V) : (fl = .slice none 0 0 ∧ V = []) ∨ ∃ g cap, fl = .slice (some ⟨g, 0, none⟩) V.length cap ∧ (∀ j, j < V.length * 3 → w.cell? ⟨g, j, none⟩ = (rfs V)[j]?) ∧ (∀ j, w.frozen? ⟨g, j, none⟩ = false) ∧ g ≠ d := by
  have hr := h.row
  have hne := fun g hg => h.ne (g := g) hg
  rcases hr.2 with ⟨rfl, h2⟩ | ⟨g, cap, cur, rfl, r⟩
  · exact Or.inl ⟨rfl, List.eq_nil_of_length_eq_zero h2⟩
  · exact Or.inr ⟨g, cap, rfl, fun j hj => hr.cellAt j hj, fun j => hr.frozenAt j, hne g rfl⟩
end
end Go.Proofs.Ythjbhfhdepepmaa
