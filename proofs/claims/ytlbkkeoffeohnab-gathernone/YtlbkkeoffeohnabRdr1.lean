import Derived.Test.YtlbkkeoffeohnabSz
import Derived.Test.YtlbkkeoffeohnabSays
import Derived.Test.YtlbkkeoffeohnabAnsd
import Derived.Laws.AppendOwnNone
import Derived.Laws.MakeOwn
/- The record's reader: what failed, what is refused, sums of times; rows of headers of a call's own. -/
namespace Go.Proofs.Ytlbkkeoffeohnab
open Go.RowKit
/-- The first thing that was wrong. -/
def fl (f e : Nat) : Nat := if f ≠ 0 then f else e
/-- A fault is kept unless something was wrong ahead of it. -/
def rf (b : Bool) (why f e : Nat) : Nat := if b = true ∧ fl f e = 0 then why else f
def hc1 (r : Hdr) : List Value := [.string r.1, .bool r.2.1, .string r.2.2]
def hcs (rs : List Hdr) : List Value := rs.flatMap hc1
theorem hcs_app (a b : List Hdr) : hcs (a ++ b) = hcs a ++ hcs b := by simp [hcs]
theorem hcs_one (rs : List Hdr) : ∀ u ∈ hcs rs, u.oneCell' = true := by
  intro u hu
  simp only [hcs, List.mem_flatMap] at hu
  obtain ⟨r, _, h⟩ := hu
  simp only [hc1, List.mem_cons, List.not_mem_nil, or_false] at h
  rcases h with rfl | rfl | rfl <;> rfl
theorem hcs_at (rs : List Hdr) : ∀ j, j < rs.length → (hcs rs)[j * 3]? = some (.string (rs.getD j df).1) ∧ (hcs rs)[j * 3 + 1]? = some (.bool (rs.getD j df).2.1) ∧ (hcs rs)[j * 3 + 2]? = some (.string (rs.getD j df).2.2) := by
  induction rs with
  | nil => intro j hj; simp at hj
  | cons r rs ih =>
    intro j hj
    have e : hcs (r :: rs) = hc1 r ++ hcs rs := rfl
    cases j with
    | zero => rw [e]; exact ⟨rfl, rfl, rfl⟩
    | succ j =>
      have h := ih j (by simpa using hj)
      rw [e]
      have e3 : (hc1 r).length = 3 := rfl
      refine ⟨?_, ?_, ?_⟩
      · rw [List.getElem?_append_right (by omega), e3, show (j + 1) * 3 - 3 = j * 3 from by omega]; exact h.1
      · rw [List.getElem?_append_right (by omega), e3, show (j + 1) * 3 + 1 - 3 = j * 3 + 1 from by omega]; exact h.2.1
      · rw [List.getElem?_append_right (by omega), e3, show (j + 1) * 3 + 2 - 3 = j * 3 + 2 from by omega]; exact h.2.2
/-- A row of headers of the call's own, from B on. -/
def OwnH (w : World) (B : Nat) (v : Value) (rs : List Hdr) : Prop := w.ownsRow B 72 3 v rs.length (hcs rs)
theorem OwnH.slice {w : World} {B : Nat} {v : Value} {rs : List Hdr} (h : OwnH w B v rs) : ∃ a cap, v = .slice a rs.length cap ∧ (a = none → v = .slice none 0 0 ∧ rs.length = 0) ∧ Hds w a rs := by
  have hlt := World.ownsRow.lt h
  have hcell := fun (g : Nat) (hg : v.ownBlock = some g) => World.ownsRow.cells h hg
  obtain ⟨hl, h⟩ := h
  rcases h with ⟨rfl, h1⟩ | ⟨g, cap, cur, rfl, _⟩
  · exact ⟨none, 0, by rw [h1], fun _ => ⟨rfl, h1⟩, Or.inl (List.eq_nil_of_length_eq_zero h1)⟩
  · refine ⟨some ⟨g, 0, none⟩, cap, rfl, fun hh => (by cases hh), Or.inr ⟨g, 0, rfl, (hlt g rfl).2, fun j hj => ?_⟩⟩
    have hr := hcs_at rs j hj
    have e : ∀ i, (⟨g, 0, none⟩ : Addr).add i = ⟨g, 0 + i, none⟩ := fun i => Go.WideShapes.add_plain _ _ _
    refine ⟨?_, ?_, ?_⟩
    · have := hcell g rfl _ _ hr.1; rw [e] at this; exact this
    · have := hcell g rfl _ _ hr.2.1; rw [e] at this; exact this
    · have := hcell g rfl _ _ hr.2.2; rw [e] at this; exact this
theorem ownH_snoc {w : World} {B n : Nat} {v : Value} {rs : List Hdr} {r : Hdr} (h : w.ownsRow B 72 3 v (n + 1) (hcs rs ++ hc1 r)) (hn : rs.length = n) : OwnH w B v (rs ++ [r]) := by
  unfold OwnH
  rw [List.length_append, hn, hcs_app]
  have : hcs [r] = hc1 r := by simp [hcs]
  rw [this]
  exact h
theorem ownH_nil (w : World) (B : Nat) : OwnH w B (.slice none 0 0) [] := World.ownsRow_nil _ _ _ _
theorem Try.infoHdr : (Try.prog.info? 72).map (fun i => (i.zero, i.size, i.bytes)) = some (some (.agg #[.string ⟨#[]⟩, .bool false, .string ⟨#[]⟩]), 3, 40) := by kernel_rfl
theorem Try.underHdrs : Try.prog.underlying 38 = some (.slice 72) := by kernel_rfl
theorem cells_new (w : World) (xs : List Value) (t : TypeId) : ∀ j u, xs[j]? = some u → (w.alloc (.cells xs.toArray t)).cell? ((⟨w.heap.size, 0, none⟩ : Addr).add j) = some u := by
  intro j u hj
  have h := cell_of (i := j) (heap_new w (.cells xs.toArray t))
  have e : (⟨w.heap.size, 0, none⟩ : Addr).add j = ⟨w.heap.size, j, none⟩ := by
    by_cases h0 : j = 0
    · subst h0; simp [Addr.add]
    · simp [Addr.add, h0]
  rw [e, h]
  simpa using hj
theorem own_apart {w w' : World} {B n size : Nat} {e : TypeId} {v : Value} {l : List Value} (h : w.ownsRow B e size v n l) (hc : ∀ g, v.ownBlock = some g → w'.heap[g]? = w.heap[g]?) : w'.ownsRow B e size v n l := by
  obtain ⟨h1, h2⟩ := h
  refine ⟨h1, ?_⟩
  rcases h2 with h2 | ⟨g, cap, cur, rfl, hg, hh, r⟩
  · exact Or.inl h2
  · exact Or.inr ⟨g, cap, cur, rfl, hg, (hc g rfl).trans hh, r⟩
theorem own_ne {w : World} {B n size : Nat} {e T : TypeId} {v : Value} {l : List Value} {k : Nat} {c : Array Value} {fz : Nat × Nat} (h : w.ownsRow B e size v n l) (hk : w.heap[k]? = some (.cells c T fz)) (hT : T ≠ e) : v.ownBlock ≠ some k := by
  intro hv
  obtain ⟨h1, h2⟩ := h
  rcases h2 with ⟨rfl, h0⟩ | ⟨g, cap, cur, rfl, hg, hh, r⟩
  · cases hv
  · have e1 : g = k := by simpa [Value.ownBlock] using hv
    subst e1
    rw [hk] at hh
    injection hh with hh
    injection hh with h3 h4 h5
    exact hT h4
theorem cells_newN (w : World) (xs : List Value) (t : TypeId) (n : Nat) (h : w.heap.size = n) : ∀ j u, xs[j]? = some u → (w.alloc (.cells xs.toArray t)).cell? ((⟨n, 0, none⟩ : Addr).add j) = some u := by subst h; exact cells_new w xs t
end Go.Proofs.Ytlbkkeoffeohnab
