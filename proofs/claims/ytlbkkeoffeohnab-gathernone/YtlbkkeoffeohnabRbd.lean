import Derived.Test.YtlbkkeoffeohnabRecL
import Derived.Test.YtlbkkeoffeohnabRdr3
/- What ReadBody answers of any bytes. -/
namespace Go.Proofs.Ytlbkkeoffeohnab
open Go.RowKit
def RI.hv (x : RI) : Value := .slice x.a x.r.hs.length x.cap
theorem rcs_app (a b : List RI) : rcs (a ++ b) = rcs a ++ rcs b := by simp [rcs]
theorem rc1_one (r : RI) : ∀ u ∈ rc1 r, u.oneCell' = true := by
  intro u h
  simp only [rc1, List.mem_cons, List.not_mem_nil, or_false] at h
  rcases h with rfl | rfl | rfl | rfl | rfl | rfl <;> rfl
theorem rcs_at (rs : List RI) : ∀ j i v, j < rs.length → i < 6 → (rc1 (rs.getD j dri))[i]? = some v → (rcs rs)[j * 6 + i]? = some v := by
  induction rs with
  | nil => intro j _ _ hj; simp at hj
  | cons r rs ih =>
    intro j i v hj hi hv
    have e : rcs (r :: rs) = rc1 r ++ rcs rs := rfl
    have e6 : (rc1 r).length = 6 := rfl
    cases j with
    | zero => rw [e, List.getElem?_append_left (by omega), Nat.zero_mul, Nat.zero_add]; exact hv
    | succ j =>
      have h := ih j i v (by simpa using hj) hi hv
      rw [e, List.getElem?_append_right (by omega), e6, show (j + 1) * 6 + i - 6 = j * 6 + i from by omega]
      exact h
/-- Records of the call's own, from B on, each with headers of its own. -/
structure Held (w : World) (B : Nat) (v : Value) (l : List RI) : Prop where
  row : w.ownsRow B 40 6 v l.length (rcs l)
  hds : ∀ x ∈ l, OwnH w B x.hv x.r.hs
  ap : l.Pairwise (fun x y => ∀ g, x.hv.ownBlock = some g → y.hv.ownBlock ≠ some g)
theorem ownH_hds {w : World} {B : Nat} {x : RI} (h : OwnH w B x.hv x.r.hs) : Hds w x.a x.r.hs := by
  obtain ⟨a, cap, e, _, h2⟩ := h.slice
  unfold RI.hv at e
  injection e with e1 e2 e3
  rw [e1]; exact h2
theorem Held.slice {w : World} {B : Nat} {v : Value} {l : List RI} (h : Held w B v l) : ∃ a cap, v = .slice a l.length cap ∧ Rcs w a l := by
  have hlt := World.ownsRow.lt h.row
  have hcell := fun (g : Nat) (hg : v.ownBlock = some g) => World.ownsRow.cells h.row hg
  obtain ⟨hl, hr⟩ := h.row
  rcases hr with ⟨rfl, h1⟩ | ⟨g, cap, cur, rfl, _⟩
  · exact ⟨none, 0, by rw [h1], fun x hx => ownH_hds (h.hds x hx), Or.inl (List.eq_nil_of_length_eq_zero h1)⟩
  · refine ⟨some ⟨g, 0, none⟩, cap, rfl, fun x hx => ownH_hds (h.hds x hx), Or.inr ⟨g, 0, rfl, (hlt g rfl).2, fun j hj => ?_⟩⟩
    have e : ∀ i, (⟨g, 0, none⟩ : Addr).add i = ⟨g, 0 + i, none⟩ := fun i => Go.WideShapes.add_plain _ _ _
    have k : ∀ i v, i < 6 → (rc1 (l.getD j dri))[i]? = some v → w.cell? ⟨g, 0 + (j * 6 + i), none⟩ = some v := fun i v hi hv => by
      have := hcell g rfl _ _ (rcs_at l j i v hj hi hv); rw [e] at this; exact this
    exact ⟨by have := k 0 _ (by omega) rfl; simpa [Nat.add_assoc] using this, by have := k 1 _ (by omega) rfl; simpa [Nat.add_assoc] using this, by have := k 2 _ (by omega) rfl; simpa [Nat.add_assoc] using this, by have := k 3 _ (by omega) rfl; simpa [Nat.add_assoc] using this, by have := k 4 _ (by omega) rfl; simpa [Nat.add_assoc] using this, by have := k 5 _ (by omega) rfl; simpa [Nat.add_assoc] using this⟩
theorem Held.kept {w w' : World} {B : Nat} {v : Value} {l : List RI} (h : Held w B v l) (hc : ∀ g, g < w.heap.size → (v.ownBlock = some g ∨ ∃ x ∈ l, x.hv.ownBlock = some g) → w'.heap[g]? = w.heap[g]?) : Held w' B v l :=
  ⟨own_apart h.row (fun g hg => hc g (World.ownsRow.lt h.row g hg).2 (Or.inl hg)), fun x hx => own_apart (h.hds x hx) (fun g hg => hc g (World.ownsRow.lt (h.hds x hx) g hg).2 (Or.inr ⟨x, hx, hg⟩)), h.ap⟩
theorem ownH_blk {w : World} {B : Nat} {v : Value} {rs : List Hdr} {g : Nat} (h : OwnH w B v rs) (hg : v.ownBlock = some g) : ∃ c, w.heap[g]? = some (.cells c 72 (0, 0)) := by
  obtain ⟨_, h2⟩ := h
  rcases h2 with ⟨rfl, _⟩ | ⟨g', cap, cur, rfl, _, hh, _⟩
  · cases hg
  · have e1 : g' = g := by simpa [Value.ownBlock] using hg
    subst e1
    exact ⟨cur, hh⟩
/-- One more. -/
theorem Held.snoc {w w' : World} {B : Nat} {v v' : Value} {l : List RI} {x : RI} (h : Held w B v l) (hx : OwnH w B x.hv x.r.hs) (hap : ∀ y ∈ l, ∀ g, y.hv.ownBlock = some g → x.hv.ownBlock ≠ some g) (hr : w'.ownsRow B 40 6 v' (l.length + 1) (rcs l ++ rc1 x)) (hg : w.grownBy w' v.ownBlock) : Held w' B v' (l ++ [x]) := by
  have hk : ∀ y : RI, OwnH w B y.hv y.r.hs → OwnH w' B y.hv y.r.hs := fun y hy => own_apart hy (fun g hgb => by
    obtain ⟨c, hc⟩ := ownH_blk hy hgb
    exact hg.block g (lt_of_heap hc) (fun e => own_ne h.row hc (by decide) e.symm))
  refine ⟨?_, ?_, ?_⟩
  · rw [List.length_append, rcs_app]
    have : rcs [x] = rc1 x := by simp [rcs]
    rw [this]
    exact hr
  · intro y hy
    rcases List.mem_append.1 hy with hy | hy
    · exact hk y (h.hds y hy)
    · rw [List.mem_singleton] at hy; subst hy; exact hk _ hx
  · rw [List.pairwise_append]
    exact ⟨h.ap, List.pairwise_singleton _ _, fun y hy z hz => by rw [List.mem_singleton] at hz; subst hz; exact hap y hy⟩
theorem Try.infoRec : (Try.prog.info? 40).map (fun i => (i.zero, i.size, i.bytes)) = some (some (.agg #[.int .i64 0, .bool false, .string ⟨#[]⟩, .bool false, .string ⟨#[]⟩, .slice none 0 0]), 6, 80) := by kernel_rfl
theorem Try.underRecs : Try.prog.underlying 26 = some (.slice 40) := by kernel_rfl
end Go.Proofs.Ytlbkkeoffeohnab
