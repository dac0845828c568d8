/- The statement's 'step': what it leaves. -/
import Derived.Test.YtldfbddccmnchaaOlk
namespace Go.Proofs.Ytldfbddccmnchaa
open Go.RowKit
/-- The blocks of the index that p leads to. -/
def FP (p : Option Addr) (v : Value) (i : Nat) : Prop := ∃ x, p = some ⟨x, 0, none⟩ ∧ IS x v i
/-- An index and the document's, of the same entries, apart. -/
structure Pp (w : World) (p : Option Addr) (y : Nat) (v v' : Value) (l : List En) : Prop where
  ip : Ip w p v l
  iy : Ix 68 w y v' l
  od : Ord l
  ap : ∀ g x, p = some ⟨x, 0, none⟩ → v.ownBlock = some g → v'.ownBlock ≠ some g
theorem ix_ne {w : World} {x y : Nat} {v v' : Value} {l l' : List En} (h : Ix 63 w x v l) (h' : Ix 68 w y v' l') : x ≠ y := by
  rintro rfl
  have := h.blk
  rw [h'.blk] at this
  injection this with this
  injection this with _ this _
  exact absurd this (by decide)
theorem ix_row {T : TypeId} {w : World} {x : Nat} {v : Value} {l : List En} {v' : Value} {l' : List En} (h : Ix T w x v l) (hT : T ≠ 30) (h' : OwE w 0 v' l') {i : Nat} (hi : v'.ownBlock = some i) : i ≠ x := by
  rintro rfl
  obtain ⟨cur, hc⟩ := h'.at hi
  rw [h.blk] at hc
  injection hc with hc
  injection hc with _ hc _
  exact hT hc
theorem Pp.disj {w : World} {p : Option Addr} {y : Nat} {v v' : Value} {l : List En} (h : Pp w p y v v' l) {i : Nat} (h1 : FP p v i) : ¬ IS y v' i := by
  obtain ⟨x, rfl, h1⟩ := h1
  rcases h.ip with ⟨x', e, hx⟩ | ⟨e, _⟩
  · cases e
    rintro (rfl | h2)
    · rcases h1 with h1 | h1
      · exact ix_ne hx h.iy h1.symm
      · exact ix_row h.iy (by decide) hx.row h1 rfl
    · rcases h1 with rfl | h1
      · exact ix_row hx (by decide) h.iy.row h2 rfl
      · exact h.ap i _ rfl h1 h2
  · cases e
theorem Pp.lt {w : World} {p : Option Addr} {y : Nat} {v v' : Value} {l : List En} (h : Pp w p y v v' l) : ∀ i, FP p v i ∨ IS y v' i → i < w.heap.size := by
  rintro i (⟨x, rfl, h1⟩ | h1)
  · rcases h.ip with ⟨x', e, hx⟩ | ⟨e, _⟩
    · cases e; exact hx.lt i h1
    · cases e
  · exact h.iy.lt i h1
theorem Pp.below {w w' : World} {p : Option Addr} {y : Nat} {v v' : Value} {l : List En} (h : Pp w p y v v' l) (hb : Below w.heap.size w w') : Pp w' p y v v' l := ⟨h.ip.below hb, h.iy.below hb, h.od, h.ap⟩
/-- What may turn. -/
def QQ (p : Option Addr) (y : Nat) (v v' : Value) : Nat → Prop := fun i => FP p v i ∨ IS y v' i
/-- Behind the program's call. -/
def PA (w w' : World) (p : Option Addr) (y : Nat) (v v' : Value) (l l' : List En) : Prop := Ix 68 w' y v' l ∧ Ch (QQ p y v v') w w' ∧ ∀ x, p = some ⟨x, 0, none⟩ → ∃ v1, Ix 63 w' x v1 l' ∧ Moved w v v1 ∧ ∀ g, v1.ownBlock = some g → v'.ownBlock ≠ some g
theorem PA.below {w w' w2 : World} {p : Option Addr} {y : Nat} {v v' : Value} {l l' : List En} (h : PA w w' p y v v' l l') (hb : Below w'.heap.size w' w2) : PA w w2 p y v v' l l' := by
  obtain ⟨h1, h2, h3⟩ := h
  refine ⟨h1.below hb, h2.trans (Ch.of_below hb), fun x e => ?_⟩
  obtain ⟨v1, h4, h5, h6⟩ := h3 x e
  exact ⟨v1, h4.below hb, h5, h6⟩
theorem PA.of {w wx w' : World} {p : Option Addr} {y : Nat} {v v' : Value} {l l' : List En} (h : Pp w p y v v' l) (hb : Below w.heap.size w wx) (hl : Left wx w' p v l') : PA w w' p y v v' l l' := by
  rcases hl with ⟨x, v1, rfl, h1, h2, h3⟩ | ⟨rfl, h1⟩
  · refine ⟨(h.iy.below hb).ch h2 (fun i hi hs => h.disj ⟨x, rfl, hs⟩ hi), (Ch.of_below hb).then h2 (fun i _ hi => Or.inl ⟨x, rfl, hi⟩), fun x' e => ?_⟩
    cases e
    refine ⟨v1, h1, fun g hg => (h3 g hg).imp_right (fun h => Nat.le_trans hb.size h), fun g hg hg' => ?_⟩
    rcases h3 g hg with h4 | h4
    · exact h.ap g _ rfl h4 hg'
    · have := h.iy.lt g (Or.inr hg'); have := hb.size; omega
  · exact ⟨(h.iy.below hb).below h1, Ch.of_below (hb.trans (h1.mono hb.size)), fun x e => by cases e⟩
/-- What 'step' leaves. -/
def StepP (w w' : World) (p : Option Addr) (y : Nat) (v v' : Value) (n : Nat) : Prop := ∃ v1 v1' l', l'.length ≤ n + 1 ∧ Ch (QQ p y v v') w w' ∧ Moved w v v1 ∧ Moved w v' v1' ∧ Ix 68 w' y v1' l' ∧ ∀ x, p = some ⟨x, 0, none⟩ → Pp w' p y v1 v1' l'
theorem PA.step {w wx w' : World} {p : Option Addr} {y : Nat} {v v' : Value} {l l' : List En} {v1' : Value} {n : Nat} (h : PA w wx p y v v' l l') (hy : Ix 68 w' y v1' l') (hc : Ch (IS y v') wx w') (hm : Moved wx v' v1') (ho : Ord l') (hn : l'.length ≤ n + 1) : StepP w w' p y v v' n := by
  obtain ⟨h1, h2, h3⟩ := h
  have hm' : Moved w v' v1' := fun g hg => (hm g hg).imp_right (fun h => Nat.le_trans h2.size h)
  have hch : Ch (QQ p y v v') w w' := h2.then hc (fun i _ hi => Or.inr hi)
  by_cases hp : ∃ x, p = some ⟨x, 0, none⟩
  · obtain ⟨x, rfl⟩ := hp
    obtain ⟨v1, h4, h5, h6⟩ := h3 x rfl
    refine ⟨v1, v1', l', hn, hch, h5, hm', hy, fun x' e => ?_⟩
    cases e
    refine ⟨Or.inl ⟨x, rfl, h4.ch hc (fun i hi hs => ?_)⟩, hy, ho, fun g x' _ hg hg' => ?_⟩
    · rcases hi with rfl | hi
      · rcases hs with rfl | hs
        · exact ix_ne h4 h1 rfl
        · exact ix_row h4 (by decide) h1.row hs rfl
      · rcases hs with rfl | hs
        · exact ix_row h1 (by decide) h4.row hi rfl
        · exact h6 i hi hs
    · rcases hm g hg' with h7 | h7
      · exact h6 g hg h7
      · have := h4.lt g (Or.inr hg); omega
  · exact ⟨v, v1', l', hn, hch, Moved.refl _ _, hm', hy, fun x e => absurd ⟨x, e⟩ hp⟩
theorem StepP.same {w w' : World} {p : Option Addr} {y : Nat} {v v' : Value} {l : List En} {n : Nat} (h : Pp w p y v v' l) (hb : Below w.heap.size w w') (hn : l.length ≤ n + 1) : StepP w w' p y v v' n :=
  ⟨v, v', l, hn, Ch.of_below hb, Moved.refl _ _, Moved.refl _ _, h.iy.below hb, fun _ _ => h.below hb⟩
end Go.Proofs.Ytldfbddccmnchaa
