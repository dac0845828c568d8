/- A twin that is being filled: its map, its files so far. -/
import Derived.Test.YthjbhfhdepepmaaMmh
import Derived.Maps.RangeWalk
import Derived.Sort.MapsRangeIn
namespace Go.Proofs.Ythjbhfhdepepmaa
open Go.RowKit
abbrev kl (nm : ByteArray) : Lit := .string nm.data.toList
theorem same_kl (a b : ByteArray) : (kl a).sameKey (kl b) = decide (a = b) := same_nm ⟨a, 0, .slice none 0 0, [], 0⟩ b
/-- The twin's map at c, its files gs, laid from s on; 'left' tells the names that are still to come. -/
structure Par (s : Nat) (w : World) (c : Nat) (fs gs : List Fl) (left : Lit → Bool) : Prop where
  own : w.ownsMap Try.prog 9 RP c gs.length (dm gs)
  fil : ∀ g ∈ gs, FA w g
  apt : gs.Pairwise apart
  nms : gs.Pairwise (fun f g => bytesBefore f.nm.data.toList g.nm.data.toList = true)
  low : ∀ g ∈ gs, s ≤ g.bk ∧ ∀ i, g.sl.ownBlock = some i → s ≤ i
  frm : ∀ g ∈ gs, left (kl g.nm) = false ∧ ∃ f ∈ fs, g.nm = f.nm ∧ g.da = f.da ∧ g.sy = f.sy
  all : ∀ f ∈ fs, left (kl f.nm) = false → ∃ g ∈ gs, g.nm = f.nm
theorem Par.ch {S : Nat → Prop} {s c : Nat} {w w' : World} {fs gs : List Fl} {left : Lit → Bool} (h : Par s w c fs gs left) (hc : Ch S w w') (h1 : ¬ S c) (h2 : ∀ i, s ≤ i → ¬ S i) : Par s w' c fs gs left where
  own := map_ch (m := some c) h.own hc (fun i e => by cases e; exact h1)
  fil := fun g hg => (h.fil g hg).ch hc (h2 _ (h.low g hg).1) (fun i hi => h2 i ((h.low g hg).2 i hi))
  apt := h.apt
  nms := h.nms
  low := h.low
  frm := h.frm
  all := h.all
/-- One more file. -/
theorem Par.step {s c : Nat} {w w' : World} {fs gs : List Fl} {left : Lit → Bool} {f : Fl} {p : Nat} {v : Value} (h : Par s w c fs gs left) (hcs : c < s) (hf : f ∈ fs) (hl : left (kl f.nm) = true)
    (hc : Ch (fun i => i = c) w w') (hp : w.heap.size ≤ p) (hv : ∀ i, v.ownBlock = some i → w.heap.size ≤ i) (hs : s ≤ w.heap.size) (hF : FA w' { f with bk := p, sl := v })
    (ho : w'.ownsMap Try.prog 9 RP c (gs.length + 1) ((dm gs).put (kl f.nm) (.lit (.int .i64 p)))) : Par s w' c fs (insF { f with bk := p, sl := v } gs) (fun z => left z && !z.sameKey (kl f.nm)) := by
  obtain ⟨g, hg⟩ : ∃ g : Fl, g = { f with bk := p, sl := v } := ⟨_, rfl⟩
  rw [← hg] at hF ⊢
  have e1 : g.nm = f.nm := by rw [hg]
  have e2 : g.bk = p := by rw [hg]
  have e3 : g.da = f.da := by rw [hg]
  have e4 : g.sy = f.sy := by rw [hg]
  have e5 : g.sl = v := by rw [hg]
  clear hg
  have hne : ∀ x ∈ gs, x.nm ≠ g.nm := fun x hx e => by
    have := (h.frm x hx).1
    rw [e, e1, hl] at this
    cases this
  have hlt : ∀ x ∈ gs, x.bk < w.heap.size := fun x hx => lt_of_heap (h.fil x hx).1
  refine ⟨?_, ?_, ?_, insF_rise h.nms hne, ?_, ?_, ?_⟩
  · rw [show kl f.nm = .string g.nm.data.toList from by rw [e1], ← e2, dm_put hne] at ho
    exact own_tight ho
  · intro x hx
    rcases insF_mem.1 hx with rfl | hx
    · exact hF
    · exact (h.fil x hx).ch hc (fun e => by have := (h.low x hx).1; omega) (fun i hi e => by have := (h.low x hx).2 i hi; omega)
  · refine insF_pair h.apt (fun x hx => ⟨?_, ?_⟩) (fun x hx => ⟨?_, ?_⟩)
    · have := hlt x hx; omega
    · cases hb : g.sl.ownBlock with
      | none => exact Or.inl rfl
      | some i => exact Or.inr (fun e => by have := ((h.fil x hx).2.lt i e.symm).2; have := hv i (e5 ▸ hb); omega)
    · have := hlt x hx; omega
    · cases hb : x.sl.ownBlock with
      | none => exact Or.inl rfl
      | some i => exact Or.inr (fun e => by have := ((h.fil x hx).2.lt i hb).2; have := hv i (e5 ▸ e.symm); omega)
  · intro x hx
    rcases insF_mem.1 hx with rfl | hx
    · exact ⟨by omega, fun i hi => by have := hv i (e5 ▸ hi); omega⟩
    · exact h.low x hx
  · intro x hx
    rcases insF_mem.1 hx with rfl | hx
    · refine ⟨?_, f, hf, e1, e3, e4⟩
      simp only [same_kl, e1, decide_true, Bool.not_true, Bool.and_false]
    · refine ⟨?_, (h.frm x hx).2⟩
      simp only [(h.frm x hx).1, Bool.false_and]
  · intro x hx hlx
    by_cases e : x.nm = f.nm
    · exact ⟨g, insF_mem.2 (Or.inl rfl), e1.trans e.symm⟩
    · simp only [same_kl, e, decide_false, Bool.not_false, Bool.and_true] at hlx
      obtain ⟨y, hy, hyn⟩ := h.all x hx hlx
      exact ⟨y, insF_mem.2 (Or.inr hy), hyn⟩
/-- Two rising rows of files with the same members have one view. -/
theorem vw_eq_of : ∀ {fs gs : List Fl}, fs.Pairwise (fun f g => bytesBefore f.nm.data.toList g.nm.data.toList = true) → gs.Pairwise (fun f g => bytesBefore f.nm.data.toList g.nm.data.toList = true) →
    (∀ g ∈ gs, ∃ f ∈ fs, g.nm = f.nm ∧ g.da = f.da ∧ g.sy = f.sy) → (∀ f ∈ fs, ∃ g ∈ gs, g.nm = f.nm) → vw gs = vw fs
  | [], [], _, _, _, _ => rfl
  | [], g :: r, _, _, h, _ => by obtain ⟨f, hf, _⟩ := h g (by simp); cases hf
  | f :: r, [], _, _, _, h => by obtain ⟨g, hg, _⟩ := h f (by simp); cases hg
  | f :: r, g :: q, h1, h2, h, k => by
    obtain ⟨a1, a2⟩ := List.pairwise_cons.1 h1
    obtain ⟨b1, b2⟩ := List.pairwise_cons.1 h2
    have irr : ∀ x : ByteArray, ¬ bytesBefore x.data.toList x.data.toList = true := fun x e => by rw [bb_irr] at e; cases e
    obtain ⟨x, hx, x1, x2, x3⟩ := h g (by simp)
    obtain ⟨y, hy, y1⟩ := k f (by simp)
    have e : x = f := by
      rcases List.mem_cons.1 hx with e | hx
      · exact e
      · rcases List.mem_cons.1 hy with rfl | hy
        · have := a1 x hx
          rw [← y1, ← x1] at this
          exact absurd this (irr _)
        · have p1 := a1 x hx
          have p2 := b1 y hy
          rw [x1, y1] at p2
          exact absurd (bb_trans p1 p2) (irr _)
    subst e
    show (g.nm, g.da, g.sy) :: vw q = (x.nm, x.da, x.sy) :: vw r
    rw [x1, x2, x3, vw_eq_of a2 b2 (fun z hz => ?_) (fun z hz => ?_)]
    · obtain ⟨u, hu, u1, u2⟩ := h z (by simp [hz])
      rcases List.mem_cons.1 hu with rfl | hu
      · have := b1 z hz
        rw [u1, ← x1] at this
        exact absurd this (irr _)
      · exact ⟨u, hu, u1, u2⟩
    · obtain ⟨u, hu, u1⟩ := k z (by simp [hz])
      rcases List.mem_cons.1 hu with rfl | hu
      · have := a1 z hz
        rw [← u1, x1] at this
        exact absurd this (irr _)
      · exact ⟨u, hu, u1⟩
theorem Par.view {s c : Nat} {w : World} {fs gs : List Fl} {left : Lit → Bool} (h : Par s w c fs gs left) (hn : fs.Pairwise (fun f g => bytesBefore f.nm.data.toList g.nm.data.toList = true)) (hl : ∀ z, left z = false) : vw gs = vw fs :=
  vw_eq_of hn h.nms (fun g hg => (h.frm g hg).2) (fun f hf => h.all f hf (hl _))
theorem ranges_ch {w w' : World} {b r n : Nat} {D : DataW Unit} {left : Lit → Bool} {cnt : Nat} (h : w.ranges Try.prog 9 RP b r n D left cnt) (hb : w'.heap[b]? = w.heap[b]?) (hr : w'.heap[r]? = w.heap[r]?) : w'.ranges Try.prog 9 RP b r n D left cnt := by
  unfold World.ranges at h ⊢
  rw [hb, hr]
  exact h
end Go.Proofs.Ythjbhfhdepepmaa
