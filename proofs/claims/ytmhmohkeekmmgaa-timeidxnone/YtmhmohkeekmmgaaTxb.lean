/- The statement's 'built': an index of the entries that can be added, and they. -/
import Derived.Test.YtmhmohkeekmmgaaTxh
namespace Go.Proofs.Ytmhmohkeekmmgaa
open Go.RowKit
/-- What can be added, one behind the other. -/
def bld (l : List En) : List En := l.foldl addE []
theorem bld_step {l : List En} {j : Nat} (h : j < l.length) : bld (l.take (j + 1)) = addE (bld (l.take j)) (l.getD j en0) := by
  unfold bld
  rw [List.take_succ_eq_append_getElem h, List.foldl_append, getD_of h]
  rfl
theorem addE_len (l : List En) (e : En) : (addE l e).length ≤ l.length + 1 := by
  unfold addE
  split <;> simp
theorem fold_len (r : List En) : ∀ l : List En, (r.foldl addE l).length ≤ l.length + r.length := by
  induction r with
  | nil => intro l; simp
  | cons e r ih =>
    intro l
    have h1 := ih (addE l e)
    have h2 := addE_len l e
    rw [List.foldl_cons, List.length_cons]
    omega
theorem bld_len (r : List En) : (bld r).length ≤ r.length := by
  have := fold_len r []
  simpa [bld] using this
theorem fold_ord (r : List En) : ∀ l : List En, Ord l → Ord (r.foldl addE l) := by
  induction r with
  | nil => intro l h; exact h
  | cons e r ih => intro l h; exact ih _ (h.add e)
theorem bld_ord (r : List En) : Ord (bld r) := fold_ord r [] Ord.nil
/-- An index of the call's own and a row of the call's own. -/
structure Bw (w wr : World) (B x : Nat) (v v2 : Value) (l1 l2 : List En) : Prop where
  io : Io wr B x v l1
  ro : OwE wr B v2 l2
  ap : ∀ g, v.ownBlock = some g → v2.ownBlock ≠ some g
  bel : Below B w wr
  le : B ≤ wr.heap.size
theorem Bw.later {w wr wx : World} {B x : Nat} {v v2 : Value} {l1 l2 : List En} (h : Bw w wr B x v v2 l1 l2) (hb : Below wr.heap.size wr wx) : Bw w wx B x v v2 l1 l2 :=
  ⟨h.io.below hb, h.ro.keep fun g _ hg => hb.block g hg, h.ap, h.bel.trans (hb.mono h.le), Nat.le_trans h.le hb.size⟩
theorem Bw.app {w wr w' : World} {B x : Nat} {v v' v2 : Value} {l1 l2 l' : List En} (h : Bw w wr B x v v2 l1 l2) (h3 : Ix 60 w' x v' l') (h4 : Ch (IS x v) wr w') (h5 : Moved wr v v') : Bw w w' B x v' v2 l' l2 := by
  obtain ⟨h1, h2⟩ := h.io.ch h.le h3 h4 h5
  refine ⟨h1, h.ro.ch h4 (fun i hi hs => ?_), fun g hg hg2 => ?_, h.bel.trans h2, Nat.le_trans h.le h2.size⟩
  · rcases hs with rfl | hs
    · obtain ⟨cur, hc⟩ := h.ro.at hi
      rw [h.io.ix.blk] at hc
      injection hc with hc
      injection hc with _ hc _
      exact absurd hc (by decide)
    · exact h.ap i hs hi
  · rcases h5 g hg with h6 | h6
    · exact h.ap g h6 hg2
    · have := (h.ro.own hg2).2
      omega
theorem Bw.push {w wr w' : World} {B x : Nat} {v v2 : Value} {l1 l2 : List En} {e : En} {g cap : Nat} (h : Bw w wr B x v v2 l1 l2) (hown : w'.ownsRow B 29 2 (.slice (some ⟨g, 0, none⟩) (l2.length + 1) cap) (l2.length + 1) (ecs l2 ++ enc e)) (hgrow : wr.grownBy w' v2.ownBlock) (hat : v2.ownBlock = some g ∨ g = wr.heap.size) : Bw w w' B x v (.slice (some ⟨g, 0, none⟩) (l2.length + 1) cap) l1 (l2 ++ [e]) := by
  have hc : Ch (fun i => v2.ownBlock = some i) wr w' := ⟨hgrow.os, hgrow.tape, hgrow.output, hgrow.size, fun k hk hs => hgrow.block k hk (fun e => hs e.symm)⟩
  refine ⟨⟨h.io.ix.ch hc (fun i hi hs => ?_), h.io.at0, h.io.at1⟩, ?_, fun g' hg' hg2 => ?_, h.bel.trans (hc.below h.le (fun i hi hs => ?_)), Nat.le_trans h.le hgrow.size⟩
  · rcases hi with rfl | hi
    · obtain ⟨cur, hc⟩ := h.ro.at hs
      rw [h.io.ix.blk] at hc
      injection hc with hc
      injection hc with _ hc _
      exact absurd hc (by decide)
    · exact h.ap i hi hs
  · unfold OwE
    rw [List.length_append, ecs_snoc]
    exact hown
  · simp only [Value.ownBlock, Option.some.injEq] at hg2
    subst hg2
    rcases hat with h1 | h1
    · exact h.ap _ hg' h1
    · have := h.io.ix.lt _ (Or.inr hg')
      omega
  · have := (h.ro.own hs).1
    omega
theorem lt_ne {w : World} {b : Nat} (h : b < w.heap.size) : b ≠ w.heap.size ∧ w.heap.size ≠ b := ⟨by omega, by omega⟩
end Go.Proofs.Ytmhmohkeekmmgaa
