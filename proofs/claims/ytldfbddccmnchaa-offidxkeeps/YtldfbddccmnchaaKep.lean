/- OffidxKeeps: two rows that are written over and grown; what stays. -/
import Derived.Test.YtldfbddccmnchaaBak
namespace Go.Proofs.Ytldfbddccmnchaa
open Go.RowKit
theorem split_at {l : List En} {i : Nat} (h : i < l.length) : ∃ A e R, l = A ++ e :: R ∧ A.length = i :=
  ⟨l.take i, l[i], l.drop (i + 1), by simp, by rw [List.length_take]; omega⟩
/-- A row of so many entries, whatever they are. -/
def OwN (w : World) (v : Value) (n : Nat) : Prop := ∃ l, l.length = n ∧ OwE w 0 v l
theorem OwN.keep {w w' : World} {v : Value} {n : Nat} (h : OwN w v n) (hb : ∀ g, v.ownBlock = some g → g < w.heap.size → w'.heap[g]? = w.heap[g]?) : OwN w' v n := by
  obtain ⟨l, h1, h2⟩ := h
  exact ⟨l, h1, h2.keep hb⟩
theorem OwN.lt {w : World} {v : Value} {n : Nat} (h : OwN w v n) {g : Nat} (hg : v.ownBlock = some g) : g < w.heap.size := by
  obtain ⟨l, _, h2⟩ := h
  exact (h2.own hg).2
theorem OwN.form {w : World} {v : Value} {n : Nat} (h : OwN w v n) : ∃ a c, v = .slice a n c := by
  obtain ⟨l, h1, h2⟩ := h
  obtain ⟨a, c, h3, _⟩ := h2.ens
  exact ⟨a, c, by rw [h3, h1]⟩
/-- One entry written over. -/
theorem OwN.set {w : World} {v : Value} {n i : Nat} (h : OwN w v n) (hi : i < n) : ∃ g c, v = .slice (some ⟨g, 0, none⟩) n c ∧ v.ownBlock = some g ∧ (∃ p q : Int, w.cell? ⟨g, i * 2, none⟩ = some (.int .i64 p) ∧ w.cell? ⟨g, i * 2 + 1, none⟩ = some (.int .i64 q)) ∧ w.frozen? ⟨g, i * 2, none⟩ = false ∧ w.frozen? ⟨g, i * 2 + 1, none⟩ = false ∧ g < w.heap.size ∧ ∀ p q : Int, OwN ((w.setCell ⟨g, i * 2, none⟩ (.int .i64 p)).setCell ⟨g, i * 2 + 1, none⟩ (.int .i64 q)) v n := by
  obtain ⟨l, h1, h2⟩ := h
  obtain ⟨A, e, R, rfl, rfl⟩ := split_at (show i < l.length by omega)
  obtain ⟨g, c, hv, _, hlt⟩ := World.ownsRow.form h2 (by omega)
  rw [hv] at h2
  rw [h1] at h2 hv
  obtain ⟨c0, c1, c2, c3, c4⟩ := h2.cells h1.symm
  refine ⟨g, c, hv, by rw [hv]; rfl, ⟨_, _, c0, c1⟩, c2, c3, c4, fun p q => ?_⟩
  have h3 := h2.set0 h1.symm p
  have h4 := h3.set1 (by rw [← h1]; simp) q
  rw [← hv] at h4
  exact ⟨_, by rw [← h1]; simp, h4⟩
/-- Two rows under way. -/
structure Kw (S : Nat → Prop) (w0 wr : World) (va vm : Value) (n : Nat) (m : Nat) : Prop where
  a : OwN wr va n
  m : OwN wr vm m
  ap : ∀ g, va.ownBlock = some g → vm.ownBlock ≠ some g
  ch : Ch S w0 wr
  av : ∀ g, va.ownBlock = some g → S g ∨ w0.heap.size ≤ g
  mv : ∀ g, vm.ownBlock = some g → S g ∨ w0.heap.size ≤ g
theorem Kw.swap {S : Nat → Prop} {w0 wr : World} {va vm : Value} {n m : Nat} (h : Kw S w0 wr va vm n m) : Kw S w0 wr vm va m n :=
  ⟨h.m, h.a, fun g h1 h2 => h.ap g h2 h1, h.ch, h.mv, h.av⟩
theorem Kw.later {S : Nat → Prop} {w0 wr wx : World} {va vm : Value} {n m : Nat} (h : Kw S w0 wr va vm n m) (hb : Below wr.heap.size wr wx) : Kw S w0 wx va vm n m :=
  ⟨h.a.keep fun g _ hg => hb.block g hg, h.m.keep fun g _ hg => hb.block g hg, h.ap, h.ch.trans (Ch.of_below hb), h.av, h.mv⟩
theorem Kw.set {S : Nat → Prop} {w0 wr : World} {va vm : Value} {n m i : Nat} (h : Kw S w0 wr va vm n m) (hi : i < n) : ∃ g c, va = .slice (some ⟨g, 0, none⟩) n c ∧ (∃ p q : Int, wr.cell? ⟨g, i * 2, none⟩ = some (.int .i64 p) ∧ wr.cell? ⟨g, i * 2 + 1, none⟩ = some (.int .i64 q)) ∧ wr.frozen? ⟨g, i * 2, none⟩ = false ∧ wr.frozen? ⟨g, i * 2 + 1, none⟩ = false ∧ g < wr.heap.size ∧ ∀ p q : Int, Kw S w0 ((wr.setCell ⟨g, i * 2, none⟩ (.int .i64 p)).setCell ⟨g, i * 2 + 1, none⟩ (.int .i64 q)) va vm n m := by
  obtain ⟨g, c, hv, ho, h1, h2, h3, h4, h5⟩ := h.a.set hi
  refine ⟨g, c, hv, h1, h2, h3, h4, fun p q => ⟨h5 p q, h.m.keep fun g' hg' hlt => ?_, h.ap, ?_, h.av, h.mv⟩⟩
  · have hne : g' ≠ g := fun e => h.ap g ho (by rw [hg', e])
    rw [Below.heap_setCell _ _ _ _ hne, Below.heap_setCell _ _ _ _ hne]
  · have hs : g < w0.heap.size → S g := fun hlt => (h.av g ho).elim id (fun h => absurd hlt (by omega))
    exact (h.ch.setCell _ _ hs).setCell _ _ hs
theorem Kw.push {S : Nat → Prop} {w0 wr w' : World} {va vm : Value} {n m g cap : Nat} {e : En} {l : List En} (h : Kw S w0 wr va vm n m) (hl : l.length = n) (hown : w'.ownsRow 0 30 2 (.slice (some ⟨g, 0, none⟩) (n + 1) cap) (n + 1) (ecs l ++ enc e)) (hgrow : wr.grownBy w' va.ownBlock) (hat : va.ownBlock = some g ∨ g = wr.heap.size) : Kw S w0 w' (.slice (some ⟨g, 0, none⟩) (n + 1) cap) vm (n + 1) m := by
  have hc : Ch (fun i => va.ownBlock = some i) wr w' := ⟨hgrow.os, hgrow.tape, hgrow.output, hgrow.size, fun k hk hs => hgrow.block k hk (fun e => hs e.symm)⟩
  refine ⟨⟨l ++ [e], by simp [hl], ?_⟩, h.m.keep fun g' hg' hlt => hc.block g' hlt (fun hs => h.ap g' hs hg'), fun g' hg' hg2 => ?_, h.ch.then hc (fun i hi hs => ?_), fun g' hg' => ?_, h.mv⟩
  · unfold OwE
    rw [List.length_append, hl, ecs_snoc]
    exact hown
  · simp only [Value.ownBlock, Option.some.injEq] at hg'
    subst hg'
    rcases hat with h1 | h1
    · exact h.ap _ h1 hg2
    · have := h.m.lt hg2; omega
  · rcases h.av i hs with h1 | h1
    · exact h1
    · omega
  · simp only [Value.ownBlock, Option.some.injEq] at hg'
    subst hg'
    rcases hat with h1 | h1
    · exact h.av _ h1
    · right; have := h.ch.size; omega
end Go.Proofs.Ytldfbddccmnchaa
