/- NamesGroups: two rows that are written over and grown; what stays. -/
import Derived.Test.YtgffipkbbenddaaDoorTxt
namespace Go.Proofs.YtgffipkbbenddaaDoor
open Go.RowKit Go.Lib
/-- A row of so many elements, whatever they are. -/
def RG (e : TypeId) (size : Nat) (w : World) (v : Value) (n : Nat) : Prop := ∃ xs, w.ownsRow 0 e size v n xs
theorem RG.at {e : TypeId} {size : Nat} {w : World} {v : Value} {n : Nat} (h : RG e size w v n) {i : Nat} (hi : v.ownBlock = some i) : ∃ cur, w.heap[i]? = some (.cells cur e (0, 0)) := by
  obtain ⟨xs, h⟩ := h
  rcases h.2 with ⟨rfl, _⟩ | ⟨g, cap, cur, rfl, hg, hh, r⟩
  · cases hi
  · injection hi with hi; subst hi; exact ⟨_, hh⟩
theorem RG.ne {e e' : TypeId} {size size' : Nat} {w : World} {v v' : Value} {n n' : Nat} (h : RG e size w v n) (h' : RG e' size' w v' n') (hT : e ≠ e') {g : Nat} (hg : v.ownBlock = some g) : v'.ownBlock ≠ some g := by
  intro hg'
  obtain ⟨c1, h1⟩ := h.at hg
  obtain ⟨c2, h2⟩ := h'.at hg'
  rw [h1] at h2
  injection h2 with h2
  injection h2 with _ h2 _
  exact hT h2
theorem RG.keep {e : TypeId} {size : Nat} {w w' : World} {v : Value} {n : Nat} (h : RG e size w v n) (hb : ∀ g, v.ownBlock = some g → g < w.heap.size → w'.heap[g]? = w.heap[g]?) : RG e size w' v n := by
  obtain ⟨xs, h⟩ := h
  refine ⟨xs, h.1, ?_⟩
  rcases h.2 with h2 | ⟨g, cap, cur, rfl, h3, h4, h5⟩
  · exact Or.inl h2
  · exact Or.inr ⟨g, cap, cur, rfl, h3, (hb g rfl (lt_of_heap h4)).trans h4, h5⟩
theorem RG.lt {e : TypeId} {size : Nat} {w : World} {v : Value} {n : Nat} (h : RG e size w v n) {g : Nat} (hg : v.ownBlock = some g) : g < w.heap.size := by
  obtain ⟨cur, hc⟩ := h.at hg
  exact lt_of_heap hc
theorem RG.form {e : TypeId} {size : Nat} {w : World} {v : Value} {n : Nat} (h : RG e size w v n) : ∃ a c, v = .slice a n c := by
  obtain ⟨xs, h⟩ := h
  rcases h.2 with ⟨rfl, rfl⟩ | ⟨g, cap, cur, rfl, _⟩
  · exact ⟨_, _, rfl⟩
  · exact ⟨_, _, rfl⟩
theorem RG.cells {e : TypeId} {size : Nat} {w : World} {v : Value} {n : Nat} (h : RG e size w v n) (hn : 0 < n) : ∃ g c, v = .slice (some ⟨g, 0, none⟩) n c ∧ v.ownBlock = some g ∧ g < w.heap.size ∧ ∀ i, i < n * size → (∃ u, w.cell? ⟨g, i, none⟩ = some u) ∧ w.frozen? ⟨g, i, none⟩ = false := by
  have h' := h
  obtain ⟨xs, h⟩ := h
  obtain ⟨g, c, rfl, _, hlt⟩ := World.ownsRow.form h hn
  refine ⟨g, c, rfl, rfl, hlt, fun i hi => ⟨?_, h.frozenAt i⟩⟩
  exact ⟨_, (h.cellAt i hi).trans (List.getElem?_eq_getElem (by rw [h.1]; exact hi))⟩
theorem RG.set {e : TypeId} {size : Nat} {w : World} {n g c : Nat} (h : RG e size w (.slice (some ⟨g, 0, none⟩) n c) n) (i : Nat) (u : Value) : RG e size (w.setCell ⟨g, i, none⟩ u) (.slice (some ⟨g, 0, none⟩) n c) n := by
  obtain ⟨xs, h⟩ := h
  exact ⟨_, own_set h i u⟩
/-- Two rows under way. -/
structure Kg (S : Nat → Prop) (w0 wr : World) (va vx : Value) (n m : Nat) : Prop where
  a : RG 45 4 wr va n
  x : RG 9 1 wr vx m
  ch : Ch S w0 wr
  av : ∀ g, va.ownBlock = some g → S g ∨ w0.heap.size ≤ g
  xv : ∀ g, vx.ownBlock = some g → S g ∨ w0.heap.size ≤ g
theorem Kg.later {S : Nat → Prop} {w0 wr wx : World} {va vx : Value} {n m : Nat} (h : Kg S w0 wr va vx n m) (hb : Below wr.heap.size wr wx) : Kg S w0 wx va vx n m :=
  ⟨h.a.keep fun g _ hg => hb.block g hg, h.x.keep fun g _ hg => hb.block g hg, h.ch.trans (Ch.of_below hb), h.av, h.xv⟩
theorem Kg.setA {S : Nat → Prop} {w0 wr : World} {vx : Value} {n m g c : Nat} (h : Kg S w0 wr (.slice (some ⟨g, 0, none⟩) n c) vx n m) (i : Nat) (u : Value) : Kg S w0 (wr.setCell ⟨g, i, none⟩ u) (.slice (some ⟨g, 0, none⟩) n c) vx n m :=
  ⟨h.a.set i u, h.x.keep fun g' hg' _ => Below.heap_setCell wr _ u g' (fun e => RG.ne h.a h.x (by decide) (g := g) rfl (by rw [hg', e])), h.ch.setCell _ _ (fun hlt => (h.av g rfl).elim id (fun h => absurd hlt (by show ¬ g < _; omega))), h.av, h.xv⟩
theorem Kg.setX {S : Nat → Prop} {w0 wr : World} {va : Value} {n m g c : Nat} (h : Kg S w0 wr va (.slice (some ⟨g, 0, none⟩) m c) n m) (i : Nat) (u : Value) : Kg S w0 (wr.setCell ⟨g, i, none⟩ u) va (.slice (some ⟨g, 0, none⟩) m c) n m :=
  ⟨h.a.keep fun g' hg' _ => Below.heap_setCell wr _ u g' (fun e => RG.ne h.x h.a (by decide) (g := g) rfl (by rw [hg', e])), h.x.set i u, h.ch.setCell _ _ (fun hlt => (h.xv g rfl).elim id (fun h => absurd hlt (by show ¬ g < _; omega))), h.av, h.xv⟩
theorem Kg.pushA {S : Nat → Prop} {w0 wr w' : World} {va vx : Value} {n m g cap : Nat} {ys : List Value} (h : Kg S w0 wr va vx n m) (hown : w'.ownsRow 0 45 4 (.slice (some ⟨g, 0, none⟩) (n + 1) cap) (n + 1) ys) (hgrow : wr.grownBy w' va.ownBlock) (hat : va.ownBlock = some g ∨ g = wr.heap.size) : Kg S w0 w' (.slice (some ⟨g, 0, none⟩) (n + 1) cap) vx (n + 1) m := by
  have hc : Ch (fun i => va.ownBlock = some i) wr w' := ⟨hgrow.os, hgrow.tape, hgrow.output, hgrow.size, fun k hk hs => hgrow.block k hk (fun e => hs e.symm)⟩
  refine ⟨⟨_, hown⟩, h.x.keep fun g' hg' hlt => hc.block g' hlt (fun hs => RG.ne h.a h.x (by decide) hs hg'), h.ch.then hc (fun i hi hs => ?_), fun g' hg' => ?_, h.xv⟩
  · rcases h.av i hs with h1 | h1
    · exact h1
    · omega
  · simp only [Value.ownBlock, Option.some.injEq] at hg'
    subst hg'
    rcases hat with h1 | h1
    · exact h.av _ h1
    · right; have := h.ch.size; omega
theorem Kg.pushX {S : Nat → Prop} {w0 wr w' : World} {va vx : Value} {n m g cap : Nat} {ys : List Value} (h : Kg S w0 wr va vx n m) (hown : w'.ownsRow 0 9 1 (.slice (some ⟨g, 0, none⟩) (m + 1) cap) (m + 1) ys) (hgrow : wr.grownBy w' vx.ownBlock) (hat : vx.ownBlock = some g ∨ g = wr.heap.size) : Kg S w0 w' va (.slice (some ⟨g, 0, none⟩) (m + 1) cap) n (m + 1) := by
  have hc : Ch (fun i => vx.ownBlock = some i) wr w' := ⟨hgrow.os, hgrow.tape, hgrow.output, hgrow.size, fun k hk hs => hgrow.block k hk (fun e => hs e.symm)⟩
  refine ⟨h.a.keep fun g' hg' hlt => hc.block g' hlt (fun hs => RG.ne h.x h.a (by decide) hs hg'), ⟨_, hown⟩, h.ch.then hc (fun i hi hs => ?_), h.av, fun g' hg' => ?_⟩
  · rcases h.xv i hs with h1 | h1
    · exact h1
    · omega
  · simp only [Value.ownBlock, Option.some.injEq] at hg'
    subst hg'
    rcases hat with h1 | h1
    · exact h.xv _ h1
    · right; have := h.ch.size; omega
theorem Sgs.keep {w w' : World} {a : Option Addr} {l : List Sg} (h : Sgs w a l) (hs : w.heap.size ≤ w'.heap.size) (hb : ∀ ad, a = some ad → ad.block < w.heap.size → w'.heap[ad.block]? = w.heap[ad.block]?) : Sgs w' a l := by
  rcases h with e | ⟨b, off, rfl, hlt, hc⟩
  · exact Or.inl e
  · refine Or.inr ⟨b, off, rfl, Nat.lt_of_lt_of_le hlt hs, fun j hj => ?_⟩
    have hk : w'.heap[b]? = w.heap[b]? := hb _ rfl hlt
    have e : ∀ i, w'.cell? ⟨b, i, none⟩ = w.cell? ⟨b, i, none⟩ := fun i => by simp only [World.cell?, hk]
    rw [e, e, e, e]
    exact hc j hj
theorem Txs.keep {w w' : World} {a : Option Addr} {l : List ByteArray} (h : Txs w a l) (hs : w.heap.size ≤ w'.heap.size) (hb : ∀ ad, a = some ad → ad.block < w.heap.size → w'.heap[ad.block]? = w.heap[ad.block]?) : Txs w' a l := by
  rcases h with e | ⟨b, off, rfl, hlt, hc⟩
  · exact Or.inl e
  · refine Or.inr ⟨b, off, rfl, Nat.lt_of_lt_of_le hlt hs, fun j hj => ?_⟩
    have hk : w'.heap[b]? = w.heap[b]? := hb _ rfl hlt
    have e : ∀ i, w'.cell? ⟨b, i, none⟩ = w.cell? ⟨b, i, none⟩ := fun i => by simp only [World.cell?, hk]
    rw [e]
    exact hc j hj
/-- A row of texts' cells, from its place on. -/
theorem txs_cells {l : List ByteArray} {ad : Addr} {w : World} (hv : Txs w (some ad) l) : ∀ wx, Below w.heap.size w wx → ∀ j u, (l.map Value.string)[j]? = some u → wx.cell? (ad.add j) = some u := fun wx hx j u hu => by
  rcases hv with h | ⟨b, off, h, hb, hc⟩
  · rw [h] at hu; simp at hu
  · injection h with h
    subst h
    rw [List.getElem?_map, Option.map_eq_some_iff] at hu
    obtain ⟨s, hs, rfl⟩ := hu
    have hj : j < l.length := by
      rcases Nat.lt_or_ge j l.length with h | h
      · exact h
      · rw [List.getElem?_eq_none h] at hs; cases hs
    rw [Go.WideShapes.add_plain, (hx.cell (p := ⟨b, off + j, none⟩) hb).trans (hc j hj), List.getD_eq_getElem?_getD, hs]
    rfl
theorem strs_one (l : List ByteArray) : ∀ u ∈ l.map Value.string, u.oneCell' = true := fun u hu => by
  obtain ⟨s, _, rfl⟩ := List.mem_map.1 hu
  rfl
theorem row_cap {w : World} {B : Nat} {e : TypeId} {size n g cap : Nat} {xs : List Value} (h : w.ownsRow B e size (.slice (some ⟨g, 0, none⟩) n cap) n xs) : n ≤ cap ∧ cap ≤ maxLen := by
  rcases h.2 with ⟨h1, _⟩ | ⟨g', cap', cur, hv, _, _, h5, h6, _⟩
  · cases h1
  · simp only [Value.slice.injEq, Option.some.injEq, Addr.mk.injEq, and_true, true_and] at hv
    obtain ⟨_, rfl⟩ := hv
    exact ⟨h5, h6⟩
/-- The first texts of a row of the call's own. -/
theorem row_txs {w : World} {B g cap : Nat} {l : List ByteArray} {ys : List Value} {n : Nat} (h : w.ownsRow B 9 1 (.slice (some ⟨g, 0, none⟩) n cap) n (l.map Value.string ++ ys)) (hn : l.length ≤ n) : Txs w (some ⟨g, 0, none⟩) l := by
  refine Or.inr ⟨g, 0, rfl, (World.ownsRow.lt h g rfl).2, fun j hj => ?_⟩
  rw [Nat.zero_add, h.cellAt j (by omega), List.getElem?_append_left (by rw [List.length_map]; exact hj), List.getElem?_map, List.getD_eq_getElem?_getD, List.getElem?_eq_getElem hj]
  rfl
end Go.Proofs.YtgffipkbbenddaaDoor
