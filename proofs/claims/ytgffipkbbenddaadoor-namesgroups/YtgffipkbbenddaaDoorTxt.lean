/- A row of texts that came in, its length held closer; blocks that stay. -/
import Derived.Test.YtgffipkbbenddaaDoorTxs
import Derived.Test.YtgffipkbbenddaaDoorRgr
import Derived.Test.YtgffipkbbenddaaDoorStx
import Derived.Test.YtgffipkbbenddaaDoorSam
namespace Go.Proofs.YtgffipkbbenddaaDoor
open Go.ChangeShapes Go.WideShapes Go.ChangeAt Go.RowKit Go.Deep Go.Lib
theorem open_strs9t {H : Type} {enc : TypeId × Value → H} {W : World} {fuel : Nat} {cs : List Value} {x : DataW H × List MemPlace} (h : DataW.trod enc Tryd.prog W 0 (fun _ => true) true fuel 29 cs = some x) (hz : ∀ n ∈ x.1.weights Tryd.prog 29, n ≤ reachBytes) : ∃ (a : Option Addr) (cap : Nat) (l : List ByteArray), cs = [.slice a l.length cap] ∧ Txs W a l ∧ l.length ≤ 8796093021952 ∧ ∀ y ∈ l, y.size ≤ 140737488355328 := by
  rcases open_slice Tryd.underlying29 h with ⟨hcs', hx⟩ | ⟨x', l, c, m, n, D, Pl, hcs', _, hl', hm, hmm, hx, hel⟩
  · exact ⟨none, 0, [], by simpa using hcs', Or.inl rfl, by simp, by simp⟩
  · simp only [if_true] at hmm
    subst hx
    simp only [DataW.weights, Tryd.underlying29, List.length_map, List.length_range, Tryd.bStr9, List.mem_cons, List.mem_append] at hz
    have hl0 := hz _ (Or.inl rfl)
    have each : ∀ i, i < l → ∃ o : ByteArray, W.cell? (x'.add i) = some (.string o) ∧ o.size ≤ 140737488355328 := by
      intro i hi
      obtain ⟨cs', e1, e2⟩ := hel i (by omega)
      rw [Tryd.cStr9] at e1
      obtain ⟨d, q1, r1, w1⟩ := DataW.trod_string Tryd.underlying9 e2
      have g := (World.cells?_some e1)
      have hb' := hz _ (Or.inr (Or.inl (w_mem_all (List.mem_map_of_mem (List.mem_range.2 hi)) d.size (by have r1' : D i = .lit (.string d.data.toList) := congrArg Prod.fst r1; rw [r1']; simp [DataW.weights]))))
      refine ⟨d, ?_, by unfold reachBytes at hb'; omega⟩
      have := g.2.2 0 (by omega)
      rw [q1] at this
      simpa [Nat.mul_one, Addr.add] using this
    obtain ⟨f, hf⟩ := choose_lt each
    refine ⟨some x', c, (List.range l).map f, by simpa using hcs', ?_, ?_, ?_⟩
    · by_cases h0 : l = 0
      · left; subst h0; rfl
      · right
        obtain ⟨b, off, spot⟩ := x'
        have h00 := (hf 0 (by omega)).1
        have hspot : spot = none := by simpa [Addr.add] using World.cell?_spot h00
        subst hspot
        have hlt := World.block_lt_of_cell? _ _ h00
        refine ⟨b, off, rfl, by simpa [Addr.add] using hlt, fun j hj => ?_⟩
        have hj' : j < l := by simpa using hj
        obtain ⟨k0, _⟩ := hf j hj'
        rw [Go.WideShapes.add_plain] at k0
        have eg : ((List.range l).map f).getD j ByteArray.empty = f j := by
          rw [List.getD_eq_getElem?_getD, List.getElem?_map, List.getElem?_range hj']
          rfl
        rw [eg]
        exact k0
    · simp only [List.length_map, List.length_range]
      unfold reachBytes at hl0
      omega
    · intro y hy
      simp only [List.mem_map, List.mem_range] at hy
      obtain ⟨i, hi, rfl⟩ := hy
      exact (hf i hi).2
/-- Every block below p, and every one from q on to r, is as it was. -/
structure Fr (p q r : Nat) (w w' : World) : Prop where
  os : w'.os = w.os
  tape : w'.tape = w.tape
  output : w'.output = w.output
  size : w.heap.size ≤ w'.heap.size
  block : ∀ k, (k < p ∨ (q ≤ k ∧ k < r)) → w'.heap[k]? = w.heap[k]?
theorem Fr.refl (p q r : Nat) (w : World) : Fr p q r w w := ⟨rfl, rfl, rfl, Nat.le_refl _, fun _ _ => rfl⟩
theorem Fr.below {p q r : Nat} {w w' w'' : World} (h : Fr p q r w w') (hb : Below w'.heap.size w' w'') (hr : r ≤ w.heap.size) (hp : p ≤ r) : Fr p q r w w'' :=
  ⟨hb.os.trans h.os, hb.tape.trans h.tape, hb.output.trans h.output, Nat.le_trans h.size hb.size, fun k hk => (hb.block k (by have := h.size; omega)).trans (h.block k hk)⟩
theorem Fr.set {p q r : Nat} {w w' : World} (h : Fr p q r w w') (a : Addr) (v : Value) (ha : p ≤ a.block ∧ (a.block < q ∨ r ≤ a.block)) : Fr p q r w (w'.setCell a v) :=
  ⟨h.os, h.tape, h.output, by have := h.size; simp [World.setCell]; omega, fun k hk => (Below.heap_setCell w' a v k (by omega)).trans (h.block k hk)⟩
theorem Fr.base {p q r : Nat} {w w' : World} (h : Fr p q r w w') : Below p w w' := ⟨h.os, h.tape, h.output, h.size, fun k hk => h.block k (Or.inl hk)⟩
/-- A row of segments that lies where nothing turns. -/
theorem Fr.sgs {p q r : Nat} {w w' : World} (h : Fr p q r w w') {a : Option Addr} {l : List Sg} (hs : Sgs w a l) (ha : ∀ x, a = some x → x.block < p ∨ (q ≤ x.block ∧ x.block < r)) : Sgs w' a l := by
  rcases hs with e | ⟨b, off, rfl, hb, hc⟩
  · exact Or.inl e
  · refine Or.inr ⟨b, off, rfl, Nat.lt_of_lt_of_le hb h.size, fun j hj => ?_⟩
    have hk := h.block b (ha _ rfl)
    have e : ∀ i, w'.cell? ⟨b, i, none⟩ = w.cell? ⟨b, i, none⟩ := fun i => by simp only [World.cell?, hk]
    rw [e, e, e, e]
    exact hc j hj
theorem Fr.txs {p q r : Nat} {w w' : World} (h : Fr p q r w w') {a : Option Addr} {l : List ByteArray} (hs : Txs w a l) (ha : ∀ x, a = some x → x.block < p ∨ (q ≤ x.block ∧ x.block < r)) : Txs w' a l := by
  rcases hs with e | ⟨b, off, rfl, hb, hc⟩
  · exact Or.inl e
  · refine Or.inr ⟨b, off, rfl, Nat.lt_of_lt_of_le hb h.size, fun j hj => ?_⟩
    have hk := h.block b (ha _ rfl)
    have e : ∀ i, w'.cell? ⟨b, i, none⟩ = w.cell? ⟨b, i, none⟩ := fun i => by simp only [World.cell?, hk]
    rw [e]
    exact hc j hj
end Go.Proofs.YtgffipkbbenddaaDoor
