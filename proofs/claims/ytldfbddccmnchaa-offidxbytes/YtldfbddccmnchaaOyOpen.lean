/- What came in: rows of texts; a nil row has no room. -/
import Derived.Test.YtldfbddccmnchaaOyw
namespace Go.Proofs.Ytldfbddccmnchaa
open Go.ChangeShapes Go.WideShapes Go.ChangeAt Go.RowKit Go.Deep
variable {H : Type} {enc : TypeId × Value → H} {W : World}
theorem w_mem_all {P : Program} {e : TypeId} : ∀ {l : List (DataW H)} {d : DataW H}, d ∈ l → ∀ n ∈ d.weights P e, n ∈ DataW.weightsAll P e l
  | x :: l, d, h, n, hn => by
    simp only [DataW.weightsAll, List.mem_append]
    rcases List.mem_cons.1 h with rfl | h
    · exact Or.inl hn
    · exact Or.inr (w_mem_all h n hn)
theorem open_ents0 {fuel : Nat} {cs : List Value} {x : DataW H × List MemPlace} (h : DataW.trod enc Try.prog W 0 (fun _ => true) true fuel 35 cs = some x) (hz : ∀ n ∈ x.1.weights Try.prog 35, n ≤ reachBytes) : ∃ (a : Option Addr) (cap : Nat) (l : List En), cs = [.slice a l.length cap] ∧ Ens W a l ∧ l.length ≤ 8796093021952 ∧ (a = none → cap = 0) := by
  obtain ⟨a, cap, l, h1, h2, h3, _⟩ := open_ents h hz
  refine ⟨a, cap, l, h1, h2, h3, fun ha => ?_⟩
  rcases open_slice Try.underlying35 h with ⟨hcs', hx⟩ | ⟨x', l', c, m, n, D, Pl, hcs', _⟩
  · rw [h1] at hcs'
    simp at hcs'
    exact hcs'.2.2
  · rw [h1, ha] at hcs'
    simp at hcs'
theorem open_strs {fuel : Nat} {cs : List Value} {x : DataW H × List MemPlace} (h : DataW.trod enc Try.prog W 0 (fun _ => true) true fuel 36 cs = some x) (hz : ∀ n ∈ x.1.weights Try.prog 36, n ≤ reachBytes) : ∃ (a : Option Addr) (cap : Nat) (l : List ByteArray), cs = [.slice a l.length cap] ∧ Txs W a l ∧ l.length ≤ 9223372036854775806 ∧ ∀ y ∈ l, y.size ≤ 140737488351232 := by
  rcases open_slice Try.underlying36 h with ⟨hcs', hx⟩ | ⟨x', l, c, m, n, D, Pl, hcs', _, hl', hm, hmm, hx, hel⟩
  · exact ⟨none, 0, [], by simpa using hcs', Or.inl rfl, by simp, by simp⟩
  · simp only [if_true] at hmm
    subst hx
    simp only [DataW.weights, Try.underlying36, List.length_map, List.length_range, Try.bStr, List.mem_cons, List.mem_append] at hz
    have hl0 := hz _ (Or.inl rfl)
    have each : ∀ i, i < l → ∃ o : ByteArray, W.cell? (x'.add i) = some (.string o) ∧ o.size ≤ 140737488351232 := by
      intro i hi
      obtain ⟨cs', e1, e2⟩ := hel i (by omega)
      rw [Try.cStr] at e1
      obtain ⟨d, q1, r1, w1⟩ := DataW.trod_string Try.underlying9 e2
      have g := (World.cells?_some e1)
      have hb' := hz _ (Or.inr (Or.inl (w_mem_all (List.mem_map_of_mem (List.mem_range.2 hi)) d.size (by have r1' : D i = .lit (.string d.data.toList) := congrArg Prod.fst r1; rw [r1']; simp [DataW.weights]))))
      refine ⟨d, ?_, by unfold reachBytes at hb'; omega⟩
      have := g.2.2 0 (by omega)
      rw [q1] at this
      simpa [Nat.mul_one, Addr.add] using this
    obtain ⟨f, hf⟩ := choose_lt each
    refine ⟨some x', c, (List.range l).map f, by simpa using hcs', ?_, ?_, ?_⟩
    · by_cases h0 : l = 0
      · left; subst h0; rfl
      · right
        obtain ⟨b, off, spot⟩ := x'
        have h00 := (hf 0 (by omega)).1
        have hspot : spot = none := by simpa [Addr.add] using World.cell?_spot h00
        subst hspot
        have hlt := World.block_lt_of_cell? _ _ h00
        refine ⟨b, off, rfl, by simpa [Addr.add] using hlt, fun j hj => ?_⟩
        have hj' : j < l := by simpa using hj
        obtain ⟨k0, _⟩ := hf j hj'
        rw [Go.WideShapes.add_plain] at k0
        have eg : ((List.range l).map f).getD j ByteArray.empty = f j := by
          rw [List.getD_eq_getElem?_getD, List.getElem?_map, List.getElem?_range hj']
          rfl
        rw [eg]
        exact k0
    · simp only [List.length_map, List.length_range]
      unfold reachBytes at hl0
      omega
    · intro y hy
      simp only [List.mem_map, List.mem_range] at hy
      obtain ⟨i, hi, rfl⟩ := hy
      exact (hf i hi).2
end Go.Proofs.Ytldfbddccmnchaa
