/- What came in: heads, where they lie, and of none that there are none. -/
import Derived.Test.YtolobmhbmajolaaPfo
namespace Go.Proofs.Ytolobmhbmajolaa
open Go.ChangeShapes Go.WideShapes Go.ChangeAt Go.RowKit Go.Deep
variable {H : Type} {enc : TypeId × Value → H} {W : World}
theorem open_heads0 {fuel : Nat} {cs : List Value} {x : DataW H × List MemPlace} (h : DataW.trod enc Try.prog W 0 (fun _ => true) true fuel 35 cs = some x) (hz : ∀ n ∈ x.1.weights Try.prog 35, n ≤ reachBytes) : ∃ (a : Option Addr) (cap : Nat) (l : List Hd), cs = [.slice a l.length cap] ∧ Hds W a l ∧ l.length * 64 ≤ reachBytes ∧ (a = none → l = [] ∧ cap = 0) ∧ ∀ o ∈ l, HdOk o := by
  haveI : Inhabited Hd := ⟨hd0⟩
  rcases open_slice Try.underlying35 h with ⟨hcs', hx⟩ | ⟨x', l, c, m, n, D, Pl, hcs', _, hl', hm, hmm, hx, hel⟩
  · exact ⟨none, 0, [], by simpa using hcs', Or.inl rfl, by simp, fun _ => ⟨rfl, rfl⟩, by simp⟩
  · simp only [if_true] at hmm
    subst hx
    simp only [DataW.weights, Try.underlying35, List.length_map, List.length_range, Try.bHd, List.mem_cons, List.mem_append] at hz
    have hl0 := hz _ (Or.inl rfl)
    have each : ∀ i, i < l → ∃ o : Hd, (∀ k, k < 8 → W.cell? ((x'.add (i * 8)).add k) = (hv o)[k]?) ∧ HdOk o := by
      intro i hi
      obtain ⟨cs', e1, e2⟩ := hel i (by omega)
      rw [Try.cHd] at e1
      obtain ⟨o, rfl, ho⟩ := open_hd e2
      have g := World.cells?_some e1
      exact ⟨o, fun k hk => g.2.2 k hk, ho⟩
    obtain ⟨f, hf⟩ := choose_lt each
    refine ⟨some x', c, (List.range l).map f, by simpa using hcs', ?_, ?_, fun e => (by cases e), ?_⟩
    · by_cases h0 : l = 0
      · left; subst h0; rfl
      · right
        obtain ⟨b, off, spot⟩ := x'
        have h00 : W.cell? (((⟨b, off, spot⟩ : Addr).add (0 * 8)).add 0) = some (.int .i64 (f 0).b) := (hf 0 (by omega)).1 0 (by omega)
        have hspot : spot = none := by simpa [Addr.add] using World.cell?_spot h00
        subst hspot
        have hlt := World.block_lt_of_cell? _ _ h00
        refine ⟨b, off, rfl, by simpa [Addr.add] using hlt, fun j hj => ?_⟩
        have hj' : j < l := by simpa using hj
        have k := (hf j hj').1
        have eg : ((List.range l).map f).getD j hd0 = f j := by
          rw [List.getD_eq_getElem?_getD, List.getElem?_map, List.getElem?_range hj']
          rfl
        rw [eg]
        have kk : ∀ i, i < 8 → W.cell? ⟨b, off + j * 8 + i, none⟩ = (hv (f j))[i]? := fun i hi => by
          have := k i hi
          rw [Go.WideShapes.add_plain, Go.WideShapes.add_plain] at this
          exact this
        exact ⟨kk 0 (by omega), kk 1 (by omega), kk 2 (by omega), kk 3 (by omega), kk 4 (by omega), kk 5 (by omega), kk 6 (by omega), kk 7 (by omega)⟩
    · simp only [List.length_map, List.length_range]
      unfold reachBytes at *
      omega
    · intro o ho
      simp only [List.mem_map, List.mem_range] at ho
      obtain ⟨i, hi, rfl⟩ := ho
      exact (hf i hi).2
end Go.Proofs.Ytolobmhbmajolaa
