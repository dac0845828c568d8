/- What came in: rows of numbers of two bytes, where they lie and how long they are. -/
import Derived.Test.YtolobmhbmajolaaPe2
import Derived.ProofKit
import Derived.OpenShut
import Derived.ShutString
import Derived.ChangeOld
import Derived.ChangeSame
import Derived.SizedLaws
import Derived.Deep.Slices
import Derived.Deep.Strs
namespace Go.Proofs.Ytolobmhbmajolaa
open Go.ChangeShapes Go.WideShapes Go.ChangeAt Go.RowKit Go.Deep
variable {H : Type} {enc : TypeId × Value → H} {W : World}
theorem Try.cU16 : Try.prog.cellsOf 42 = 1 := by kernel_rfl
theorem Try.bU16 : Try.prog.bytesOf 42 = 2 := by kernel_rfl
theorem open_u16s {fuel : Nat} {cs : List Value} {x : DataW H × List MemPlace} (h : DataW.trod enc Try.prog W 0 (fun _ => true) true fuel 41 cs = some x) (hz : ∀ n ∈ x.1.weights Try.prog 41, n ≤ reachBytes) : ∃ (a : Option Addr) (cap : Nat) (l : List Nat), cs = [.slice a l.length cap] ∧ U16 W a l ∧ l.length ≤ 140737488355328 := by
  rcases open_slice Try.underlying41 h with ⟨hcs', hx⟩ | ⟨x', l, c, m, n, D, Pl, hcs', _, hl', hm, hmm, hx, hel⟩
  · exact ⟨none, 0, [], by simpa using hcs', Or.inl rfl, by simp⟩
  · simp only [if_true] at hmm
    subst hx
    simp only [DataW.weights, Try.underlying41, List.length_map, List.length_range, Try.bU16, List.mem_cons, List.mem_append] at hz
    have hl0 := hz _ (Or.inl rfl)
    have each : ∀ i, i < l → ∃ o : Nat, W.cell? (x'.add i) = some (.int .u16 (o : Nat)) ∧ o < 65536 := by
      intro i hi
      obtain ⟨cs', e1, e2⟩ := hel i (by omega)
      rw [Try.cU16] at e1
      obtain ⟨d, q1, r1, w1⟩ := DataW.trod_int Try.underlying42 e2
      have hb := bounds_u16 w1
      have g := (World.cells?_some e1)
      refine ⟨d.toNat, ?_, by omega⟩
      have h0 := g.2.2 0 (by omega)
      rw [q1] at h0
      rw [show ((d.toNat : Nat) : Int) = d from by omega]
      simpa [Addr.add] using h0
    obtain ⟨f, hf⟩ := choose_lt each
    refine ⟨some x', c, (List.range l).map f, by simpa using hcs', ?_, ?_⟩
    · by_cases h0 : l = 0
      · left; subst h0; rfl
      · right
        obtain ⟨b, off, spot⟩ := x'
        have h00 := (hf 0 (by omega)).1
        have hspot : spot = none := by simpa [Addr.add] using World.cell?_spot h00
        subst hspot
        have hlt := World.block_lt_of_cell? _ _ h00
        refine ⟨b, off, rfl, by simpa [Addr.add] using hlt, fun j hj => ?_⟩
        have hj' : j < l := by simpa using hj
        obtain ⟨k0, k1⟩ := hf j hj'
        rw [Go.WideShapes.add_plain] at k0
        have eg : ((List.range l).map f).getD j 0 = f j := by
          rw [List.getD_eq_getElem?_getD, List.getElem?_map, List.getElem?_range hj']
          rfl
        rw [eg]
        exact ⟨k0, k1⟩
    · simp only [List.length_map, List.length_range]
      unfold reachBytes at hl0
      omega
end Go.Proofs.Ytolobmhbmajolaa
