/- What came in: rows of entries, of numbers, of calls, of texts, where they lie and how great they are. -/
import Derived.Test.YtmhmohkeekmmgaaTld
import Derived.Test.YtmhmohkeekmmgaaTxb
import Derived.ProofKit
import Derived.OpenShut
import Derived.ShutString
import Derived.ChangeOld
import Derived.ChangeSame
import Derived.SizedLaws
import Derived.Deep.Slices
import Derived.Deep.Strs
namespace Go.Proofs.Ytmhmohkeekmmgaa
open Go.ChangeShapes Go.WideShapes Go.ChangeAt Go.RowKit Go.Deep
theorem Try.cEn : Try.prog.cellsOf 29 = 2 := by kernel_rfl
theorem Try.cI2 : Try.prog.cellsOf 2 = 1 := by kernel_rfl
theorem Try.cI3 : Try.prog.cellsOf 3 = 1 := by kernel_rfl
theorem Try.cStr : Try.prog.cellsOf 9 = 1 := by kernel_rfl
theorem Try.cOp : Try.prog.cellsOf 31 = 4 := by kernel_rfl
theorem Try.bEn : Try.prog.bytesOf 29 = 16 := by kernel_rfl
theorem Try.bI2 : Try.prog.bytesOf 2 = 8 := by kernel_rfl
theorem Try.bStr : Try.prog.bytesOf 9 = 16 := by kernel_rfl
theorem Try.bOp : Try.prog.bytesOf 31 = 32 := by kernel_rfl
variable {H : Type} {enc : TypeId × Value → H} {W : World}
/-- An entry's numbers are int64s. -/
def EnOk (e : En) : Prop := (-9223372036854775808 ≤ e.k ∧ e.k ≤ 9223372036854775807) ∧ (-9223372036854775808 ≤ e.a ∧ e.a ≤ 9223372036854775807)
theorem open_en {fuel : Nat} {cs : List Value} {x : DataW H × List MemPlace} (h : DataW.trod enc Try.prog W 0 (fun _ => true) true fuel 29 cs = some x) : ∃ e : En, cs = [.int .i64 e.k, .int .i64 e.a] ∧ EnOk e := by
  obtain ⟨y0, y1, n, rfl, hlen, k0, k1⟩ := trod_struct2 Try.underlying29 h
  rw [Try.cEn] at hlen
  simp only [Try.cI2] at k0 k1
  obtain ⟨b, q0, r0, w0⟩ := DataW.trod_int Try.underlying2 k0
  obtain ⟨d, q1, r1, w1⟩ := DataW.trod_int Try.underlying2 k1
  match cs, hlen with
  | [u, v], _ =>
    simp at q0 q1
    subst q0 q1
    exact ⟨⟨b, d⟩, rfl, bounds_i64 w0, bounds_i64 w1⟩
theorem open_ents {fuel : Nat} {cs : List Value} {x : DataW H × List MemPlace} (h : DataW.trod enc Try.prog W 0 (fun _ => true) true fuel 45 cs = some x) (hz : ∀ n ∈ x.1.weights Try.prog 45, n ≤ reachBytes) : ∃ (a : Option Addr) (cap : Nat) (l : List En), cs = [.slice a l.length cap] ∧ Ens W a l ∧ l.length ≤ 8796093021952 ∧ ∀ y ∈ l, EnOk y := by
  haveI : Inhabited En := ⟨en0⟩
  rcases open_slice Try.underlying45 h with ⟨hcs', hx⟩ | ⟨x', l, c, m, n, D, Pl, hcs', _, hl', hm, hmm, hx, hel⟩
  · exact ⟨none, 0, [], by simpa using hcs', Or.inl rfl, by simp, by simp⟩
  · simp only [if_true] at hmm
    subst hx
    simp only [DataW.weights, Try.underlying45, List.length_map, List.length_range, Try.bEn, List.mem_cons, List.mem_append] at hz
    have hl0 := hz _ (Or.inl rfl)
    have each : ∀ i, i < l → ∃ o : En, W.cell? ((x'.add (i * 2)).add 0) = some (.int .i64 o.k) ∧ W.cell? ((x'.add (i * 2)).add 1) = some (.int .i64 o.a) ∧ EnOk o := by
      intro i hi
      obtain ⟨cs', e1, e2⟩ := hel i (by omega)
      rw [Try.cEn] at e1
      obtain ⟨y, hy, hwf⟩ := open_en e2
      have g := (World.cells?_some e1)
      refine ⟨y, ?_, ?_, hwf⟩
      · rw [g.2.2 0 (by omega), hy]; rfl
      · rw [g.2.2 1 (by omega), hy]; rfl
    obtain ⟨f, hf⟩ := choose_lt each
    refine ⟨some x', c, (List.range l).map f, by simpa using hcs', ?_, ?_, ?_⟩
    · by_cases h0 : l = 0
      · left; subst h0; rfl
      · right
        obtain ⟨b, off, spot⟩ := x'
        have h00 := (hf 0 (by omega)).1
        have hspot : spot = none := by simpa [Addr.add] using World.cell?_spot h00
        subst hspot
        have hlt := World.block_lt_of_cell? _ _ h00
        refine ⟨b, off, rfl, by simpa [Addr.add] using hlt, fun j hj => ?_⟩
        have hj' : j < l := by simpa using hj
        obtain ⟨k0, k1, _⟩ := hf j hj'
        rw [Go.WideShapes.add_plain, Go.WideShapes.add_plain] at k0 k1
        have eg : ((List.range l).map f).getD j en0 = f j := by
          rw [List.getD_eq_getElem?_getD, List.getElem?_map, List.getElem?_range hj']
          rfl
        rw [eg]
        exact ⟨by simpa using k0, k1⟩
    · simp only [List.length_map, List.length_range]
      unfold reachBytes at hl0
      omega
    · intro y hy
      simp only [List.mem_map, List.mem_range] at hy
      obtain ⟨i, hi, rfl⟩ := hy
      exact (hf i hi).2.2
end Go.Proofs.Ytmhmohkeekmmgaa
