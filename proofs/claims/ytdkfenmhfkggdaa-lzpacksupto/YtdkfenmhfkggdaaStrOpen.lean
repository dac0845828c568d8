/- What a slice of texts that came in is: its elements, where they lie; what the bound on what comes in gives. -/
import Derived.Test.YtdkfenmhfkggdaaPacks
import Derived.ProofKit
import Derived.OpenShut
import Derived.ShutString
import Derived.ChangeOld
import Derived.JoinedCond
import Derived.ChangeSame
import Derived.Deep.Slices
namespace Go.Proofs.Ytdkfenmhfkggdaa
open Go.ChangeShapes Go.WideShapes Go.ChangeAt Go.RowKit Go.Deep
theorem bulk_mem {H : Type} (D : Nat → DataW H) : ∀ (l : List Nat) (i : Nat), i ∈ l → Rows.uptoBulk (D i) ≤ Rows.uptoBulkAll (l.map D)
  | [], _, h => by simp at h
  | x :: l, i, h => by
    simp only [List.map_cons, Rows.uptoBulkAll]
    rcases List.mem_cons.1 h with e | e
    · subst e; omega
    · have := bulk_mem D l i e; omega
theorem open_strs {H : Type} {enc : TypeId × Value → H} {W : World} {a : Option Addr} {len cap : Nat} {d : DataW H} {p : List MemPlace} {ST TS : TypeId}
    (hST : Try.prog.underlying ST = some (.slice TS)) (hTS : Try.prog.underlying TS = some .string) (hcs : Try.prog.cellsOf TS = 1)
    (h : DataW.Trod enc Try.prog W 0 (fun _ => true) true ST (.slice a len cap) d p) : ∃ ss : List ByteArray, ss.length = len ∧ Strs W a ss ∧ (∀ s ∈ ss, s.size ≤ Rows.uptoBulk d) ∧ ss.length ≤ 9223372036854775807 := by
  obtain ⟨fuel, hf⟩ := h
  rcases open_slice hST hf with ⟨hcs', hx⟩ | ⟨x, l, c, m, n, D, Pl, hcs', _, hl, hm, hmm, hx, hel⟩
  · simp [Value.cells] at hcs'
    obtain ⟨rfl, rfl, rfl⟩ := hcs'
    exact ⟨[], rfl, Or.inl rfl, by simp, by simp⟩
  · simp [Value.cells] at hcs'
    obtain ⟨rfl, rfl, rfl⟩ := hcs'
    simp only [if_true] at hmm
    simp only [Prod.mk.injEq] at hx
    obtain ⟨hd, _⟩ := hx
    have each : ∀ i, i < len → ∃ s : ByteArray, W.cell? (x.add (i * 1)) = some (.string s) ∧ s.size ≤ Rows.uptoBulk (D i) := by
      intro i hi
      obtain ⟨cs', e1, e2⟩ := hel i (by omega)
      rw [hcs] at e1
      obtain ⟨s, q0, r0, _⟩ := DataW.trod_string hTS e2
      have g := (World.cells?_some e1)
      refine ⟨s, ?_, ?_⟩
      · have := g.2.2 0 (by omega)
        simp only [q0] at this
        simpa [Addr.add] using this
      · have hD : D i = .lit (.string s.data.toList) := congrArg Prod.fst r0
        rw [hD]
        simp only [Rows.uptoBulk]
        rw [Array.length_toList]
        show s.size ≤ s.size + 1
        omega
    obtain ⟨f, hf⟩ := choose_lt each
    refine ⟨(List.range len).map f, by simp, ?_, ?_, ?_⟩
    · by_cases h0 : len = 0
      · left; subst h0; rfl
      · right
        obtain ⟨b, off, spot⟩ := x
        have h00 := (hf 0 (by omega)).1
        have hspot : spot = none := by simpa [Addr.add] using World.cell?_spot h00
        subst hspot
        have hlt := World.block_lt_of_cell? _ _ h00
        refine ⟨b, off, rfl, by simpa [Addr.add] using hlt, fun j hj => ?_⟩
        have hj' : j < len := by simpa using hj
        obtain ⟨k0, _⟩ := hf j hj'
        rw [Go.WideShapes.add_plain, Nat.mul_one] at k0
        have eg : ((List.range len).map f).getD j ByteArray.empty = f j := by
          rw [List.getD_eq_getElem?_getD, List.getElem?_map, List.getElem?_range hj']
          rfl
        rw [eg]
        exact k0
    · intro s hs
      simp only [List.mem_map, List.mem_range] at hs
      obtain ⟨i, hi, rfl⟩ := hs
      have h1 := (hf i hi).2
      have h2 := bulk_mem D (List.range len) i (by simpa using hi)
      rw [hd]
      simp only [Rows.uptoBulk]
      omega
    · simp
      unfold maxLen at hm
      omega
end Go.Proofs.Ytdkfenmhfkggdaa
