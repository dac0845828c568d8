/- What a script of calls that came in is: its elements, where they lie. -/
import Derived.Test.YtclelafnjfhdjaaFac
import Derived.ProofKit
import Derived.OpenShut
import Derived.ShutString
import Derived.ChangeOld
import Derived.ChangeSame
import Derived.Deep.Slices
import Derived.Deep.Strs
namespace Go.Proofs.Ytclelafnjfhdjaa
open Go.ChangeShapes Go.WideShapes Go.ChangeAt Go.RowKit Go.Deep
theorem list5 {α : Type} : ∀ {l : List α}, l.length = 5 → ∃ a b c d e, l = [a, b, c, d, e]
  | [a, b, c, d, e], _ => ⟨a, b, c, d, e, rfl⟩
theorem open_scr {H : Type} {enc : TypeId × Value → H} {W : World} {a : Option Addr} {len cap : Nat} {d : DataW H} {p : List MemPlace}
    (h : DataW.Trod enc Try.prog W 0 (fun _ => true) true 22 (.slice a len cap) d p) : ∃ os : List Op5, os.length = len ∧ Scr W a os ∧ (∀ o ∈ os, OpOk o) ∧ os.length ≤ 9223372036854775807 := by
  haveI : Inhabited Op5 := ⟨o0⟩
  have hc5 : Try.prog.cellsOf 31 = 5 := by kernel_rfl
  have hc3 : Try.prog.cellsOf 3 = 1 := by kernel_rfl
  have hc9 : Try.prog.cellsOf 9 = 1 := by kernel_rfl
  obtain ⟨fuel, hf⟩ := h
  rcases open_slice Try.underlying22 hf with ⟨hcs', hx⟩ | ⟨x, l, c, m, n, D, Pl, hcs', _, hl, hm, hmm, hx, hel⟩
  · simp [Value.cells] at hcs'
    obtain ⟨rfl, rfl, rfl⟩ := hcs'
    exact ⟨[], rfl, Or.inl rfl, by simp, by simp⟩
  · simp [Value.cells] at hcs'
    obtain ⟨rfl, rfl, rfl⟩ := hcs'
    simp only [if_true] at hmm
    have each : ∀ i, i < len → ∃ o : Op5, W.cell? ((x.add (i * 5)).add 0) = some (.int .i64 o.k) ∧ W.cell? ((x.add (i * 5)).add 1) = some (.string o.nm) ∧ W.cell? ((x.add (i * 5)).add 2) = some (.int .i64 o.a) ∧ W.cell? ((x.add (i * 5)).add 3) = some (.int .i64 o.b) ∧ W.cell? ((x.add (i * 5)).add 4) = some (.string o.s) ∧ OpOk o := by
      intro i hi
      obtain ⟨cs', e1, e2⟩ := hel i (by omega)
      rw [hc5] at e1
      obtain ⟨xs, n', _, _, hlen, hxs, hf'⟩ := DataW.trod_struct Try.underlying31 e2
      rw [hc5] at hlen
      match xs, hxs with
      | [y0, y1, y2, y3, y4], _ =>
        have k0 : DataW.trod enc Try.prog W 0 (fun _ => true) true n' 3 ((cs'.drop 0).take (Try.prog.cellsOf 3)) = some y0 := hf' 0 _ rfl
        have k1 : DataW.trod enc Try.prog W 0 (fun _ => true) true n' 9 ((cs'.drop 1).take (Try.prog.cellsOf 9)) = some y1 := hf' 1 _ rfl
        have k2 : DataW.trod enc Try.prog W 0 (fun _ => true) true n' 3 ((cs'.drop 2).take (Try.prog.cellsOf 3)) = some y2 := hf' 2 _ rfl
        have k3 : DataW.trod enc Try.prog W 0 (fun _ => true) true n' 3 ((cs'.drop 3).take (Try.prog.cellsOf 3)) = some y3 := hf' 3 _ rfl
        have k4 : DataW.trod enc Try.prog W 0 (fun _ => true) true n' 9 ((cs'.drop 4).take (Try.prog.cellsOf 9)) = some y4 := hf' 4 _ rfl
        rw [hc3] at k0 k2 k3
        rw [hc9] at k1 k4
        obtain ⟨z0, q0, r0, wf0⟩ := DataW.trod_int Try.underlying3 k0
        obtain ⟨s1, q1, r1, wf1⟩ := DataW.trod_string Try.underlying9 k1
        obtain ⟨z2, q2, r2, wf2⟩ := DataW.trod_int Try.underlying3 k2
        obtain ⟨z3, q3, r3, wf3⟩ := DataW.trod_int Try.underlying3 k3
        obtain ⟨s4, q4, r4, wf4⟩ := DataW.trod_string Try.underlying9 k4
        obtain ⟨u0, u1, u2, u3, u4, rfl⟩ := list5 hlen
        simp at q0 q1 q2 q3 q4
        have g := (World.cells?_some e1)
        refine ⟨⟨z0, s1, z2, z3, s4⟩, ?_, ?_, ?_, ?_, ?_, ⟨wf1, (bounds_i64 wf2).2⟩⟩
        · rw [g.2.2 0 (by omega)]; simp [q0]
        · rw [g.2.2 1 (by omega)]; simp [q1]
        · rw [g.2.2 2 (by omega)]; simp [q2]
        · rw [g.2.2 3 (by omega)]; simp [q3]
        · rw [g.2.2 4 (by omega)]; simp [q4]
    obtain ⟨f, hf⟩ := choose_lt each
    refine ⟨(List.range len).map f, by simp, ?_, ?_, ?_⟩
    · by_cases h0 : len = 0
      · left; subst h0; rfl
      · right
        obtain ⟨b, off, spot⟩ := x
        have h00 := (hf 0 (by omega)).1
        have hspot : spot = none := by simpa [Addr.add] using World.cell?_spot h00
        subst hspot
        have hlt := World.block_lt_of_cell? _ _ h00
        refine ⟨b, off, rfl, by simpa [Addr.add] using hlt, fun j hj => ?_⟩
        have hj' : j < len := by simpa using hj
        obtain ⟨k0, k1, k2, k3, k4, _⟩ := hf j hj'
        rw [Go.WideShapes.add_plain, Go.WideShapes.add_plain] at k0 k1 k2 k3 k4
        have eg : ((List.range len).map f).getD j o0 = f j := by
          rw [List.getD_eq_getElem?_getD, List.getElem?_map, List.getElem?_range hj']
          rfl
        rw [eg]
        exact ⟨by simpa using k0, k1, k2, k3, k4⟩
    · intro o ho
      simp only [List.mem_map, List.mem_range] at ho
      obtain ⟨i, hi, rfl⟩ := ho
      exact (hf i hi).2.2.2.2.2
    · simp
      unfold maxLen at hm
      omega
end Go.Proofs.Ytclelafnjfhdjaa
