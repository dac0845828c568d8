/- What a script that came in is. -/
import Derived.Test.YtldfbddccmnchaaEOpen
import Derived.Test.YtldfbddccmnchaaOpl
namespace Go.Proofs.Ytldfbddccmnchaa
open Go.ChangeShapes Go.WideShapes Go.ChangeAt Go.RowKit Go.Deep
variable {H : Type} {enc : TypeId × Value → H} {W : World}
theorem list4 {α : Type} : ∀ {l : List α}, l.length = 4 → ∃ a b c d, l = [a, b, c, d]
  | [a, b, c, d], _ => ⟨a, b, c, d, rfl⟩
theorem open_op {fuel : Nat} {cs : List Value} {x : DataW H × List MemPlace} (h : DataW.trod enc Try.prog W 0 (fun _ => true) true fuel 32 cs = some x) : ∃ o : Op4, cs = [.int .i64 o.k, .int .i64 o.e.k, .int .i64 o.e.a, .int .i64 o.n] := by
  obtain ⟨xs, n', _, _, hlen, hxs, hf'⟩ := DataW.trod_struct Try.underlying32 h
  rw [Try.cOp] at hlen
  match xs, hxs with
  | [y0, y1, y2], _ =>
    have k0 : DataW.trod enc Try.prog W 0 (fun _ => true) true n' 3 ((cs.drop 0).take (Try.prog.cellsOf 3)) = some y0 := hf' 0 _ rfl
    have k1 : DataW.trod enc Try.prog W 0 (fun _ => true) true n' 30 ((cs.drop 1).take (Try.prog.cellsOf 30)) = some y1 := hf' 1 _ rfl
    have k2 : DataW.trod enc Try.prog W 0 (fun _ => true) true n' 3 ((cs.drop 3).take (Try.prog.cellsOf 3)) = some y2 := hf' 2 _ rfl
    rw [Try.cI3] at k0 k2
    rw [Try.cEn] at k1
    obtain ⟨z0, q0, r0, wf0⟩ := DataW.trod_int Try.underlying3 k0
    obtain ⟨z2, q2, r2, wf2⟩ := DataW.trod_int Try.underlying3 k2
    obtain ⟨e1, q1, _⟩ := open_en k1
    obtain ⟨u0, u1, u2, u3, rfl⟩ := list4 hlen
    simp at q0 q1 q2
    exact ⟨⟨z0, e1, z2⟩, by simp [q0, q1.1, q1.2, q2]⟩
theorem open_ops {fuel : Nat} {cs : List Value} {x : DataW H × List MemPlace} (h : DataW.trod enc Try.prog W 0 (fun _ => true) true fuel 22 cs = some x) (hz : ∀ n ∈ x.1.weights Try.prog 22, n ≤ reachBytes) : ∃ (a : Option Addr) (cap : Nat) (l : List Op4), cs = [.slice a l.length cap] ∧ Ops W a l ∧ l.length ≤ 4398046511104 := by
  haveI : Inhabited Op4 := ⟨op0⟩
  rcases open_slice Try.underlying22 h with ⟨hcs', hx⟩ | ⟨x', l, c, m, n, D, Pl, hcs', _, hl', hm, hmm, hx, hel⟩
  · exact ⟨none, 0, [], by simpa using hcs', Or.inl rfl, by simp⟩
  · simp only [if_true] at hmm
    subst hx
    simp only [DataW.weights, Try.underlying22, List.length_map, List.length_range, Try.bOp, List.mem_cons, List.mem_append] at hz
    have hl0 := hz _ (Or.inl rfl)
    have each : ∀ i, i < l → ∃ o : Op4, W.cell? ((x'.add (i * 4)).add 0) = some (.int .i64 o.k) ∧ W.cell? ((x'.add (i * 4)).add 1) = some (.int .i64 o.e.k) ∧ W.cell? ((x'.add (i * 4)).add 2) = some (.int .i64 o.e.a) ∧ W.cell? ((x'.add (i * 4)).add 3) = some (.int .i64 o.n) := by
      intro i hi
      obtain ⟨cs', e1, e2⟩ := hel i (by omega)
      rw [Try.cOp] at e1
      obtain ⟨y, hy⟩ := open_op e2
      have g := (World.cells?_some e1)
      refine ⟨y, ?_, ?_, ?_, ?_⟩
      · rw [g.2.2 0 (by omega), hy]; rfl
      · rw [g.2.2 1 (by omega), hy]; rfl
      · rw [g.2.2 2 (by omega), hy]; rfl
      · rw [g.2.2 3 (by omega), hy]; rfl
    obtain ⟨f, hf⟩ := choose_lt each
    refine ⟨some x', c, (List.range l).map f, by simpa using hcs', ?_, ?_⟩
    · by_cases h0 : l = 0
      · left; subst h0; rfl
      · right
        obtain ⟨b, off, spot⟩ := x'
        have h00 := (hf 0 (by omega)).1
        have hspot : spot = none := by simpa [Addr.add] using World.cell?_spot h00
        subst hspot
        have hlt := World.block_lt_of_cell? _ _ h00
        refine ⟨b, off, rfl, by simpa [Addr.add] using hlt, fun j hj => ?_⟩
        have hj' : j < l := by simpa using hj
        obtain ⟨k0, k1, k2, k3⟩ := hf j hj'
        rw [Go.WideShapes.add_plain, Go.WideShapes.add_plain] at k0 k1 k2 k3
        have eg : ((List.range l).map f).getD j op0 = f j := by
          rw [List.getD_eq_getElem?_getD, List.getElem?_map, List.getElem?_range hj']
          rfl
        rw [eg]
        exact ⟨by simpa using k0, k1, k2, k3⟩
    · simp only [List.length_map, List.length_range]
      unfold reachBytes at hl0
      omega
end Go.Proofs.Ytldfbddccmnchaa
