/- What came in: heads, where they lie. -/
import Derived.Test.YtolobmhbmajolaaPeo
import Derived.Test.YtolobmhbmajolaaPf5
namespace Go.Proofs.Ytolobmhbmajolaa
open Go.ChangeShapes Go.WideShapes Go.ChangeAt Go.RowKit Go.Deep
variable {H : Type} {enc : TypeId × Value → H} {W : World}
theorem Try.cHd : Try.prog.cellsOf 29 = 8 := by kernel_rfl
theorem Try.bHd : Try.prog.bytesOf 29 = 64 := by kernel_rfl
theorem Try.cI64 : Try.prog.cellsOf 2 = 1 := by kernel_rfl
theorem Try.cInt : Try.prog.cellsOf 3 = 1 := by kernel_rfl
theorem Try.cBool : Try.prog.cellsOf 4 = 1 := by kernel_rfl
theorem Try.cI32 : Try.prog.cellsOf 21 = 1 := by kernel_rfl
theorem list8 {α : Type} : ∀ {l : List α}, l.length = 8 → ∃ a b c d e f g h, l = [a, b, c, d, e, f, g, h]
  | [a, b, c, d, e, f, g, h], _ => ⟨a, b, c, d, e, f, g, h, rfl⟩
theorem open_hd {fuel : Nat} {cs : List Value} {x : DataW H × List MemPlace} (h : DataW.trod enc Try.prog W 0 (fun _ => true) true fuel 29 cs = some x) : ∃ o : Hd, cs = hv o ∧ HdOk o := by
  obtain ⟨xs, n', _, _, hlen, hxs, hf'⟩ := DataW.trod_struct Try.underlying29 h
  rw [Try.cHd] at hlen
  match xs, hxs with
  | [y0, y1, y2, y3, y4, y5, y6, y7], _ =>
    have k0 : DataW.trod enc Try.prog W 0 (fun _ => true) true n' 2 ((cs.drop 0).take (Try.prog.cellsOf 2)) = some y0 := hf' 0 _ rfl
    have k1 : DataW.trod enc Try.prog W 0 (fun _ => true) true n' 3 ((cs.drop 1).take (Try.prog.cellsOf 3)) = some y1 := hf' 1 _ rfl
    have k2 : DataW.trod enc Try.prog W 0 (fun _ => true) true n' 4 ((cs.drop 2).take (Try.prog.cellsOf 4)) = some y2 := hf' 2 _ rfl
    have k3 : DataW.trod enc Try.prog W 0 (fun _ => true) true n' 3 ((cs.drop 3).take (Try.prog.cellsOf 3)) = some y3 := hf' 3 _ rfl
    have k4 : DataW.trod enc Try.prog W 0 (fun _ => true) true n' 2 ((cs.drop 4).take (Try.prog.cellsOf 2)) = some y4 := hf' 4 _ rfl
    have k5 : DataW.trod enc Try.prog W 0 (fun _ => true) true n' 2 ((cs.drop 5).take (Try.prog.cellsOf 2)) = some y5 := hf' 5 _ rfl
    have k6 : DataW.trod enc Try.prog W 0 (fun _ => true) true n' 2 ((cs.drop 6).take (Try.prog.cellsOf 2)) = some y6 := hf' 6 _ rfl
    have k7 : DataW.trod enc Try.prog W 0 (fun _ => true) true n' 21 ((cs.drop 7).take (Try.prog.cellsOf 21)) = some y7 := hf' 7 _ rfl
    rw [Try.cI64] at k0 k4 k5 k6
    rw [Try.cInt] at k1 k3
    rw [Try.cBool] at k2
    rw [Try.cI32] at k7
    obtain ⟨z0, q0, r0, wf0⟩ := DataW.trod_int Try.underlying2 k0
    obtain ⟨z1, q1, r1, wf1⟩ := DataW.trod_int Try.underlying3 k1
    obtain ⟨z2, q2, r2⟩ := DataW.trod_bool Try.underlying4 k2
    obtain ⟨z3, q3, r3, wf3⟩ := DataW.trod_int Try.underlying3 k3
    obtain ⟨z4, q4, r4, wf4⟩ := DataW.trod_int Try.underlying2 k4
    obtain ⟨z5, q5, r5, wf5⟩ := DataW.trod_int Try.underlying2 k5
    obtain ⟨z6, q6, r6, wf6⟩ := DataW.trod_int Try.underlying2 k6
    obtain ⟨z7, q7, r7, wf7⟩ := DataW.trod_int Try.underlying21 k7
    obtain ⟨u0, u1, u2, u3, u4, u5, u6, u7, rfl⟩ := list8 hlen
    simp at q0 q1 q2 q3 q4 q5 q6 q7
    refine ⟨⟨z0, z1, z2, z3, z4, z5, z6, z7⟩, by simp [hv, q0, q1, q2, q3, q4, q5, q6, q7], ?_⟩
    have a0 := bounds_i64 wf0
    have a3 := bounds_i64 wf3
    have a6 := bounds_i64 wf6
    have a7 := bounds_i32 wf7
    exact ⟨a6.1, by show z6 < _; omega, a7.1, by show z7 < _; omega, a3.1, by show z3 < _; omega, a0.1, by show z0 < _; omega⟩
theorem open_heads {fuel : Nat} {cs : List Value} {x : DataW H × List MemPlace} (h : DataW.trod enc Try.prog W 0 (fun _ => true) true fuel 35 cs = some x) (hz : ∀ n ∈ x.1.weights Try.prog 35, n ≤ reachBytes) : ∃ (a : Option Addr) (cap : Nat) (l : List Hd), cs = [.slice a l.length cap] ∧ Hds W a l ∧ l.length * 64 ≤ reachBytes ∧ ∀ o ∈ l, HdOk o := by
  haveI : Inhabited Hd := ⟨hd0⟩
  rcases open_slice Try.underlying35 h with ⟨hcs', hx⟩ | ⟨x', l, c, m, n, D, Pl, hcs', _, hl', hm, hmm, hx, hel⟩
  · exact ⟨none, 0, [], by simpa using hcs', Or.inl rfl, by simp, by simp⟩
  · simp only [if_true] at hmm
    subst hx
    simp only [DataW.weights, Try.underlying35, List.length_map, List.length_range, Try.bHd, List.mem_cons, List.mem_append] at hz
    have hl0 := hz _ (Or.inl rfl)
    have each : ∀ i, i < l → ∃ o : Hd, (∀ k, k < 8 → W.cell? ((x'.add (i * 8)).add k) = (hv o)[k]?) ∧ HdOk o := by
      intro i hi
      obtain ⟨cs', e1, e2⟩ := hel i (by omega)
      rw [Try.cHd] at e1
      obtain ⟨o, rfl, ho⟩ := open_hd e2
      have g := World.cells?_some e1
      exact ⟨o, fun k hk => g.2.2 k hk, ho⟩
    obtain ⟨f, hf⟩ := choose_lt each
    refine ⟨some x', c, (List.range l).map f, by simpa using hcs', ?_, ?_, ?_⟩
    · by_cases h0 : l = 0
      · left; subst h0; rfl
      · right
        obtain ⟨b, off, spot⟩ := x'
        have h00 : W.cell? (((⟨b, off, spot⟩ : Addr).add (0 * 8)).add 0) = some (.int .i64 (f 0).b) := (hf 0 (by omega)).1 0 (by omega)
        have hspot : spot = none := by simpa [Addr.add] using World.cell?_spot h00
        subst hspot
        have hlt := World.block_lt_of_cell? _ _ h00
        refine ⟨b, off, rfl, by simpa [Addr.add] using hlt, fun j hj => ?_⟩
        have hj' : j < l := by simpa using hj
        have k := (hf j hj').1
        have eg : ((List.range l).map f).getD j hd0 = f j := by
          rw [List.getD_eq_getElem?_getD, List.getElem?_map, List.getElem?_range hj']
          rfl
        rw [eg]
        have kk : ∀ i, i < 8 → W.cell? ⟨b, off + j * 8 + i, none⟩ = (hv (f j))[i]? := fun i hi => by
          have := k i hi
          rw [Go.WideShapes.add_plain, Go.WideShapes.add_plain] at this
          exact this
        exact ⟨kk 0 (by omega), kk 1 (by omega), kk 2 (by omega), kk 3 (by omega), kk 4 (by omega), kk 5 (by omega), kk 6 (by omega), kk 7 (by omega)⟩
    · simp only [List.length_map, List.length_range]
      unfold reachBytes at *
      omega
    · intro o ho
      simp only [List.mem_map, List.mem_range] at ho
      obtain ⟨i, hi, rfl⟩ := ho
      exact (hf i hi).2
end Go.Proofs.Ytolobmhbmajolaa
