/- Texts of the proof, put together: Sao, Sio. -/
import Derived.Test.YtgcgnkafhpjdiaaGreatRows
import Derived.ProofKit
import Derived.OpenShut
import Derived.ShutString
import Derived.ChangeOld
import Derived.ChangeSame
import Derived.SizedLaws
import Derived.Deep.Slices
import Derived.Deep.Strs
import Derived.Test.YtgcgnkafhpjdiaaGreatMXH
namespace Go.Proofs.YtgcgnkafhpjdiaaGreat
open Go.ChangeShapes Go.WideShapes Go.ChangeAt Go.RowKit Go.Deep
theorem Tryz.cAsk : Tryz.prog.cellsOf 23 = 4 := by kernel_rfl
theorem Tryz.cAi : Tryz.prog.cellsOf 3 = 1 := by kernel_rfl
theorem Tryz.cAi64 : Tryz.prog.cellsOf 2 = 1 := by kernel_rfl
theorem Tryz.cAs : Tryz.prog.cellsOf 9 = 1 := by kernel_rfl
set_option maxRecDepth 20000 in
theorem open_ask {H : Type} {enc : TypeId × Value → H} {W : World} {fuel : Nat} {cs : List Value} {x : DataW H × List MemPlace} (h : DataW.trod enc Tryz.prog W 0 (fun _ => true) true fuel 23 cs = some x) :
    ∃ (s : ByteArray) (base frame plain : Int), cs = [.string s, .int .i64 base, .int .i64 frame, .int .i64 plain] ∧ s.size ≤ Rows.uptoBulk x.1 ∧ (Lit.int .i64 base).wf = true := by
  obtain ⟨xs, n, _, rfl, hlen, hxs, hf⟩ := DataW.trod_struct Tryz.underlying23 h
  rw [Tryz.cAsk] at hlen
  match xs, hxs with
  | [y0, y1, y2, y3], _ =>
    have k0 : DataW.trod enc Tryz.prog W 0 (fun _ => true) true n 9 ((cs.drop 0).take (Tryz.prog.cellsOf 9)) = some y0 := hf 0 _ rfl
    have k1 : DataW.trod enc Tryz.prog W 0 (fun _ => true) true n 2 ((cs.drop 1).take (Tryz.prog.cellsOf 2)) = some y1 := hf 1 _ rfl
    have k2 : DataW.trod enc Tryz.prog W 0 (fun _ => true) true n 3 ((cs.drop 2).take (Tryz.prog.cellsOf 3)) = some y2 := hf 2 _ rfl
    have k3 : DataW.trod enc Tryz.prog W 0 (fun _ => true) true n 3 ((cs.drop 3).take (Tryz.prog.cellsOf 3)) = some y3 := hf 3 _ rfl
    rw [Tryz.cAs] at k0
    rw [Tryz.cAi64] at k1
    rw [Tryz.cAi] at k2 k3
    obtain ⟨s, q0, r0, _⟩ := DataW.trod_string Tryz.underlying9 k0
    obtain ⟨base, q1, r1, w1⟩ := DataW.trod_int Tryz.underlying2 k1
    obtain ⟨frame, q2, r2, w2⟩ := DataW.trod_int Tryz.underlying3 k2
    obtain ⟨plain, q3, r3, w3⟩ := DataW.trod_int Tryz.underlying3 k3
    match cs, hlen with
    | [c0, c1, c2, c3], _ =>
      simp at q0 q1 q2 q3
      subst q0 q1 q2 q3
      refine ⟨s, base, frame, plain, rfl, ?_, w1⟩
      rw [r0]
      simp [Rows.uptoBulk, Rows.uptoBulkAll]
      omega
end Go.Proofs.YtgcgnkafhpjdiaaGreat
namespace Go.Proofs.YtgcgnkafhpjdiaaGreat
open Go.ChangeShapes Go.WideShapes Go.ChangeAt Go.RowKit Go.Deep
variable {H : Type} {enc : TypeId × Value → H} {W : World}
theorem sum_leI {H : Type} (D : Nat → DataW H) : ∀ (l : List Nat), (∀ i ∈ l, 1 ≤ Rows.uptoBulk (D i)) → l.length ≤ Rows.uptoBulkAll (l.map D)
  | [], _ => by simp
  | i :: l, h => by
    have ih := sum_leI D l (fun j hj => h j (List.mem_cons_of_mem _ hj))
    have h0 := h i (List.mem_cons_self ..)
    simp only [List.map_cons, Rows.uptoBulkAll, List.length_cons]
    omega
set_option maxRecDepth 20000 in
theorem open_i64s {fuel : Nat} {cs : List Value} {x : DataW H × List MemPlace} (h : DataW.trod enc Tryz.prog W 0 (fun _ => true) true fuel 57 cs = some x) : ∃ (a : Option Addr) (cap : Nat) (l : List Int), cs = [.slice a l.length cap] ∧ I64s W a l ∧ l.length ≤ Rows.uptoBulk x.1 := by
  rcases open_slice Tryz.underlying57 h with ⟨hcs', hx⟩ | ⟨x', l, c, m, n, D, Pl, hcs', _, hl', hm, hmm, hx, hel⟩
  · exact ⟨none, 0, [], by simpa using hcs', Or.inl rfl, by simp⟩
  · simp only [if_true] at hmm
    subst hx
    have each : ∀ i, i < l → ∃ o : Int, W.cell? (x'.add i) = some (.int .i64 o) ∧ 1 ≤ Rows.uptoBulk (D i) := by
      intro i hi
      obtain ⟨cs', e1, e2⟩ := hel i (by omega)
      rw [Tryz.cAi64] at e1
      obtain ⟨d, q1, r1, w1⟩ := DataW.trod_int Tryz.underlying2 e2
      have g := (World.cells?_some e1)
      refine ⟨d, ?_, ?_⟩
      · have := g.2.2 0 (by omega)
        rw [q1] at this
        simpa [Nat.mul_one, Addr.add] using this
      · injection r1 with r2 r3
        rw [r2]
        simp [Rows.uptoBulk]
    obtain ⟨f, hf⟩ := choose_lt each
    refine ⟨some x', c, (List.range l).map f, by simpa using hcs', ?_, ?_⟩
    · by_cases h0 : l = 0
      · left; subst h0; rfl
      · right
        obtain ⟨b, off, spot⟩ := x'
        have h00 := (hf 0 (by omega)).1
        have hspot : spot = none := by simpa [Addr.add] using World.cell?_spot h00
        subst hspot
        have hlt := World.block_lt_of_cell? _ _ h00
        refine ⟨b, off, rfl, by simpa [Addr.add] using hlt, fun j hj => ?_⟩
        have hj' : j < l := by simpa using hj
        have k0 := (hf j hj').1
        rw [Go.WideShapes.add_plain] at k0
        have eg : ((List.range l).map f).getD j 0 = f j := by
          rw [List.getD_eq_getElem?_getD, List.getElem?_map, List.getElem?_range hj']
          rfl
        rw [eg]
        exact k0
    · have := sum_leI D (List.range l) (fun i hi => (hf i (by simpa using hi)).2)
      simp only [Rows.uptoBulk, List.length_map, List.length_range] at this ⊢
      subst hmm
      omega
end Go.Proofs.YtgcgnkafhpjdiaaGreat
