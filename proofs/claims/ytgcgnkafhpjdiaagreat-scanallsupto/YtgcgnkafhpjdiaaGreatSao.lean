/- What came in: a question (a text and three numbers). -/
import Derived.Test.YtgcgnkafhpjdiaaGreatRows
import Derived.ProofKit
import Derived.OpenShut
import Derived.ShutString
import Derived.ChangeOld
import Derived.ChangeSame
import Derived.SizedLaws
import Derived.Deep.Slices
import Derived.Deep.Strs
namespace Go.Proofs.YtgcgnkafhpjdiaaGreat
open Go.ChangeShapes Go.WideShapes Go.ChangeAt Go.RowKit Go.Deep
theorem Tryz.cAsk : Tryz.prog.cellsOf 23 = 4 := by kernel_rfl
theorem Tryz.cAi : Tryz.prog.cellsOf 3 = 1 := by kernel_rfl
theorem Tryz.cAi64 : Tryz.prog.cellsOf 2 = 1 := by kernel_rfl
theorem Tryz.cAs : Tryz.prog.cellsOf 9 = 1 := by kernel_rfl
set_option maxRecDepth 20000 in
theorem open_ask {H : Type} {enc : TypeId × Value → H} {W : World} {fuel : Nat} {cs : List Value} {x : DataW H × List MemPlace} (h : DataW.trod enc Tryz.prog W 0 (fun _ => true) true fuel 23 cs = some x) :
    ∃ (s : ByteArray) (base frame plain : Int), cs = [.string s, .int .i64 base, .int .i64 frame, .int .i64 plain] ∧ s.size ≤ Rows.uptoBulk x.1 ∧ (Lit.int .i64 base).wf = true := by
  obtain ⟨xs, n, _, rfl, hlen, hxs, hf⟩ := DataW.trod_struct Tryz.underlying23 h
  rw [Tryz.cAsk] at hlen
  match xs, hxs with
  | [y0, y1, y2, y3], _ =>
    have k0 : DataW.trod enc Tryz.prog W 0 (fun _ => true) true n 9 ((cs.drop 0).take (Tryz.prog.cellsOf 9)) = some y0 := hf 0 _ rfl
    have k1 : DataW.trod enc Tryz.prog W 0 (fun _ => true) true n 2 ((cs.drop 1).take (Tryz.prog.cellsOf 2)) = some y1 := hf 1 _ rfl
    have k2 : DataW.trod enc Tryz.prog W 0 (fun _ => true) true n 3 ((cs.drop 2).take (Tryz.prog.cellsOf 3)) = some y2 := hf 2 _ rfl
    have k3 : DataW.trod enc Tryz.prog W 0 (fun _ => true) true n 3 ((cs.drop 3).take (Tryz.prog.cellsOf 3)) = some y3 := hf 3 _ rfl
    rw [Tryz.cAs] at k0
    rw [Tryz.cAi64] at k1
    rw [Tryz.cAi] at k2 k3
    obtain ⟨s, q0, r0, _⟩ := DataW.trod_string Tryz.underlying9 k0
    obtain ⟨base, q1, r1, w1⟩ := DataW.trod_int Tryz.underlying2 k1
    obtain ⟨frame, q2, r2, w2⟩ := DataW.trod_int Tryz.underlying3 k2
    obtain ⟨plain, q3, r3, w3⟩ := DataW.trod_int Tryz.underlying3 k3
    match cs, hlen with
    | [c0, c1, c2, c3], _ =>
      simp at q0 q1 q2 q3
      subst q0 q1 q2 q3
      refine ⟨s, base, frame, plain, rfl, ?_, w1⟩
      rw [r0]
      simp [Rows.uptoBulk, Rows.uptoBulkAll]
      omega
end Go.Proofs.YtgcgnkafhpjdiaaGreat
