/- Texts of the proof, put together: Pop. -/
import Derived.Test.YtgdaaohlongmlaaGreatMPM
import Derived.ProofKit
import Derived.OpenShut
import Derived.ShutString
import Derived.ChangeOld
import Derived.ChangeSame
import Derived.SizedLaws
namespace Go.Proofs.YtgdaaohlongmlaaGreat
open Go.ChangeShapes Go.WideShapes Go.ChangeAt Go.RowKit
theorem Tryz.cReq : Tryz.prog.cellsOf 24 = 5 := by kernel_rfl
theorem Tryz.cRep : Tryz.prog.cellsOf 27 = 6 := by kernel_rfl
theorem Tryz.cAsk : Tryz.prog.cellsOf 22 = 1 := by kernel_rfl
theorem Tryz.cErr : Tryz.prog.cellsOf 25 = 1 := by kernel_rfl
theorem Tryz.cStr : Tryz.prog.cellsOf 9 = 1 := by kernel_rfl
theorem Tryz.cBool : Tryz.prog.cellsOf 4 = 1 := by kernel_rfl
theorem Tryz.cI64 : Tryz.prog.cellsOf 2 = 1 := by kernel_rfl
theorem Tryz.cInt : Tryz.prog.cellsOf 3 = 1 := by kernel_rfl
variable {H : Type} {enc : TypeId × Value → H} {W : World}
set_option maxRecDepth 20000 in
theorem open_req {fuel : Nat} {cs : List Value} {x : DataW H × List MemPlace} (h : DataW.trod enc Tryz.prog W 0 (fun _ => true) true fuel 24 cs = some x) : ∃ (k : Int) (d : ByteArray) (o t m : Int), cs = [.int .i64 k, .string d, .int .i64 o, .int .i64 t, .int .i64 m] ∧ I64 o ∧ I64 t ∧ I64 m ∧ d.size ≤ maxLen := by
  obtain ⟨xs, n, _, rfl, hlen, hxs, hf⟩ := DataW.trod_struct Tryz.underlying24 h
  rw [Tryz.cReq] at hlen
  match xs, hxs with
  | [y0, y1, y2, y3, y4], _ =>
    have k0 : DataW.trod enc Tryz.prog W 0 (fun _ => true) true n 22 ((cs.drop 0).take (Tryz.prog.cellsOf 22)) = some y0 := hf 0 _ rfl
    have k1 : DataW.trod enc Tryz.prog W 0 (fun _ => true) true n 9 ((cs.drop 1).take (Tryz.prog.cellsOf 9)) = some y1 := hf 1 _ rfl
    have k2 : DataW.trod enc Tryz.prog W 0 (fun _ => true) true n 2 ((cs.drop 2).take (Tryz.prog.cellsOf 2)) = some y2 := hf 2 _ rfl
    have k3 : DataW.trod enc Tryz.prog W 0 (fun _ => true) true n 2 ((cs.drop 3).take (Tryz.prog.cellsOf 2)) = some y3 := hf 3 _ rfl
    have k4 : DataW.trod enc Tryz.prog W 0 (fun _ => true) true n 3 ((cs.drop 4).take (Tryz.prog.cellsOf 3)) = some y4 := hf 4 _ rfl
    rw [Tryz.cAsk] at k0
    rw [Tryz.cStr] at k1
    rw [Tryz.cI64] at k2 k3
    rw [Tryz.cInt] at k4
    obtain ⟨k, q0, r0, w0⟩ := DataW.trod_int Tryz.underlying22 k0
    obtain ⟨d, q1, r1, w1⟩ := DataW.trod_string Tryz.underlying9 k1
    obtain ⟨o, q2, r2, w2⟩ := DataW.trod_int Tryz.underlying2 k2
    obtain ⟨t, q3, r3, w3⟩ := DataW.trod_int Tryz.underlying2 k3
    obtain ⟨m, q4, r4, w4⟩ := DataW.trod_int Tryz.underlying3 k4
    match cs, hlen with
    | [c0, c1, c2, c3, c4], _ =>
      simp at q0 q1 q2 q3 q4
      subst q0 q1 q2 q3 q4
      exact ⟨k, d, o, t, m, rfl, bounds_i64 w2, bounds_i64 w3, bounds_i64 w4, w1⟩
set_option maxRecDepth 20000 in
theorem open_rep {fuel : Nat} {cs : List Value} {x : DataW H × List MemPlace} (h : DataW.trod enc Tryz.prog W 0 (fun _ => true) true fuel 27 cs = some x) : ∃ (k r : Int) (b : Bool) (o n : Int) (d : ByteArray), cs = [.int .i64 k, .int .i64 r, .bool b, .int .i64 o, .int .i64 n, .string d] ∧ I64 o ∧ I64 n ∧ d.size ≤ maxLen := by
  obtain ⟨xs, f, _, rfl, hlen, hxs, hf⟩ := DataW.trod_struct Tryz.underlying27 h
  rw [Tryz.cRep] at hlen
  match xs, hxs with
  | [y0, y1, y2, y3, y4, y5], _ =>
    have k0 : DataW.trod enc Tryz.prog W 0 (fun _ => true) true f 22 ((cs.drop 0).take (Tryz.prog.cellsOf 22)) = some y0 := hf 0 _ rfl
    have k1 : DataW.trod enc Tryz.prog W 0 (fun _ => true) true f 25 ((cs.drop 1).take (Tryz.prog.cellsOf 25)) = some y1 := hf 1 _ rfl
    have k2 : DataW.trod enc Tryz.prog W 0 (fun _ => true) true f 4 ((cs.drop 2).take (Tryz.prog.cellsOf 4)) = some y2 := hf 2 _ rfl
    have k3 : DataW.trod enc Tryz.prog W 0 (fun _ => true) true f 2 ((cs.drop 3).take (Tryz.prog.cellsOf 2)) = some y3 := hf 3 _ rfl
    have k4 : DataW.trod enc Tryz.prog W 0 (fun _ => true) true f 2 ((cs.drop 4).take (Tryz.prog.cellsOf 2)) = some y4 := hf 4 _ rfl
    have k5 : DataW.trod enc Tryz.prog W 0 (fun _ => true) true f 9 ((cs.drop 5).take (Tryz.prog.cellsOf 9)) = some y5 := hf 5 _ rfl
    rw [Tryz.cAsk] at k0
    rw [Tryz.cErr] at k1
    rw [Tryz.cBool] at k2
    rw [Tryz.cI64] at k3 k4
    rw [Tryz.cStr] at k5
    obtain ⟨k, q0, r0, w0⟩ := DataW.trod_int Tryz.underlying22 k0
    obtain ⟨r, q1, r1, w1⟩ := DataW.trod_int Tryz.underlying25 k1
    obtain ⟨b, q2, r2⟩ := DataW.trod_bool Tryz.underlying4 k2
    obtain ⟨o, q3, r3, w3⟩ := DataW.trod_int Tryz.underlying2 k3
    obtain ⟨n, q4, r4, w4⟩ := DataW.trod_int Tryz.underlying2 k4
    obtain ⟨d, q5, r5, w5⟩ := DataW.trod_string Tryz.underlying9 k5
    match cs, hlen with
    | [c0, c1, c2, c3, c4, c5], _ =>
      simp at q0 q1 q2 q3 q4 q5
      subst q0 q1 q2 q3 q4 q5
      exact ⟨k, r, b, o, n, d, rfl, bounds_i64 w3, bounds_i64 w4, w5⟩
end Go.Proofs.YtgdaaohlongmlaaGreat
