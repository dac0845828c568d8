/- What came in: limits (two numbers). -/
import Derived.Test.YtihokphamgkkcaaGreatRows
import Derived.ProofKit
import Derived.OpenShut
import Derived.ShutString
import Derived.ChangeOld
import Derived.ChangeSame
import Derived.SizedLaws
import Derived.Deep.Slices
import Derived.Deep.Strs
namespace Go.Proofs.YtihokphamgkkcaaGreat
open Go.ChangeShapes Go.WideShapes Go.ChangeAt Go.RowKit Go.Deep
theorem Tryz.cLim : Tryz.prog.cellsOf 33 = 2 := by kernel_rfl
theorem Tryz.cI3 : Tryz.prog.cellsOf 3 = 1 := by kernel_rfl
theorem open_lim {H : Type} {enc : TypeId × Value → H} {W : World} {fuel : Nat} {cs : List Value} {x : DataW H × List MemPlace} (h : DataW.trod enc Tryz.prog W 0 (fun _ => true) true fuel 33 cs = some x) : ∃ fr pl : Int, cs = [.int .i64 fr, .int .i64 pl] := by
  obtain ⟨y0, y1, n, rfl, hlen, k0, k1⟩ := trod_struct2 Tryz.underlying33 h
  rw [Tryz.cLim] at hlen
  simp only [Tryz.cI3] at k0 k1
  obtain ⟨b, q0, r0, w0⟩ := DataW.trod_int Tryz.underlying3 k0
  obtain ⟨d, q1, r1, w1⟩ := DataW.trod_int Tryz.underlying3 k1
  match cs, hlen with
  | [u, v], _ =>
    simp at q0 q1
    subst q0 q1
    exact ⟨b, d, rfl⟩
end Go.Proofs.YtihokphamgkkcaaGreat
