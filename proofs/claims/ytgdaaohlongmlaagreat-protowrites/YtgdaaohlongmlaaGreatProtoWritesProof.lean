/- Of any two requests and two replies: their forms, which of them can't be written and why, and which are the same, are the document's. No condition. -/
import Derived.Test.YtgdaaohlongmlaaGreatZZW
import Derived.Test.YtgdaaohlongmlaaGreatZPO
import Derived.ProofKit
import Derived.OpenShut
import Derived.ShutString
import Derived.ChangeOld
import Derived.SizedLaws
namespace Go.Proofs.YtgdaaohlongmlaaGreat
open Go.ChangeShapes Go.WideShapes Go.ChangeAt Go.RowKit
open Go.ChangeMaps (open_string shut_string)
theorem ownK : ownKnob Tryz.prog.godebug = none := by kernel_rfl
theorem laidOut : laidOutB Tryz.prog = true := by kernel_rfl
set_option maxRecDepth 100000 in
theorem protoWrites_lifted (os : Os) (started : os.Started) (H : Type) (enc : TypeId × Value → H) :
    ReturnsInHanded {} Tryz.checked os 3 .any (Rows.protoWritesSpec.pre6 enc Tryz.prog Tryz.f3 Rows.protoWritesRow.domain false) (Rows.protoWritesSpec.post enc Tryz.prog Tryz.f3 false true false false) := by
  refine returnsInHanded_of_change_sized (C := Tryz.checked) ownK started (by kernel_rfl) Tryz.func3
    (ChangeSpec.witness6 (enc := enc) (C := Tryz.checked) false ⟨#[], #[.agg #[.int .i64 0, .string ByteArray.empty, .int .i64 0, .int .i64 0, .int .i64 0], .agg #[.int .i64 0, .string ByteArray.empty, .int .i64 0, .int .i64 0, .int .i64 0], .agg #[.int .i64 0, .int .i64 0, .bool false, .int .i64 0, .int .i64 0, .string ByteArray.empty], .agg #[.int .i64 0, .int .i64 0, .bool false, .int .i64 0, .int .i64 0, .string ByteArray.empty]], []⟩ 8 (by kernel_rfl) (by kernel_rfl) (by kernel_rfl) (by kernel_rfl)) ?_
  intro W base args ds gs before hval0 hW _ hsz0 _
  have hval : ∀ (j : Nat) t v, Tryz.f3.params[j]? = some t → args[j]? = some v → Value.okWide Tryz.prog W .any base t v := hval0
  have hW' := hW
  obtain ⟨p, q, hA0, hV, rfl, hfz, hnd⟩ := hW
  have hA : DataW.TrodAll enc Tryz.prog W 0 (fun _ => true) true Tryz.f3.params.toList args.toList ds p := hA0
  have hsz : (DataW.weightsEach Tryz.prog (Tryz.f3.params.toList ++ Rows.protoWritesSpec.plain.varTypes Tryz.prog) (ds ++ gs)).all (· ≤ reachBytes) = true := hsz0
  rw [Tryz.params3] at hA hval hsz
  obtain ⟨v0, vs0, d0, ds0, p0, q0, hargs, rfl, rfl, h0, r0⟩ := trodAll_cons hA
  obtain ⟨v1, vs1, d1, ds1, p1, q1, rfl, rfl, rfl, h1, r1⟩ := trodAll_cons r0
  obtain ⟨v2, vs2, d2, ds2, p2, q2, rfl, rfl, rfl, h2, r2⟩ := trodAll_cons r1
  obtain ⟨v3, vs3, d3, ds3, p3, q3, rfl, rfl, rfl, h3, r3⟩ := trodAll_cons r2
  obtain ⟨rfl, rfl, rfl⟩ := trodAll_nil r3
  obtain rfl : args = #[v0, v1, v2, v3] := by cases args; simp_all
  obtain ⟨rfl, rfl⟩ := trodVars_none hV
  obtain ⟨cs0, rfl, hcz0⟩ := okWide_struct Tryz.underlying24 (hval 0 24 v0 rfl rfl)
  have kk0 := h0
  have lt0 : ∀ x ∈ p0, x.block < W.heap.size := by obtain ⟨mm, hm⟩ := kk0; exact DataW.trod_lt mm _ _ _ hm
  obtain ⟨fu0, hf0⟩ := h0
  obtain ⟨k0, e0, o0, t0, m0, hcs0, I0, J0, K0, _⟩ := open_req hf0
  have hcs0' : cs0 = #[.int .i64 k0, .string e0, .int .i64 o0, .int .i64 t0, .int .i64 m0] := by
    apply Array.ext'
    simpa [Value.cells] using hcs0
  subst hcs0'
  obtain ⟨cs1, rfl, hcz1⟩ := okWide_struct Tryz.underlying24 (hval 1 24 v1 rfl rfl)
  have kk1 := h1
  have lt1 : ∀ x ∈ p1, x.block < W.heap.size := by obtain ⟨mm, hm⟩ := kk1; exact DataW.trod_lt mm _ _ _ hm
  obtain ⟨fu1, hf1⟩ := h1
  obtain ⟨k1, e1, o1, t1, m1, hcs1, I1, J1, K1, _⟩ := open_req hf1
  have hcs1' : cs1 = #[.int .i64 k1, .string e1, .int .i64 o1, .int .i64 t1, .int .i64 m1] := by
    apply Array.ext'
    simpa [Value.cells] using hcs1
  subst hcs1'
  obtain ⟨cs2, rfl, hcz2⟩ := okWide_struct Tryz.underlying27 (hval 2 27 v2 rfl rfl)
  have kk2 := h2
  have lt2 : ∀ x ∈ p2, x.block < W.heap.size := by obtain ⟨mm, hm⟩ := kk2; exact DataW.trod_lt mm _ _ _ hm
  obtain ⟨fu2, hf2⟩ := h2
  obtain ⟨k2, e2, t2, o2, n2, m2, hcs2, I2, J2, _⟩ := open_rep hf2
  have hcs2' : cs2 = #[.int .i64 k2, .int .i64 e2, .bool t2, .int .i64 o2, .int .i64 n2, .string m2] := by
    apply Array.ext'
    simpa [Value.cells] using hcs2
  subst hcs2'
  obtain ⟨cs3, rfl, hcz3⟩ := okWide_struct Tryz.underlying27 (hval 3 27 v3 rfl rfl)
  have kk3 := h3
  have lt3 : ∀ x ∈ p3, x.block < W.heap.size := by obtain ⟨mm, hm⟩ := kk3; exact DataW.trod_lt mm _ _ _ hm
  obtain ⟨fu3, hf3⟩ := h3
  obtain ⟨k3, e3, t3, o3, n3, m3, hcs3, I3, J3, _⟩ := open_rep hf3
  have hcs3' : cs3 = #[.int .i64 k3, .int .i64 e3, .bool t3, .int .i64 o3, .int .i64 n3, .string m3] := by
    apply Array.ext'
    simpa [Value.cells] using hcs3
  subst hcs3'
  clear hA0 hval0
  refine (writes_walk k0 e0 o0 t0 m0 k1 e1 o1 t1 m1 k2 e2 t2 o2 n2 m2 k3 e3 t3 o3 n3 m3 W).mono fun e W' ⟨he, bel⟩ => ?_
  subst he
  exact ⟨_, rfl, _, _, _, [], _, [], hW', trodAll_mk1 (shut_bool Tryz.underlying4 _), (trodAll_cons_mk (Below.trod laidOut (by kernel_rfl) (of_decide_eq_true (by kernel_rfl)) kk0 bel lt0) (trodAll_cons_mk (Below.trod laidOut (by kernel_rfl) (of_decide_eq_true (by kernel_rfl)) kk1 bel lt1) (trodAll_cons_mk (Below.trod laidOut (by kernel_rfl) (of_decide_eq_true (by kernel_rfl)) kk2 bel lt2) (trodAll_cons_mk (Below.trod laidOut (by kernel_rfl) (of_decide_eq_true (by kernel_rfl)) kk3 bel lt3) trodAll_mk0)))), rfl, bel.frame _, fun h => by cases h⟩
theorem protoWrites_holds : Rows.ProtoWritesSaid :=
  OpenClaim.holds_of_wide 3 Tryz.f3 rfl rfl rfl rfl rfl rfl rfl ⟨rfl, rfl, rfl, rfl, rfl⟩ rfl rfl rfl rfl rfl (by kernel_rfl) Tryz.func3 (by kernel_rfl)
    (of_decide_eq_true (by kernel_rfl)) (by unfold Func.isWrapper; first | (rw [if_pos (by decide +kernel)]; kernel_rfl) | (rw [if_neg (by decide +kernel)]; exact ⟨rfl, rfl⟩))
    (fun os started H enc _ => protoWrites_lifted os started H enc)
#print axioms protoWrites_holds
end Go.Proofs.YtgdaaohlongmlaaGreat
