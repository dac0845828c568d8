/- Same of two records that say the same: true; nothing that was there before is turned. -/
import Derived.Test.YtafogjilheniiaaGreatRecOpen
import Derived.Laws.StructEq
namespace Go.Proofs.YtafogjilheniiaaGreat
open Go.RowKit
/-- What a text that may be null says. -/
def bd (h : Bool) (d : ByteArray) : ByteArray := if h then d else ⟨#[]⟩
theorem Tryz.optStruct : Tryz.prog.underlying 24 = some (.struct (Tryz.prog.fieldsOf 24)) := by kernel_rfl
theorem Tryz.optHeld : Tryz.prog.stoodInHeld 24 = false := by kernel_rfl
theorem Tryz.optGuard : Tryz.prog.eqGuardType Tryz.prog.depth 24 = false := by kernel_rfl
set_option maxRecDepth 20000 in
theorem neq_opt (b : Bool) (d : ByteArray) (w : World) : (binOp .neq 24 (.agg #[.bool b, .string d]) (.agg #[.bool b, .string d])).run Tryz.prog w = .ok (.bool false) w := by
  rw [run_neq_struct, run_equalIn_agg w 9999 _ _ _ Tryz.optStruct Tryz.optHeld]
  have hf : (Tryz.prog.fieldsOf 24) = (match Tryz.prog.underlying 24 with | some (.struct fs) => fs | _ => #[]) := rfl
  rw [hf, Tryz.underlying24]
  simp [go_sem, Op.eqFields, Tryz.underlying9, Tryz.underlying4]
theorem Tryz.hdrStruct : Tryz.prog.underlying 81 = some (.struct (Tryz.prog.fieldsOf 81)) := by kernel_rfl
theorem Tryz.hdrHeld : Tryz.prog.stoodInHeld 81 = false := by kernel_rfl
theorem Tryz.hdrGuard : Tryz.prog.eqGuardType Tryz.prog.depth 81 = false := by kernel_rfl
set_option maxRecDepth 20000 in
theorem neq_hdr (k : ByteArray) (b : Bool) (d : ByteArray) (w : World) : (binOp .neq 81 (.agg #[.string k, .bool b, .string d]) (.agg #[.string k, .bool b, .string d])).run Tryz.prog w = .ok (.bool false) w := by
  rw [run_neq_struct, run_equalIn_agg w 9999 _ _ _ Tryz.hdrStruct Tryz.hdrHeld]
  have hf : (Tryz.prog.fieldsOf 81) = (match Tryz.prog.underlying 81 with | some (.struct fs) => fs | _ => #[]) := rfl
  rw [hf, Tryz.underlying81]
  simp [go_sem, Op.eqFields, Tryz.underlying9, Tryz.underlying4, Tryz.underlying24]
theorem store3 {x : World} {A R : Nat} {o : Obj} {v0 v1 v2 : Value} (h : x.heap[A]? = some o) (hne : A ≠ R) :
    (((x.setCell ⟨R, 0, none⟩ v0).setCell ⟨R, 1, none⟩ v1).setCell ⟨R, 2, none⟩ v2).heap[A]? = some o :=
  heap_set_far (heap_set_far (heap_set_far h hne) hne) hne
theorem held12 {w0 x : World} {B P Q : Nat} {T : TypeId} {v0 v1 v2 v3 v4 v5 u0 u1 u2 u3 u4 u5 : Value} (h : w0.heap[P]? = some (.cells #[v0, v1, v2, v3, v4, v5] T (0, 0))) (k : w0.heap[Q]? = some (.cells #[u0, u1, u2, u3, u4, u5] T (0, 0))) (hP : P < B) (hQ : Q < B) (hb : Below B w0 x) :
    ((x.cell? ⟨P, 0, none⟩ = some v0 ∧ x.cell? ⟨P, 1, none⟩ = some v1 ∧ x.cell? ⟨P, 2, none⟩ = some v2 ∧ x.cell? ⟨P, 3, none⟩ = some v3 ∧ x.cell? ⟨P, 4, none⟩ = some v4 ∧ x.cell? ⟨P, 5, none⟩ = some v5) ∧ (x.cell? ⟨Q, 0, none⟩ = some u0 ∧ x.cell? ⟨Q, 1, none⟩ = some u1 ∧ x.cell? ⟨Q, 2, none⟩ = some u2 ∧ x.cell? ⟨Q, 3, none⟩ = some u3 ∧ x.cell? ⟨Q, 4, none⟩ = some u4 ∧ x.cell? ⟨Q, 5, none⟩ = some u5)) ∧ Below B w0 x :=
  ⟨⟨cells6 ((hb.block P hP).trans h), cells6 ((hb.block Q hQ).trans k)⟩, hb⟩
end Go.Proofs.YtafogjilheniiaaGreat
