/- Equality of requests and of replies that say the same; the document's examples. -/
import Derived.Test.YtgdaaohlongmlaaPcp
import Derived.Laws.StructEq
namespace Go.Proofs.Ytgdaaohlongmlaa
open Go.RowKit
theorem Try.qStruct : Try.prog.underlying 24 = some (.struct (Try.prog.fieldsOf 24)) := by kernel_rfl
theorem Try.qHeld : Try.prog.stoodInHeld 24 = false := by kernel_rfl
theorem Try.qGuard : Try.prog.eqGuardType Try.prog.depth 24 = false := by kernel_rfl
set_option maxRecDepth 20000 in
theorem q_neq (k : Int) (d : ByteArray) (o t m : Int) (w : World) : (binOp .neq 24 (.agg #[.int .i64 k, .string d, .int .i64 o, .int .i64 t, .int .i64 m]) (.agg #[.int .i64 k, .string d, .int .i64 o, .int .i64 t, .int .i64 m])).run Try.prog w = .ok (.bool false) w := by
  rw [run_neq_struct, run_equalIn_agg w 9999 _ _ _ Try.qStruct Try.qHeld]
  have hf : (Try.prog.fieldsOf 24) = (match Try.prog.underlying 24 with | some (.struct fs) => fs | _ => #[]) := rfl
  rw [hf, Try.underlying24]
  simp [go_sem, Op.eqFields, Try.underlying22, Try.underlying9, Try.underlying2, Try.underlying3]
set_option maxRecDepth 20000 in
theorem q_eql (k : Int) (d : ByteArray) (o t m : Int) (w : World) : (binOp .eql 24 (.agg #[.int .i64 k, .string d, .int .i64 o, .int .i64 t, .int .i64 m]) (.agg #[.int .i64 k, .string d, .int .i64 o, .int .i64 t, .int .i64 m])).run Try.prog w = .ok (.bool true) w := by
  rw [run_eql_struct, run_equalIn_agg w 9999 _ _ _ Try.qStruct Try.qHeld]
  have hf : (Try.prog.fieldsOf 24) = (match Try.prog.underlying 24 with | some (.struct fs) => fs | _ => #[]) := rfl
  rw [hf, Try.underlying24]
  simp [go_sem, Op.eqFields, Try.underlying22, Try.underlying9, Try.underlying2, Try.underlying3]
theorem Try.pStruct : Try.prog.underlying 27 = some (.struct (Try.prog.fieldsOf 27)) := by kernel_rfl
theorem Try.pHeld : Try.prog.stoodInHeld 27 = false := by kernel_rfl
theorem Try.pGuard : Try.prog.eqGuardType Try.prog.depth 27 = false := by kernel_rfl
set_option maxRecDepth 20000 in
theorem p_neq (k r : Int) (b : Bool) (o n : Int) (d : ByteArray) (w : World) : (binOp .neq 27 (.agg #[.int .i64 k, .int .i64 r, .bool b, .int .i64 o, .int .i64 n, .string d]) (.agg #[.int .i64 k, .int .i64 r, .bool b, .int .i64 o, .int .i64 n, .string d])).run Try.prog w = .ok (.bool false) w := by
  rw [run_neq_struct, run_equalIn_agg w 9999 _ _ _ Try.pStruct Try.pHeld]
  have hf : (Try.prog.fieldsOf 27) = (match Try.prog.underlying 27 with | some (.struct fs) => fs | _ => #[]) := rfl
  rw [hf, Try.underlying27]
  simp [go_sem, Op.eqFields, Try.underlying22, Try.underlying25, Try.underlying4, Try.underlying2, Try.underlying9]
set_option maxRecDepth 20000 in
theorem p_eql (k r : Int) (b : Bool) (o n : Int) (d : ByteArray) (w : World) : (binOp .eql 27 (.agg #[.int .i64 k, .int .i64 r, .bool b, .int .i64 o, .int .i64 n, .string d]) (.agg #[.int .i64 k, .int .i64 r, .bool b, .int .i64 o, .int .i64 n, .string d])).run Try.prog w = .ok (.bool true) w := by
  rw [run_eql_struct, run_equalIn_agg w 9999 _ _ _ Try.pStruct Try.pHeld]
  have hf : (Try.prog.fieldsOf 27) = (match Try.prog.underlying 27 with | some (.struct fs) => fs | _ => #[]) := rfl
  rw [hf, Try.underlying27]
  simp [go_sem, Op.eqFields, Try.underlying22, Try.underlying25, Try.underlying4, Try.underlying2, Try.underlying9]
end Go.Proofs.Ytgdaaohlongmlaa
