/- The document's examples. -/
import Derived.Test.YtgdaaohlongmlaaPeq
namespace Go.Proofs.Ytgdaaohlongmlaa
open Go.RowKit
theorem ex_ask : asV ⟨2, ⟨#[]⟩, 1, 0, -1⟩ = .tuple #[.string ⟨#[2, 0, 0, 0, 0, 0, 0, 0, 1, 255, 255, 255, 255, 255, 255, 255, 255]⟩, .int .i64 0] := by
  rw [asV_ok (by decide), askL_2]
  have e : bs (nb 1 2 ++ (nb 8 (un 1) ++ nb 8 (un (-1)))) = ⟨#[2, 0, 0, 0, 0, 0, 0, 0, 1, 255, 255, 255, 255, 255, 255, 255, 255]⟩ := by kernel_rfl
  rw [e]
theorem ex_left : raQ ⟨#[4, 0]⟩ = (zq, 22) := by
  have h : bl ⟨#[4, 0]⟩ = askL ⟨4, ⟨#[]⟩, 0, 0, 0⟩ ++ [0] := by kernel_rfl
  rw [raQ_of ⟨by decide, by simp [nrm], I64_0, I64_0, I64_0⟩ h]
  rfl
theorem ex_rep : rrQ ⟨#[5, 0, 0, 0, 60]⟩ = (⟨5, 60, false, 0, 0, ⟨#[]⟩⟩, 0) := by
  have h : bl ⟨#[5, 0, 0, 0, 60]⟩ = repL ⟨5, 60, false, 0, 0, ⟨#[]⟩⟩ ++ [] := by kernel_rfl
  rw [rrQ_of ⟨by decide, by simp [nrmP], I64_0, I64_0⟩ h]
  rfl
theorem ex_zero : rsV zp = .tuple #[.string ⟨#[]⟩, .int .i64 6] := rsV_no (by decide) (by decide)
set_option maxHeartbeats 1000000 in
set_option maxRecDepth 20000 in
theorem speaks_any (w : World) :
    Calls Try.prog 6 #[] w fun e w' => e = .returned (.bool true) ∧ Below w.heap.size w w' := by
  have C1 := hid (ask_any ⟨2, ⟨#[]⟩, 1, 0, -1⟩ w)
  rw [ex_ask] at C1
  have C2 := hid (fun w1 => readask_any ⟨#[4, 0]⟩ w1 (by decide))
  rw [ex_left, show rqV (zq, 22) = .tuple #[.agg #[.int .i64 0, .string ⟨#[]⟩, .int .i64 0, .int .i64 0, .int .i64 0], .int .i64 22] from rfl] at C2
  have C3 := hid (fun w1 => readreply_any ⟨#[5, 0, 0, 0, 60]⟩ w1 (by decide))
  rw [ex_rep, show rpV (⟨5, 60, false, 0, 0, ⟨#[]⟩⟩, 0) = .tuple #[.agg #[.int .i64 5, .int .i64 60, .bool false, .int .i64 0, .int .i64 0, .string ⟨#[]⟩], .int .i64 0] from rfl] at C3
  have C4 := hid (fun w1 => reply_any zp w1)
  rw [ex_zero] at C4
  have hE := fun w => p_eql 5 60 false 0 0 ⟨#[]⟩ w
  go_enter Try.func6, Try.ntmps6
  go_wp2_with fail
  refine C1.out.mono ?_
  rintro e w1 ⟨rfl, b1⟩
  go_wp2_with fail
  refine (C2.out w1).mono ?_
  rintro e w2 ⟨rfl, b2⟩
  go_wp2_with fail
  refine (C3.out w2).mono ?_
  rintro e w3 ⟨rfl, b3⟩
  have B3 := hid ((b1.trans (b2.mono b1.size)).trans (b3.mono (Nat.le_trans b1.size b2.size)))
  clear b1 b2 b3
  go_wp2_with fail
  have g4 : (w3.alloc (.cells #[.int .i64 5, .int .i64 60, .bool false, .int .i64 0, .int .i64 0, .string ⟨#[]⟩] 27)).heap[w3.heap.size]? = some (.cells #[.int .i64 5, .int .i64 60, .bool false, .int .i64 0, .int .i64 0, .string ⟨#[]⟩] 27 (0, 0)) := heap_new _ _
  have B4 := hid (B3.out.alloc B3.out.size (.cells #[.int .i64 5, .int .i64 60, .bool false, .int .i64 0, .int .i64 0, .string ⟨#[]⟩] 27))
  generalize w3.alloc (.cells #[.int .i64 5, .int .i64 60, .bool false, .int .i64 0, .int .i64 0, .string ⟨#[]⟩] 27) = w4 at *
  generalize w3.heap.size = G at *
  refine (C4.out w4).mono ?_
  rintro e w5 ⟨rfl, b5⟩
  have g5 : w5.heap[G]? = _ := (b5.block _ (lt_of_heap g4)).trans g4
  have c0 : w5.cell? ⟨G, 0, none⟩ = some (.int .i64 5) := (cell_of g5).trans rfl
  have c1 : w5.cell? ⟨G, 1, none⟩ = some (.int .i64 60) := (cell_of g5).trans rfl
  have c2 : w5.cell? ⟨G, 2, none⟩ = some (.bool false) := (cell_of g5).trans rfl
  have c3 : w5.cell? ⟨G, 3, none⟩ = some (.int .i64 0) := (cell_of g5).trans rfl
  have c4 : w5.cell? ⟨G, 4, none⟩ = some (.int .i64 0) := (cell_of g5).trans rfl
  have c5 : w5.cell? ⟨G, 5, none⟩ = some (.string ⟨#[]⟩) := (cell_of g5).trans rfl
  have B5 := hid (B4.out.trans (b5.mono B4.out.size))
  clear g4 g5 b5 B4 B3 C1 C2 C3 C4
  go_wp2_with fail
  go_ret
  exact ⟨rfl, B5.out⟩
end Go.Proofs.Ytgdaaohlongmlaa
