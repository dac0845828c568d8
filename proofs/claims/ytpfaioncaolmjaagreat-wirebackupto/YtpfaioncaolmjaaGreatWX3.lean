/- The document's writer: the text of a number of one byte. -/
import Derived.Test.YtpfaioncaolmjaaGreatWX2
import Derived.Deep.OwnRows
namespace Go.Proofs.YtpfaioncaolmjaaGreat
open Go.RowKit
theorem one_row {w : World} {g V : Nat} (h : w.heap[g]? = some (.cells #[.int .u8 V] 5 (0, 0))) : w.ownsRow g 5 1 (.slice (some ⟨g, 0, none⟩) 1 1) 1 (bc [V]) :=
  ⟨rfl, Or.inr ⟨g, 1, _, rfl, Nat.le_refl _, h, Nat.le_refl _, by unfold maxLen; omega, rfl, rfl⟩⟩
set_option maxHeartbeats 1000000 in
set_option maxRecDepth 20000 in
theorem xnumber1_any (V : Nat) (w : World) (hV : V < 256) :
    Calls Tryz.prog 82 #[.int .u64 V, .int .i64 1] w fun e w' => e = .returned (.string (bs [V])) ∧ Below w.heap.size w w' := by
  have e0 : madeCells #[Value.int .u8 0] 1 = #[Value.int .u8 0] := by kernel_rfl
  have hmk : (Instr.makeSlice 48 (.int .i64 1) (.int .i64 1)).run Tryz.prog w = .ok (.slice (some ⟨w.heap.size, 0, none⟩) 1 1) (w.alloc (.cells #[.int .u8 0] 5)) := by
    rw [← e0]
    exact Go.run_make_row' (P := Tryz.prog) 48 5 (.int .u8 0) 1 Tryz.underBytes Tryz.info5 rfl .i64 .i64 1 (by omega) (by omega) w
  clear e0
  have hw : IntKind.u8.wrap ((V : Int) % 256) = V := by rw [IntKind.wrap_u8]; omega
  have hm : (V : Int) % 256 = V := by omega
  go_enter Tryz.func82, Tryz.ntmps82
  go_wp2_with fail
  have g0 : (w.alloc (.cells #[.int .u8 0] 5)).heap[w.heap.size]? = some (.cells #[.int .u8 0] 5 (0, 0)) := heap_new _ _
  have b0 : Below w.heap.size w (w.alloc (.cells #[.int .u8 0] 5)) := (Below.refl _ w).alloc (Nat.le_refl _) _
  clear hmk
  generalize w.alloc (.cells #[.int .u8 0] 5) = W at *
  go_loopg [0, 6] 1 (fun k x i wr => (k = 1 ∧ i = .int .i64 0 ∧ x = .int .u64 V ∧ wr.heap[w.heap.size]? = some (.cells #[.int .u8 0] 5 (0, 0)) ∧ Below w.heap.size w wr) ∨ (k = 0 ∧ i = .int .i64 (-1) ∧ x = .int .u64 ((V : Int) / 256) ∧ wr.heap[w.heap.size]? = some (.cells #[.int .u8 V] 5 (0, 0)) ∧ Below w.heap.size w wr))
  case atStart => exact Or.inl ⟨rfl, by first | rfl | go_num, rfl, g0, b0⟩
  case round =>
    clear g0 b0
    rcases hrel with ⟨rfl, rfl, rfl, hg, hb⟩ | ⟨rfl, rfl, rfl, hg, hb⟩
    · have c0 : wr.cell? ⟨w.heap.size, 0, none⟩ = some (.int .u8 0) := (cell_of hg).trans rfl
      have f0 := froz_of (i := 0) hg
      have HG := hid hg
      have HB := hid hb
      clear hg hb
      go_wp2_with fail
      go_roundg 0
      case measure => omega
      case rel => exact Or.inr ⟨rfl, by first | rfl | go_num, by first | rfl | go_num, heap_set HG.out, HB.out.setCell (Nat.le_refl _) _⟩
    · have hcv := conv_own (l := [V]) (by intro b hb; rw [List.mem_singleton] at hb; omega) (one_row hg)
      have HB := hid hb
      clear hg hb
      go_wp2_with fail
      go_ret
      exact ⟨rfl, HB.out⟩
end Go.Proofs.YtpfaioncaolmjaaGreat
