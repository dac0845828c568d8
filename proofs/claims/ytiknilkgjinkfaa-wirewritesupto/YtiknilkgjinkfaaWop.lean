/- WireWrites' walk. -/
import Derived.Test.YtiknilkgjinkfaaWra
import Derived.Test.YtiknilkgjinkfaaSpl
import Derived.Deep.LoopGhost
namespace Go.Proofs.Ytiknilkgjinkfaa
open Go.RowKit
/-- The calls of a script, where they lie. -/
def Opq (w : World) (a : Option Addr) (os : List (Nat × Nat × ByteArray)) : Prop := os = [] ∨ ∃ b off, a = some ⟨b, off, none⟩ ∧ b < w.heap.size ∧ ∀ j, j < os.length → w.cell? ⟨b, off + j * 3, none⟩ = some (.int .u8 (os.getD j (0, 0, ByteArray.empty)).1) ∧ w.cell? ⟨b, off + j * 3 + 1, none⟩ = some (.int .u64 (os.getD j (0, 0, ByteArray.empty)).2.1) ∧ w.cell? ⟨b, off + j * 3 + 2, none⟩ = some (.string (os.getD j (0, 0, ByteArray.empty)).2.2)
theorem opq_mem {os : List (Nat × Nat × ByteArray)} {k : Nat} (h : k < os.length) : os.getD k (0, 0, ByteArray.empty) ∈ os := by
  simp [List.getD_eq_getElem?_getD, h]
theorem WW.alloc {p q B : Nat} {l : List Nat} {w : World} (h : WW p q B l w) (o : Obj) : WW p q B l (w.alloc o) := ⟨h.a.alloc o, heap_alloc_at h.x, h.ne, h.lt⟩
theorem ww_new (w : World) : WW w.heap.size (w.heap.size + 1) (w.heap.size + 2) [] ((w.alloc (.cells #[.int .i64 0, .slice none 0 0] 55)).alloc (.cells #[.string ⟨#[]⟩] 57)) :=
  ⟨wr_new (heap_alloc_at (heap_new w _)) (by omega) (by simp), heap_new' _ _ _ (by simp), by omega, by omega⟩
set_option maxHeartbeats 8000000 in
set_option maxRecDepth 20000 in
theorem written_any (b off cap Kd N : Nat) (S : ByteArray) (l' : List Nat) (w : World) (hb : b < w.heap.size)
    (q0 : w.cell? ⟨b, off, none⟩ = some (.int .u8 Kd)) (q1 : w.cell? ⟨b, off + 1, none⟩ = some (.int .u64 N)) (q2 : w.cell? ⟨b, off + 2, none⟩ = some (.string S))
    (hw : ∀ p q B w, WW p q B [] w → Calls Try.prog 7 #[.pointer (some ⟨p, 0, none⟩), .pointer (some ⟨q, 0, none⟩), .agg #[.int .u8 Kd, .int .u64 N, .string S]] w fun e w' => e = .returned (.bool true) ∧ WW p q B l' w' ∧ Old p q B w w') :
    Calls Try.prog 12 #[.slice (some ⟨b, off, none⟩) 1 cap] w fun e w' => e = .returned (.string (bs l')) ∧ Below w.heap.size w w' := by
  have HW := hid hw
  have HB := hid hb
  have Q0 := hid q0
  have Q1 := hid q1
  have Q2 := hid q2
  clear hw q0 q1 q2 hb
  go_enter Try.func12, Try.ntmps12
  go_wp2_with fail
  refine (newwriter_any _).mono ?_
  rintro e w2 ⟨rfl, rfl⟩
  go_wp2_with fail
  refine (xnewwriter_any _).mono ?_
  rintro e w3 ⟨rfl, rfl⟩
  have HN := hid (ww_new w)
  have HB0 := hid (((Below.refl w.heap.size w).alloc (Nat.le_refl _) (.cells #[.int .i64 0, .slice none 0 0] 55)).alloc (by simp) (.cells #[.string ⟨#[]⟩] 57))
  obtain ⟨H, hH⟩ : ∃ H, H = w.heap.size := ⟨_, rfl⟩
  have HZ0 : Hid (H + 2 ≤ ((w.alloc (.cells #[.int .i64 0, .slice none 0 0] 55)).alloc (.cells #[.string ⟨#[]⟩] 57)).heap.size) := by show _ ≤ _; simp; omega
  generalize (w.alloc (.cells #[.int .i64 0, .slice none 0 0] 55)).alloc (.cells #[.string ⟨#[]⟩] 57) = w3 at *
  rw [← hH] at HN
  rw [show w.heap.size = H from hH.symm]
  go_wp2_with fail
  rw [show w.heap.size = H from hH.symm]
  have hHw : w.heap.size ≤ H := by omega
  clear hH
  go_loopg [11] 1 (fun k i wr => ∃ (j : Nat) (l : List Nat), j + k = 1 ∧ i = .int .i64 j ∧ (j = 0 → l = []) ∧ (j = 1 → l = l') ∧ Hid (WW H (H + 1) (H + 2) l wr) ∧ Hid (Below w.heap.size w wr) ∧ Hid (H + 2 ≤ wr.heap.size))
  case atStart => exact ⟨0, [], by omega, rfl, fun _ => rfl, fun h => by omega, HN, HB0, HZ0⟩
  case round =>
    clear HN HB0 HZ0
    obtain ⟨j, l, hk, rfl, hl0, hl1, HWW, HB1, HS⟩ := hrel
    by_cases hlt : j < 1
    · obtain ⟨k, rfl⟩ : ∃ k, gk = k + 1 := ⟨gk - 1, by omega⟩
      obtain rfl : j = 0 := by omega
      obtain rfl := hl0 rfl
      have k0 := (HB1.out.cell (p := ⟨b, off, none⟩) HB.out).trans Q0.out
      have k1 := (HB1.out.cell (p := ⟨b, off + 1, none⟩) HB.out).trans Q1.out
      have k2 := (HB1.out.cell (p := ⟨b, off + 2, none⟩) HB.out).trans Q2.out
      have hsz := HS.out
      have hsw := HB1.out.size
      have CR := hid (HW.out _ _ _ _ (HWW.out.alloc (.cells #[.int .u8 Kd, .int .u64 N, .string S] 30)))
      have HBA := hid (HB1.out.alloc (by omega) (.cells #[.int .u8 Kd, .int .u64 N, .string S] 30))
      clear hl0 hl1
      go_wp2_with fail
      refine CR.out.mono ?_
      rintro r w4 ⟨rfl, h4, o4⟩
      have HB4 := hid (HBA.out.trans (o4 w.heap.size (by omega) (by omega) (by omega) (by simp; omega)))
      have HS4 : Hid (H + 2 ≤ w4.heap.size) := by have := (o4 0 (by omega) (by omega) (by omega) (by omega)).size; simp at this; show _ ≤ _; omega
      have H4 := hid h4
      clear h4 o4 k0 k1 k2 HBA CR
      go_wp2_with fail
      go_roundg k
      case measure => omega
      case rel => exact ⟨1, l', by omega, by go_num, fun h => by omega, fun _ => rfl, H4, HB4, HS4⟩
    · obtain rfl : j = 1 := by omega
      obtain rfl := hl1 rfl
      have BY := hid (xwbytes_any (H + 1) (bs l) wr HWW.out.x)
      go_wp2_with (go_at_call 9; refine BY.out.mono ?_; rintro r w5 ⟨rfl, rfl⟩)
      go_ret
      exact ⟨rfl, HB1.out⟩
end Go.Proofs.Ytiknilkgjinkfaa
