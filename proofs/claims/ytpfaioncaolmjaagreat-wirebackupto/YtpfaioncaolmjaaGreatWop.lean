/- WireWrites' walk. -/
import Derived.Test.YtpfaioncaolmjaaGreatWra
import Derived.Test.YtpfaioncaolmjaaGreatSpl
import Derived.Deep.LoopGhost
namespace Go.Proofs.YtpfaioncaolmjaaGreat
open Go.RowKit
/-- The calls of a script, where they lie. -/
def Opq (w : World) (a : Option Addr) (os : List (Nat × Nat × ByteArray)) : Prop := os = [] ∨ ∃ b off, a = some ⟨b, off, none⟩ ∧ b < w.heap.size ∧ ∀ j, j < os.length → w.cell? ⟨b, off + j * 3, none⟩ = some (.int .u8 (os.getD j (0, 0, ByteArray.empty)).1) ∧ w.cell? ⟨b, off + j * 3 + 1, none⟩ = some (.int .u64 (os.getD j (0, 0, ByteArray.empty)).2.1) ∧ w.cell? ⟨b, off + j * 3 + 2, none⟩ = some (.string (os.getD j (0, 0, ByteArray.empty)).2.2)
theorem opq_mem {os : List (Nat × Nat × ByteArray)} {k : Nat} (h : k < os.length) : os.getD k (0, 0, ByteArray.empty) ∈ os := by
  simp [List.getD_eq_getElem?_getD, h]
theorem WW.alloc {p q B : Nat} {l : List Nat} {w : World} (h : WW p q B l w) (o : Obj) : WW p q B l (w.alloc o) := ⟨h.a.alloc o, heap_alloc_at h.x, h.ne, h.lt⟩
theorem ww_new (w : World) : WW w.heap.size (w.heap.size + 1) (w.heap.size + 2) [] ((w.alloc (.cells #[.int .i64 0, .slice none 0 0] 52)).alloc (.cells #[.string ⟨#[]⟩] 70)) :=
  ⟨wr_new (heap_alloc_at (heap_new w _)) (by omega) (by simp), heap_new' _ _ _ (by simp), by omega, by omega⟩
end Go.Proofs.YtpfaioncaolmjaaGreat
