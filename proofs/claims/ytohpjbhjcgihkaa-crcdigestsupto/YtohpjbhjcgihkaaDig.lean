/- The program's digest: New, Write, Sum, Len, Reset, Clone; only the digest's own block is turned. -/
import Derived.Test.YtohpjbhjcgihkaaFix
namespace Go.Proofs.Ytohpjbhjcgihkaa
open Go.RowKit
/-- A digest's block: its sum, its count. -/
def Dg (w : World) (b sum n : Nat) : Prop := w.heap[b]? = some (.cells #[.int .u32 sum, .int .i64 n] 38 (0, 0))
theorem Dg.c0 {w : World} {b sum n : Nat} (h : Dg w b sum n) : w.cell? ⟨b, 0, none⟩ = some (.int .u32 sum) := (cell_of h).trans rfl
theorem Dg.c1 {w : World} {b sum n : Nat} (h : Dg w b sum n) : w.cell? ⟨b, 1, none⟩ = some (.int .i64 n) := (cell_of h).trans rfl
theorem Dg.fz {w : World} {b sum n : Nat} (h : Dg w b sum n) (i : Nat) : w.frozen? ⟨b, i, none⟩ = false := froz_of h
theorem Dg.lt {w : World} {b sum n : Nat} (h : Dg w b sum n) : b < w.heap.size := lt_of_heap h
theorem Dg.set0 {w : World} {b sum n : Nat} (h : Dg w b sum n) (s' : Nat) : Dg (w.setCell ⟨b, 0, none⟩ (.int .u32 s')) b s' n := heap_set h
theorem Dg.set1 {w : World} {b sum n : Nat} (h : Dg w b sum n) (n' : Nat) : Dg (w.setCell ⟨b, 1, none⟩ (.int .i64 n')) b sum n' := heap_set h
theorem Dg.below {w w' : World} {b sum n B : Nat} (h : Dg w b sum n) (hc : Below B w w') (hB : b < B) : Dg w' b sum n := (hc.block b hB).trans h
theorem Dg.ch {S : Nat → Prop} {w w' : World} {b sum n : Nat} (h : Dg w b sum n) (hc : Ch S w w') (hS : ¬ S b) : Dg w' b sum n := (hc.block b h.lt hS).trans h
theorem new_any (w : World) :
    Calls Try.prog 22 #[] w fun e w' => e = .returned (.pointer (some ⟨w.heap.size, 0, none⟩)) ∧ Dg w' w.heap.size 0 0 ∧ Below w.heap.size w w' := by
  go_enter Try.func22, Try.ntmps22
  go_wp2_with fail
  go_ret
  exact ⟨rfl, heap_new _ _, (Below.refl _ w).alloc (Nat.le_refl _) _⟩
theorem dsum_any (b sum n : Nat) (w : World) (hD : Dg w b sum n) :
    Calls Try.prog 27 #[.pointer (some ⟨b, 0, none⟩)] w fun e w' => e = .returned (.int .u32 sum) ∧ w' = w := by
  have h0 := hD.c0
  clear hD
  go_enter Try.func27, Try.ntmps27
  go_wp2_with fail
  go_ret
  exact ⟨rfl, rfl⟩
theorem dlen_any (b sum n : Nat) (w : World) (hD : Dg w b sum n) :
    Calls Try.prog 28 #[.pointer (some ⟨b, 0, none⟩)] w fun e w' => e = .returned (.int .i64 n) ∧ w' = w := by
  have h0 := hD.c1
  clear hD
  go_enter Try.func28, Try.ntmps28
  go_wp2_with fail
  go_ret
  exact ⟨rfl, rfl⟩
set_option maxHeartbeats 1000000 in
theorem write_any (b sum n : Nat) (s : ByteArray) (w : World) (hD : Dg w b sum n) (h : sum < 4294967296) (hn : n + s.size ≤ 9223372036854775807) :
    Calls Try.prog 23 #[.pointer (some ⟨b, 0, none⟩), .string s] w fun e w' => e = .returned (.int .i64 s.size) ∧ Dg w' b (M.more sum s.data.toList) (n + s.size) ∧ Ch (fun i => i = b) w w' := by
  have h0 := hD.c0
  have hm := fun v => more_any sum s v h (by omega)
  generalize M.more sum s.data.toList = R at *
  go_enter Try.func23, Try.ntmps23
  go_wp2_with fail
  refine (hm _).mono ?_
  rintro e w1 ⟨rfl, hb⟩
  have hD1 := hD.below hb hD.lt
  have c0 := hD1.c0
  have f0 := hD1.fz 0
  have hD2 := hD1.set0 R
  have c1 := hD2.c1
  have f1 := hD2.fz 1
  have hD3 := hD2.set1 (n + s.size)
  have hc : Ch (fun i => i = b) w ((w1.setCell ⟨b, 0, none⟩ (.int .u32 R)).setCell ⟨b, 1, none⟩ (.int .i64 (n + s.size : Nat))) :=
    ((Ch.of_below (S := fun i => i = b) hb).setCell ⟨b, 0, none⟩ _ (fun _ => rfl)).setCell ⟨b, 1, none⟩ _ (fun _ => rfl)
  clear hm hD hD1 hD2 h0
  trace_state
  go_wp2_with fail
  trace_state
  go_ret
  exact ⟨rfl, hD3, hc⟩
end Go.Proofs.Ytohpjbhjcgihkaa
