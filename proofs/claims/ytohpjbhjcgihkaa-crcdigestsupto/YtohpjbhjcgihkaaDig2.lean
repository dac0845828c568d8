/- The program's digest, its second part: Reset, Clone, the nil digest; the law's look at a digest. -/
import Derived.Test.YtohpjbhjcgihkaaRef
namespace Go.Proofs.Ytohpjbhjcgihkaa
open Go.RowKit
set_option maxHeartbeats 1000000 in
theorem reset_any (b sum n : Nat) (w : World) (hD : Dg w b sum n) :
    Calls Try.prog 24 #[.pointer (some ⟨b, 0, none⟩)] w fun e w' => e = .returned (.tuple #[]) ∧ Dg w' b 0 0 ∧ Ch (fun i => i = b) w w' := by
  have c0 := hD.c0
  have f0 := hD.fz 0
  have hD1 := hD.set0 0
  have c1 := hD1.c1
  have f1 := hD1.fz 1
  have hD2 := hD1.set1 0
  have hc : Ch (fun i => i = b) w ((w.setCell ⟨b, 0, none⟩ (.int .u32 (0 : Nat))).setCell ⟨b, 1, none⟩ (.int .i64 (0 : Nat))) :=
    ((Ch.refl (fun i => i = b) w).setCell ⟨b, 0, none⟩ _ (fun _ => rfl)).setCell ⟨b, 1, none⟩ _ (fun _ => rfl)
  have c1' := hD.c1
  have f1' := hD.fz 1
  go_enter Try.func24, Try.ntmps24
  go_wp2_with fail
  go_end0
  exact ⟨rfl, hD2, hc⟩
set_option maxHeartbeats 1000000 in
theorem clone_any (b sum n : Nat) (w : World) (hD : Dg w b sum n) :
    Calls Try.prog 25 #[.pointer (some ⟨b, 0, none⟩)] w fun e w' => e = .returned (.pointer (some ⟨w.heap.size, 0, none⟩)) ∧ Dg w' w.heap.size sum n ∧ Below w.heap.size w w' := by
  have c0 := hD.c0
  have c1 := hD.c1
  go_enter Try.func25, Try.ntmps25
  go_wp2_with fail
  go_ret
  exact ⟨rfl, heap_new _ _, (Below.refl _ w).alloc (Nat.le_refl _) _⟩
theorem reset_nil (w : World) : Calls Try.prog 24 #[.pointer none] w fun e w' => e = .returned (.tuple #[]) ∧ w' = w := by
  go_enter Try.func24, Try.ntmps24
  go_wp2_with fail
  go_end0
  exact ⟨rfl, rfl⟩
theorem write_nil (s : ByteArray) (w : World) : Calls Try.prog 23 #[.pointer none, .string s] w fun e w' => e = .returned (.int .i64 0) ∧ w' = w := by
  go_enter Try.func23, Try.ntmps23
  go_wp2_with fail
  go_ret
  exact ⟨rfl, rfl⟩
theorem dsum_nil (w : World) : Calls Try.prog 27 #[.pointer none] w fun e w' => e = .returned (.int .u32 0) ∧ w' = w := by
  go_enter Try.func27, Try.ntmps27
  go_wp2_with fail
  go_ret
  exact ⟨rfl, rfl⟩
theorem dlen_nil (w : World) : Calls Try.prog 28 #[.pointer none] w fun e w' => e = .returned (.int .i64 0) ∧ w' = w := by
  go_enter Try.func28, Try.ntmps28
  go_wp2_with fail
  go_ret
  exact ⟨rfl, rfl⟩
theorem clone_nil (w : World) : Calls Try.prog 25 #[.pointer none] w fun e w' => e = .returned (.pointer none) ∧ w' = w := by
  go_enter Try.func25, Try.ntmps25
  go_wp2_with fail
  go_ret
  exact ⟨rfl, rfl⟩
set_option maxHeartbeats 1000000 in
theorem seen_any (b : Nat) (s : ByteArray) (w : World) (hs : s.size ≤ 9223372036854775807) (hD : Dg w b (M.more 0 s.data.toList) s.size) :
    Calls Try.prog 26 #[.pointer (some ⟨b, 0, none⟩), .string s] w fun e w' => e = .returned (.bool true) ∧ w' = w := by
  have cS := dsum_any _ _ _ _ hD
  have cL := dlen_any _ _ _ _ hD
  have cR := rsum_any s w hs
  clear hD
  generalize M.more 0 s.data.toList = R at *
  go_enter Try.func26, Try.ntmps26
  go_wp2_with fail
  refine cS.mono ?_
  rintro e w1 ⟨rfl, rfl⟩
  go_wp2_with fail
  refine cR.mono ?_
  rintro e w2 ⟨rfl, rfl⟩
  go_wp2_with fail
  refine cL.mono ?_
  rintro e w3 ⟨rfl, rfl⟩
  go_wp2_with fail
  go_ret
  exact ⟨rfl, rfl⟩
end Go.Proofs.Ytohpjbhjcgihkaa
