/- What a reader's calls answer upon nil. -/
import Derived.Test.YtpfaioncaolmjaaGreatNld
import Derived.Test.YtpfaioncaolmjaaGreatRmC
import Derived.Test.YtpfaioncaolmjaaGreatOsz
namespace Go.Proofs.YtpfaioncaolmjaaGreat
open Go.RowKit
theorem nil_rd (w : World) : Rd (w.alloc (.cells #[.int .i64 0, .string ⟨#[]⟩, .int .i64 0] 56)) w.heap.size ⟨#[]⟩ 0 0 := heap_new _ _
set_option maxHeartbeats 1000000 in
set_option maxRecDepth 20000 in
theorem nilUvarint_any (w : World) :
    Calls Tryz.prog 54 #[.pointer none] w (NAns (.int .u64 (uq ⟨#[]⟩ 0 0).1) (uq ⟨#[]⟩ 0 0).2.2 w) := by
  rw [uq_bad nil_rde]
  dsimp only
  have ha := nil_quit_u64 (rde (tl ⟨#[]⟩ 0)) 94 #[] w uvarint_in (fun w1 hb hr => by simpa using uv_bad _ ⟨#[]⟩ 0 w1 hr (Nat.zero_le _) nil_sz nil_rde)
  generalize rde (tl ⟨#[]⟩ 0) = E at ha ⊢
  go_enter Tryz.func54, Tryz.ntmps54
  go_wp2_with (go_at_call 61; refine ha.mono ?_; rintro e w' ⟨rfl, hch⟩)
  go_ret2
  exact ⟨rfl, hch⟩
set_option maxHeartbeats 1000000 in
set_option maxRecDepth 20000 in
theorem nilVarint_any (w : World) :
    Calls Tryz.prog 55 #[.pointer none] w (NAns (.int .i64 (vq ⟨#[]⟩ 0 0).1) (vq ⟨#[]⟩ 0 0).2.2 w) := by
  rw [vq_bad nil_rde]
  dsimp only
  have ha := nil_quit_i64 (rde (tl ⟨#[]⟩ 0)) 95 #[] w varint_in (fun w1 hb hr => by simpa using vi_bad _ ⟨#[]⟩ 0 w1 hr (Nat.zero_le _) nil_sz nil_rde)
  generalize rde (tl ⟨#[]⟩ 0) = E at ha ⊢
  go_enter Tryz.func55, Tryz.ntmps55
  go_wp2_with (go_at_call 92; refine ha.mono ?_; rintro e w' ⟨rfl, hch⟩)
  go_ret2
  exact ⟨rfl, hch⟩
set_option maxHeartbeats 1000000 in
set_option maxRecDepth 20000 in
theorem nilAt_any (w : World) :
    Calls Tryz.prog 15 #[.pointer none] w fun e w' => e = .returned (.int .i64 0) ∧ Below w.heap.size w w' := by
  have R := hid (nil_rd w)
  have c0 := (nil_rd w).c0
  have c2 := (nil_rd w).c2
  go_enter Tryz.func15, Tryz.ntmps15
  go_wp2_with (first
    | (go_at_call 58; refine (source_nil _).mono ?_; rintro e w' ⟨rfl, rfl⟩)
    | (go_at_call 60; refine (at_any w.heap.size 0 _ c0).mono ?_; rintro e w' ⟨rfl, rfl⟩))
  go_ret
  exact ⟨rfl, ((Below.refl w.heap.size w).alloc (Nat.le_refl _) _)⟩
set_option maxHeartbeats 1000000 in
set_option maxRecDepth 20000 in
theorem nilLeft_any (w : World) :
    Calls Tryz.prog 14 #[.pointer none] w fun e w' => e = .returned (.int .i64 0) ∧ Below w.heap.size w w' := by
  have R := hid (nil_rd w)
  have c0 := (nil_rd w).c0
  have c2 := (nil_rd w).c2
  go_enter Tryz.func14, Tryz.ntmps14
  go_wp2_with (first
    | (go_at_call 58; refine (source_nil _).mono ?_; rintro e w' ⟨rfl, rfl⟩)
    | (go_at_call 59; refine (left_any w.heap.size ⟨#[]⟩ 0 0 _ R.out (Nat.zero_le _) nil_sz).mono ?_; rintro e w' ⟨rfl, n1, rfl⟩))
  go_ret
  exact ⟨rfl, (((Ch.refl (fun _ => False) w).alloc _).drewN _).below (Nat.le_refl _) (fun _ _ h => h)⟩
set_option maxHeartbeats 1000000 in
set_option maxRecDepth 20000 in
theorem nilErr_any (w : World) :
    Calls Tryz.prog 16 #[.pointer none] w fun e w' => e = .returned (.int .i64 0) ∧ Below w.heap.size w w' := by
  have R := hid (nil_rd w)
  have c0 := (nil_rd w).c0
  have c2 := (nil_rd w).c2
  go_enter Tryz.func16, Tryz.ntmps16
  go_wp2_with (first
    | (go_at_call 58; refine (source_nil _).mono ?_; rintro e w' ⟨rfl, rfl⟩))
  go_ret
  exact ⟨rfl, ((Below.refl w.heap.size w).alloc (Nat.le_refl _) _)⟩
set_option maxHeartbeats 1000000 in
set_option maxRecDepth 20000 in
theorem nilDone_any (w : World) :
    Calls Tryz.prog 13 #[.pointer none] w fun e w' => e = .returned (.int .i64 0) ∧ Below w.heap.size w w' := by
  have R := hid (nil_rd w)
  have c0 := (nil_rd w).c0
  have c2 := (nil_rd w).c2
  go_enter Tryz.func13, Tryz.ntmps13
  go_wp2_with (first
    | (go_at_call 58; refine (source_nil _).mono ?_; rintro e w' ⟨rfl, rfl⟩)
    | (go_at_call 59; refine (left_any w.heap.size ⟨#[]⟩ 0 0 _ R.out (Nat.zero_le _) nil_sz).mono ?_; rintro e w' ⟨rfl, n1, rfl⟩))
  go_ret
  exact ⟨rfl, (((Ch.refl (fun _ => False) w).alloc _).drewN _).below (Nat.le_refl _) (fun _ _ h => h)⟩
end Go.Proofs.YtpfaioncaolmjaaGreat
