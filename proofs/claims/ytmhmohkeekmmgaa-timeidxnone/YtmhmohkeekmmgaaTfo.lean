/- The program's Form. -/
import Derived.Test.YtmhmohkeekmmgaaTput
namespace Go.Proofs.Ytmhmohkeekmmgaa
open Go.RowKit
set_option maxRecDepth 20000 in
set_option maxHeartbeats 1000000 in
theorem form_any (e : En) (w : World) : Calls Try.prog 22 #[enV e] w fun r w' => r = .returned (.string (bs (eb e))) ∧ Below w.heap.size w w' := by
  obtain ⟨sk, sa⟩ := e
  unfold enV
  simp only
  have HP : Hid (Calls Try.prog 40 #[.slice (some ⟨w.heap.size + 1, 0, none⟩) 1 1] ((w.alloc (.cells #[.int .i64 sk, .int .i64 sa] 29)).alloc (.cells #[.int .i64 sk, .int .i64 sa] 29)) fun e w' => e = .returned (.string (bs (eb ⟨sk, sa⟩))) ∧ Below w.heap.size w w') := by
    have h1 := heap_new (w.alloc (.cells #[.int .i64 sk, .int .i64 sa] 29)) (.cells #[.int .i64 sk, .int .i64 sa] 29 (0, 0))
    rw [show (w.alloc (.cells #[.int .i64 sk, .int .i64 sa] 29)).heap.size = w.heap.size + 1 from by simp] at h1
    have h2 := put_any [⟨sk, sa⟩] (some ⟨w.heap.size + 1, 0, none⟩) 1 _ (one_ens h1) (by simp)
    have e1 : eby [(⟨sk, sa⟩ : En)] = eb ⟨sk, sa⟩ := by simp [eby]
    rw [e1] at h2
    have hb : Below w.heap.size w ((w.alloc (.cells #[.int .i64 sk, .int .i64 sa] 29)).alloc (.cells #[.int .i64 sk, .int .i64 sa] 29)) := ((Below.refl _ _).alloc (Nat.le_refl _) _).alloc (by simp) _
    exact h2.mono fun e w' ⟨h3, h4⟩ => ⟨h3, hb.trans (h4.mono hb.size)⟩
  go_enter Try.func22, Try.ntmps22
  go_wp2_with (go_at_call 40; refine HP.out.mono ?_; rintro e w' ⟨rfl, hb⟩)
  go_ret
  exact ⟨rfl, hb⟩
end Go.Proofs.Ytmhmohkeekmmgaa
