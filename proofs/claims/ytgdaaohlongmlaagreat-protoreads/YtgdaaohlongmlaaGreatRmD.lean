/- What a reader's calls for bytes and texts answer, of whatever bytes, wherever it stands, with or without an error. -/
import Derived.Test.YtgdaaohlongmlaaGreatRmC
namespace Go.Proofs.YtgdaaohlongmlaaGreat
open Go.RowKit
set_option maxHeartbeats 1000000 in
set_option maxRecDepth 20000 in
theorem rraw_any (b : Nat) (s : ByteArray) (k e : Nat) (n : Int) (w : World) (h : Rd w b s k e) (hk : k ≤ s.size) (hs : s.size ≤ 9223372036854775807) (hm1 : -9223372036854775808 ≤ n) (hm2 : n ≤ 9223372036854775807) :
    Calls Tryz.prog 91 #[.pointer (some ⟨b, 0, none⟩), .int .i64 n] w (Ans b s (.string (rq n s k e).1) (rq n s k e).2.1 (rq n s k e).2.2 w) := by
  have hmf : ∀ (fn : Fn) (first cap : Array Value) (w : World), (Instr.makeFunc fn first cap).run Tryz.prog w = .ok (.func fn first cap) w := fun _ _ _ _ => rfl
  have hp : ∀ w1, Below (w.alloc (.cells #[.int .i64 n] 3)).heap.size (w.alloc (.cells #[.int .i64 n] 3)) w1 → w1.cell? ⟨w.heap.size, 0, none⟩ = some (.int .i64 n) := fun w1 hb => ((hb.cell (p := ⟨w.heap.size, 0, none⟩) (by simp)).trans (cell_of (heap_new _ _))).trans rfl
  have hr : ∀ w1, Below (w.alloc (.cells #[.int .i64 n] 3)).heap.size (w.alloc (.cells #[.int .i64 n] 3)) w1 → Rd w1 b s k e := fun w1 hb => (h.alloc _).below hb (by have := h.lt; simp; omega)
  have h' := h.alloc (.cells #[.int .i64 n] 3)
  by_cases he : e = 0
  · subst he
    by_cases hn : n < 0
    · rw [rq_range hn]
      dsimp only
      have ha := att_quit_str b s k 1 108 #[.pointer (some ⟨w.heap.size, 0, none⟩)] (w.alloc (.cells #[.int .i64 n] 3)) h' cRaw_in (fun w1 hb => by simpa using cRaw_range b w.heap.size s k n w1 (hr w1 hb) (hp w1 hb) hn)
      clear hp hr
      go_enter Tryz.func91, Tryz.ntmps91
      go_wp2_with (go_at_call 107; refine (ha).mono ?_; rintro e w' ⟨rfl, hrd, hch⟩)
      go_ret2
      exact ⟨rfl, hrd, ((Ch.refl _ _).alloc _).trans hch⟩
    · obtain ⟨N, rfl⟩ : ∃ N : Nat, n = (N : Int) := ⟨n.toNat, by omega⟩
      by_cases hl : k + N ≤ s.size
      · rw [rq_ok hl]
        dsimp only
        have ha := att_ok_str b s k (k + N) 108 #[.pointer (some ⟨w.heap.size, 0, none⟩)] _ (w.alloc (.cells #[.int .i64 N] 3)) h' cRaw_in (fun w1 hb => by simpa using cRaw_ok b w.heap.size s k N w1 (hr w1 hb) (hp w1 hb) hl hs)
        clear hp hr
        generalize s.extract k (k + N) = d at ha ⊢
        go_enter Tryz.func91, Tryz.ntmps91
        go_wp2_with (go_at_call 107; refine (ha).mono ?_; rintro e w' ⟨rfl, hrd, hch⟩)
        go_ret2
        exact ⟨rfl, hrd, ((Ch.refl _ _).alloc _).trans hch⟩
      · rw [rq_short hl]
        dsimp only
        have ha := att_quit_str b s k 20 108 #[.pointer (some ⟨w.heap.size, 0, none⟩)] (w.alloc (.cells #[.int .i64 N] 3)) h' cRaw_in (fun w1 hb => by simpa using cRaw_short b w.heap.size s k N w1 (hr w1 hb) (hp w1 hb) hk hs (by omega) (by omega))
        clear hp hr
        go_enter Tryz.func91, Tryz.ntmps91
        go_wp2_with (go_at_call 107; refine (ha).mono ?_; rintro e w' ⟨rfl, hrd, hch⟩)
        go_ret2
        exact ⟨rfl, hrd, ((Ch.refl _ _).alloc _).trans hch⟩
  · rw [rq_stale he]
    dsimp only
    have ha := fun fv => att_stale_str b s k e fv (w.alloc (.cells #[.int .i64 n] 3)) h' he
    clear he hp hr
    go_enter Tryz.func91, Tryz.ntmps91
    go_wp2_with (go_at_call 107; refine (ha _).mono ?_; rintro e w' ⟨rfl, hrd, hch⟩)
    go_ret2
    exact ⟨rfl, hrd, ((Ch.refl _ _).alloc _).trans hch⟩
end Go.Proofs.YtgdaaohlongmlaaGreat
