/- What a reader's calls for bytes and texts answer, of whatever bytes, wherever it stands, with or without an error. -/
import Derived.Test.YtpfaioncaolmjaaGreatRmC
namespace Go.Proofs.YtpfaioncaolmjaaGreat
open Go.RowKit
set_option maxHeartbeats 1000000 in
set_option maxRecDepth 20000 in
theorem rraw_any (b : Nat) (s : ByteArray) (k e : Nat) (n : Int) (w : World) (h : Rd w b s k e) (hk : k ≤ s.size) (hs : s.size ≤ 9223372036854775807) (hm1 : -9223372036854775808 ≤ n) (hm2 : n ≤ 9223372036854775807) :
    Calls Tryz.prog 56 #[.pointer (some ⟨b, 0, none⟩), .int .i64 n] w (Ans b s (.string (rq n s k e).1) (rq n s k e).2.1 (rq n s k e).2.2 w) := by
  have hmf : ∀ (fn : Fn) (first cap : Array Value) (w : World), (Instr.makeFunc fn first cap).run Tryz.prog w = .ok (.func fn first cap) w := fun _ _ _ _ => rfl
  have hp : ∀ w1, Below (w.alloc (.cells #[.int .i64 n] 3)).heap.size (w.alloc (.cells #[.int .i64 n] 3)) w1 → w1.cell? ⟨w.heap.size, 0, none⟩ = some (.int .i64 n) := fun w1 hb => ((hb.cell (p := ⟨w.heap.size, 0, none⟩) (by simp)).trans (cell_of (heap_new _ _))).trans rfl
  have hr : ∀ w1, Below (w.alloc (.cells #[.int .i64 n] 3)).heap.size (w.alloc (.cells #[.int .i64 n] 3)) w1 → Rd w1 b s k e := fun w1 hb => (h.alloc _).below hb (by have := h.lt; simp; omega)
  have h' := h.alloc (.cells #[.int .i64 n] 3)
  by_cases he : e = 0
  · subst he
    by_cases hn : n < 0
    · rw [rq_range hn]
      dsimp only
      have ha := att_quit_str b s k 1 96 #[.pointer (some ⟨w.heap.size, 0, none⟩)] (w.alloc (.cells #[.int .i64 n] 3)) h' cRaw_in (fun w1 hb => by simpa using cRaw_range b w.heap.size s k n w1 (hr w1 hb) (hp w1 hb) hn)
      clear hp hr
      go_enter Tryz.func56, Tryz.ntmps56
      go_wp2_with (go_at_call 64; refine (ha).mono ?_; rintro e w' ⟨rfl, hrd, hch⟩)
      go_ret2
      exact ⟨rfl, hrd, ((Ch.refl _ _).alloc _).trans hch⟩
    · obtain ⟨N, rfl⟩ : ∃ N : Nat, n = (N : Int) := ⟨n.toNat, by omega⟩
      by_cases hl : k + N ≤ s.size
      · rw [rq_ok hl]
        dsimp only
        have ha := att_ok_str b s k (k + N) 96 #[.pointer (some ⟨w.heap.size, 0, none⟩)] _ (w.alloc (.cells #[.int .i64 N] 3)) h' cRaw_in (fun w1 hb => by simpa using cRaw_ok b w.heap.size s k N w1 (hr w1 hb) (hp w1 hb) hl hs)
        clear hp hr
        generalize s.extract k (k + N) = d at ha ⊢
        go_enter Tryz.func56, Tryz.ntmps56
        go_wp2_with (go_at_call 64; refine (ha).mono ?_; rintro e w' ⟨rfl, hrd, hch⟩)
        go_ret2
        exact ⟨rfl, hrd, ((Ch.refl _ _).alloc _).trans hch⟩
      · rw [rq_short hl]
        dsimp only
        have ha := att_quit_str b s k 20 96 #[.pointer (some ⟨w.heap.size, 0, none⟩)] (w.alloc (.cells #[.int .i64 N] 3)) h' cRaw_in (fun w1 hb => by simpa using cRaw_short b w.heap.size s k N w1 (hr w1 hb) (hp w1 hb) hk hs (by omega) (by omega))
        clear hp hr
        go_enter Tryz.func56, Tryz.ntmps56
        go_wp2_with (go_at_call 64; refine (ha).mono ?_; rintro e w' ⟨rfl, hrd, hch⟩)
        go_ret2
        exact ⟨rfl, hrd, ((Ch.refl _ _).alloc _).trans hch⟩
  · rw [rq_stale he]
    dsimp only
    have ha := fun fv => att_stale_str b s k e fv (w.alloc (.cells #[.int .i64 n] 3)) h' he
    clear he hp hr
    go_enter Tryz.func56, Tryz.ntmps56
    go_wp2_with (go_at_call 64; refine (ha _).mono ?_; rintro e w' ⟨rfl, hrd, hch⟩)
    go_ret2
    exact ⟨rfl, hrd, ((Ch.refl _ _).alloc _).trans hch⟩
set_option maxHeartbeats 1000000 in
set_option maxRecDepth 20000 in
theorem rtext_any (b : Nat) (s : ByteArray) (k e : Nat) (n : Int) (w : World) (h : Rd w b s k e) (hk : k ≤ s.size) (hs : s.size ≤ 9223372036854775807) (hm1 : -9223372036854775808 ≤ n) (hm2 : n ≤ 9223372036854775807) :
    Calls Tryz.prog 18 #[.pointer (some ⟨b, 0, none⟩), .int .i64 n] w (Ans b s (.string (tq n s k e).1) (tq n s k e).2.1 (tq n s k e).2.2 w) := by
  have hmf : ∀ (fn : Fn) (first cap : Array Value) (w : World), (Instr.makeFunc fn first cap).run Tryz.prog w = .ok (.func fn first cap) w := fun _ _ _ _ => rfl
  have hp : ∀ w1, Below (w.alloc (.cells #[.int .i64 n] 3)).heap.size (w.alloc (.cells #[.int .i64 n] 3)) w1 → w1.cell? ⟨w.heap.size, 0, none⟩ = some (.int .i64 n) := fun w1 hb => ((hb.cell (p := ⟨w.heap.size, 0, none⟩) (by simp)).trans (cell_of (heap_new _ _))).trans rfl
  have hr : ∀ w1, Below (w.alloc (.cells #[.int .i64 n] 3)).heap.size (w.alloc (.cells #[.int .i64 n] 3)) w1 → Rd w1 b s k e := fun w1 hb => (h.alloc _).below hb (by have := h.lt; simp; omega)
  have h' := h.alloc (.cells #[.int .i64 n] 3)
  by_cases he : e = 0
  · subst he
    by_cases hl : rde (tl s k) = 0
    · by_cases hx : ((rdv (tl s k) : Int) ≤ n ∨ rdv (tl s k) = 0) ∧ k + rdn (tl s k) + rdv (tl s k) ≤ s.size
      · rw [tq_ok hl hx]
        dsimp only
        have ha := att_ok_str b s k _ 65 #[.pointer (some ⟨w.heap.size, 0, none⟩)] _ (w.alloc (.cells #[.int .i64 n] 3)) h' cText_in (fun w1 hb => by simpa using cText_ok b w.heap.size s k n w1 (hr w1 hb) (hp w1 hb) hk hs hm1 hm2 hl hx.1 hx.2)
        clear hp hr hx hl
        generalize s.extract (k + rdn (tl s k)) (k + rdn (tl s k) + rdv (tl s k)) = d at ha ⊢
        generalize k + rdn (tl s k) + rdv (tl s k) = K at ha ⊢
        go_enter Tryz.func18, Tryz.ntmps18
        go_wp2_with (go_at_call 64; refine (ha).mono ?_; rintro e w' ⟨rfl, hrd, hch⟩)
        go_ret2
        exact ⟨rfl, hrd, ((Ch.refl _ _).alloc _).trans hch⟩
      · rw [tq_long hl hx]
        dsimp only
        have ha := att_quit_str b s k 21 65 #[.pointer (some ⟨w.heap.size, 0, none⟩)] (w.alloc (.cells #[.int .i64 n] 3)) h' cText_in (fun w1 hb => by
          by_cases h1 : (rdv (tl s k) : Int) ≤ n ∨ rdv (tl s k) = 0
          · simpa using cText_long2 b w.heap.size s k n w1 (hr w1 hb) (hp w1 hb) hk hs hm1 hm2 hl h1 (by omega)
          · simpa using cText_long1 b w.heap.size s k n w1 (hr w1 hb) (hp w1 hb) hk hs hm1 hm2 hl (by omega) (by omega))
        clear hp hr hx hl
        go_enter Tryz.func18, Tryz.ntmps18
        go_wp2_with (go_at_call 64; refine (ha).mono ?_; rintro e w' ⟨rfl, hrd, hch⟩)
        go_ret2
        exact ⟨rfl, hrd, ((Ch.refl _ _).alloc _).trans hch⟩
    · rw [tq_bad hl]
      dsimp only
      have ha := att_quit_str b s k _ 65 #[.pointer (some ⟨w.heap.size, 0, none⟩)] (w.alloc (.cells #[.int .i64 n] 3)) h' cText_in (fun w1 hb => by simpa using cText_bad b w.heap.size s k n w1 (hr w1 hb) (hp w1 hb) hk hs hl)
      clear hp hr hl
      generalize rde (tl s k) = E at ha ⊢
      go_enter Tryz.func18, Tryz.ntmps18
      go_wp2_with (go_at_call 64; refine (ha).mono ?_; rintro e w' ⟨rfl, hrd, hch⟩)
      go_ret2
      exact ⟨rfl, hrd, ((Ch.refl _ _).alloc _).trans hch⟩
  · rw [tq_stale he]
    dsimp only
    have ha := fun fv => att_stale_str b s k e fv (w.alloc (.cells #[.int .i64 n] 3)) h' he
    clear he hp hr
    go_enter Tryz.func18, Tryz.ntmps18
    go_wp2_with (go_at_call 64; refine (ha _).mono ?_; rintro e w' ⟨rfl, hrd, hch⟩)
    go_ret2
    exact ⟨rfl, hrd, ((Ch.refl _ _).alloc _).trans hch⟩
end Go.Proofs.YtpfaioncaolmjaaGreat
