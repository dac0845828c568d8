/- What a reader's call for a part answers: a reader of its own over the next bytes, or an error. -/
import Derived.Test.YtpfaioncaolmjaaGreatRmC
import Derived.Test.YtpfaioncaolmjaaGreatAttR
namespace Go.Proofs.YtpfaioncaolmjaaGreat
open Go.RowKit
theorem cPart_in (args : Array Value) (w : World) : (callFunc 114 args).run Tryz.prog w = .ok (.enter 114 args) w := by
  simp [go_sem]
set_option maxHeartbeats 1000000 in
set_option maxRecDepth 20000 in
theorem cPart_ok (b p : Nat) (s : ByteArray) (k : Nat) (n : Nat) (w : World) (h : Rd w b s k 0) (hp : w.cell? ⟨p, 0, none⟩ = some (.int .i64 n)) (hk : k + n ≤ s.size) (hs : s.size ≤ 9223372036854775807) :
    Calls Tryz.prog 114 #[.pointer (some ⟨b, 0, none⟩), .pointer (some ⟨p, 0, none⟩)] w (fun e w2 => ∃ q, w.heap.size ≤ q ∧ e = .returned (.pointer (some ⟨q, 0, none⟩)) ∧ Rd w2 q (s.extract k (k + n)) 0 0 ∧ Rd w2 b s (k + n) 0 ∧ Ch (fun i => i = b) w w2) := by
  go_enter Tryz.func114, Tryz.ntmps114
  go_wp2_with (first
    | (go_at_call 97; refine (raw_ok b s k n w h hk hs).mono ?_; rintro e w1 ⟨rfl, hrd, hch⟩)
    | (go_at_call 11; refine (newreader_any _ _).mono ?_; rintro e w2 ⟨rfl, rfl⟩))
  go_ret
  exact ⟨w1.heap.size, hch.size, rfl, heap_new _ _, hrd.alloc _, hch.alloc _⟩
set_option maxHeartbeats 1000000 in
set_option maxRecDepth 20000 in
theorem cPart_range (b p : Nat) (s : ByteArray) (k : Nat) (n : Int) (w : World) (h : Rd w b s k 0) (hp : w.cell? ⟨p, 0, none⟩ = some (.int .i64 n)) (hn : n < 0) :
    Calls Tryz.prog 114 #[.pointer (some ⟨b, 0, none⟩), .pointer (some ⟨p, 0, none⟩)] w (Quits b s 1 w) := by
  go_enter Tryz.func114, Tryz.ntmps114
  go_wp2_with (go_at_call 97; refine (raw_range b s k n w h hn).mono ?_; rintro e w1 ⟨rfl, hrd, hch⟩)
  exact ⟨rfl, rfl, hrd, hch⟩
set_option maxHeartbeats 1000000 in
set_option maxRecDepth 20000 in
theorem cPart_short (b p : Nat) (s : ByteArray) (k : Nat) (n : Int) (w : World) (h : Rd w b s k 0) (hp : w.cell? ⟨p, 0, none⟩ = some (.int .i64 n)) (hk : k ≤ s.size) (hs : s.size ≤ 9223372036854775807) (hn : 0 ≤ n) (hn2 : (s.size : Int) - k < n) :
    Calls Tryz.prog 114 #[.pointer (some ⟨b, 0, none⟩), .pointer (some ⟨p, 0, none⟩)] w (Quits b s 20 w) := by
  go_enter Tryz.func114, Tryz.ntmps114
  go_wp2_with (go_at_call 97; refine (raw_short b s k n w h hk hs hn hn2).mono ?_; rintro e w1 ⟨rfl, hrd, hch⟩)
  exact ⟨rfl, rfl, hrd, hch⟩
set_option maxHeartbeats 1000000 in
set_option maxRecDepth 20000 in
theorem rpart_no (b : Nat) (s : ByteArray) (k e : Nat) (n : Int) (w : World) (h : Rd w b s k e) (hk : k ≤ s.size) (hs : s.size ≤ 9223372036854775807) (hm1 : -9223372036854775808 ≤ n) (hm2 : n ≤ 9223372036854775807) (hne : (rq n s k e).2.2 ≠ 0) :
    Calls Tryz.prog 72 #[.pointer (some ⟨b, 0, none⟩), .int .i64 n] w (Ans b s (.pointer none) (rq n s k e).2.1 (rq n s k e).2.2 w) := by
  have hmf : ∀ (fn : Fn) (first cap : Array Value) (w : World), (Instr.makeFunc fn first cap).run Tryz.prog w = .ok (.func fn first cap) w := fun _ _ _ _ => rfl
  have hp : ∀ w1, Below (w.alloc (.cells #[.int .i64 n] 3)).heap.size (w.alloc (.cells #[.int .i64 n] 3)) w1 → w1.cell? ⟨w.heap.size, 0, none⟩ = some (.int .i64 n) := fun w1 hb => ((hb.cell (p := ⟨w.heap.size, 0, none⟩) (by simp)).trans (cell_of (heap_new _ _))).trans rfl
  have hr : ∀ w1, Below (w.alloc (.cells #[.int .i64 n] 3)).heap.size (w.alloc (.cells #[.int .i64 n] 3)) w1 → Rd w1 b s k e := fun w1 hb => (h.alloc _).below hb (by have := h.lt; simp; omega)
  have h' := h.alloc (.cells #[.int .i64 n] 3)
  by_cases he : e = 0
  · subst he
    by_cases hn : n < 0
    · rw [rq_range hn]
      dsimp only
      have ha := att_quit_rdr b s k 1 114 #[.pointer (some ⟨w.heap.size, 0, none⟩)] (w.alloc (.cells #[.int .i64 n] 3)) h' cPart_in (fun w1 hb => by simpa using cPart_range b w.heap.size s k n w1 (hr w1 hb) (hp w1 hb) hn)
      clear hp hr hne
      go_enter Tryz.func72, Tryz.ntmps72
      go_wp2_with (go_at_call 113; refine (ha).mono ?_; rintro e w' ⟨rfl, hrd, hch⟩)
      go_ret2
      exact ⟨rfl, hrd, ((Ch.refl _ _).alloc _).trans hch⟩
    · obtain ⟨N, rfl⟩ : ∃ N : Nat, n = (N : Int) := ⟨n.toNat, by omega⟩
      by_cases hl : k + N ≤ s.size
      · rw [rq_ok hl] at hne
        exact absurd rfl hne
      · rw [rq_short hl]
        dsimp only
        have ha := att_quit_rdr b s k 20 114 #[.pointer (some ⟨w.heap.size, 0, none⟩)] (w.alloc (.cells #[.int .i64 N] 3)) h' cPart_in (fun w1 hb => by simpa using cPart_short b w.heap.size s k N w1 (hr w1 hb) (hp w1 hb) hk hs (by omega) (by omega))
        clear hp hr hne
        go_enter Tryz.func72, Tryz.ntmps72
        go_wp2_with (go_at_call 113; refine (ha).mono ?_; rintro e w' ⟨rfl, hrd, hch⟩)
        go_ret2
        exact ⟨rfl, hrd, ((Ch.refl _ _).alloc _).trans hch⟩
  · rw [rq_stale he]
    dsimp only
    have ha := fun fv => att_stale_rdr b s k e fv (w.alloc (.cells #[.int .i64 n] 3)) h' he
    clear he hp hr hne
    go_enter Tryz.func72, Tryz.ntmps72
    go_wp2_with (go_at_call 113; refine (ha _).mono ?_; rintro e w' ⟨rfl, hrd, hch⟩)
    go_ret2
    exact ⟨rfl, hrd, ((Ch.refl _ _).alloc _).trans hch⟩
set_option maxHeartbeats 1000000 in
set_option maxRecDepth 20000 in
theorem rpart_ok (b : Nat) (s : ByteArray) (k : Nat) (n : Int) (w : World) (h : Rd w b s k 0) (hs : s.size ≤ 9223372036854775807) (hm1 : -9223372036854775808 ≤ n) (hm2 : n ≤ 9223372036854775807) (hne : (rq n s k 0).2.2 = 0) :
    Calls Tryz.prog 72 #[.pointer (some ⟨b, 0, none⟩), .int .i64 n] w (fun e w' => ∃ q, w.heap.size ≤ q ∧ e = .returned (.tuple #[.pointer (some ⟨q, 0, none⟩), .int .i64 0]) ∧ Rd w' q (rq n s k 0).1 0 0 ∧ Rd w' b s (rq n s k 0).2.1 0 ∧ Ch (fun i => i = b) w w') := by
  have hmf : ∀ (fn : Fn) (first cap : Array Value) (w : World), (Instr.makeFunc fn first cap).run Tryz.prog w = .ok (.func fn first cap) w := fun _ _ _ _ => rfl
  have hp : ∀ w1, Below (w.alloc (.cells #[.int .i64 n] 3)).heap.size (w.alloc (.cells #[.int .i64 n] 3)) w1 → w1.cell? ⟨w.heap.size, 0, none⟩ = some (.int .i64 n) := fun w1 hb => ((hb.cell (p := ⟨w.heap.size, 0, none⟩) (by simp)).trans (cell_of (heap_new _ _))).trans rfl
  have hr : ∀ w1, Below (w.alloc (.cells #[.int .i64 n] 3)).heap.size (w.alloc (.cells #[.int .i64 n] 3)) w1 → Rd w1 b s k 0 := fun w1 hb => (h.alloc _).below hb (by have := h.lt; simp; omega)
  have h' := h.alloc (.cells #[.int .i64 n] 3)
  by_cases hn : n < 0
  · rw [rq_range hn] at hne
    exact absurd hne (by simp)
  · obtain ⟨N, rfl⟩ : ∃ N : Nat, n = (N : Int) := ⟨n.toNat, by omega⟩
    by_cases hl : k + N ≤ s.size
    · rw [rq_ok hl]
      dsimp only
      have ha := att_ok_rdr b s (s.extract k (k + N)) k (k + N) 114 #[.pointer (some ⟨w.heap.size, 0, none⟩)] (w.alloc (.cells #[.int .i64 N] 3)) h' cPart_in (fun w1 hb => by simpa using cPart_ok b w.heap.size s k N w1 (hr w1 hb) (hp w1 hb) hl hs)
      clear hp hr hne
      generalize s.extract k (k + N) = d at ha ⊢
      go_enter Tryz.func72, Tryz.ntmps72
      go_wp2_with (go_at_call 113; refine ha.mono ?_; rintro e w' ⟨q, hq, rfl, hrq, hrd, hch⟩)
      go_ret2
      exact ⟨q, by simp at hq; omega, rfl, hrq, hrd, ((Ch.refl _ _).alloc _).trans hch⟩
    · rw [rq_short hl] at hne
      exact absurd hne (by simp)
end Go.Proofs.YtpfaioncaolmjaaGreat
