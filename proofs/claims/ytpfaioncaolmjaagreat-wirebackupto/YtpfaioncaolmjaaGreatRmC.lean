/- What a reader's calls for forms, bytes and texts answer, of whatever bytes, wherever it stands, with or without an error. -/
import Derived.Test.YtpfaioncaolmjaaGreatSays
import Derived.Test.YtpfaioncaolmjaaGreatAttW
import Derived.Test.YtpfaioncaolmjaaGreatAtt2
import Derived.Test.YtpfaioncaolmjaaGreatAttO
namespace Go.Proofs.YtpfaioncaolmjaaGreat
open Go.RowKit
theorem uvarint_in (args : Array Value) (w : World) : (callFunc 94 args).run Tryz.prog w = .ok (.enter 94 args) w := by
  simp [go_sem]
set_option maxHeartbeats 1000000 in
set_option maxRecDepth 20000 in
theorem uvarint_any (b : Nat) (s : ByteArray) (k e : Nat) (w : World) (h : Rd w b s k e) (hk : k ≤ s.size) (hs : s.size ≤ 9223372036854775807) :
    Calls Tryz.prog 54 #[.pointer (some ⟨b, 0, none⟩)] w (Ans b s (.int .u64 (uq s k e).1) (uq s k e).2.1 (uq s k e).2.2 w) := by
  by_cases he : e = 0
  · subst he
    by_cases hl : rde (tl s k) = 0
    · rw [uq_ok hl]
      dsimp only
      have ha := att_ok_u64 b s k (k + rdn (tl s k)) 94 #[] _ w h uvarint_in (fun w1 hb => by simpa using uv_ok b s k w1 (h.below hb h.lt) hk hs hl)
      generalize (rdv (tl s k)) = v at ha ⊢
      generalize k + rdn (tl s k) = K at ha ⊢
      clear hl
      go_enter Tryz.func54, Tryz.ntmps54
      go_wp2_with (go_at_call 61; refine (ha).mono ?_; rintro e w' ⟨rfl, hrd, hch⟩)
      go_ret2
      exact ⟨rfl, hrd, hch⟩
    · rw [uq_bad hl]
      dsimp only
      have ha := att_quit_u64 b s k (rde (tl s k)) 94 #[] w h uvarint_in (fun w1 hb => by simpa using uv_bad b s k w1 (h.below hb h.lt) hk hs hl)
      generalize rde (tl s k) = E at ha ⊢
      clear hl
      go_enter Tryz.func54, Tryz.ntmps54
      go_wp2_with (go_at_call 61; refine (ha).mono ?_; rintro e w' ⟨rfl, hrd, hch⟩)
      go_ret2
      exact ⟨rfl, hrd, hch⟩
  · rw [uq_stale he]
    dsimp only
    have ha := fun fv => att_stale_u64 b s k e fv w h he
    clear he
    · skip
      go_enter Tryz.func54, Tryz.ntmps54
      go_wp2_with (go_at_call 61; refine (ha _).mono ?_; rintro e w' ⟨rfl, hrd, hch⟩)
      go_ret2
      exact ⟨rfl, hrd, hch⟩
theorem varint_in (args : Array Value) (w : World) : (callFunc 95 args).run Tryz.prog w = .ok (.enter 95 args) w := by
  simp [go_sem]
set_option maxHeartbeats 1000000 in
set_option maxRecDepth 20000 in
theorem varint_any (b : Nat) (s : ByteArray) (k e : Nat) (w : World) (h : Rd w b s k e) (hk : k ≤ s.size) (hs : s.size ≤ 9223372036854775807) :
    Calls Tryz.prog 55 #[.pointer (some ⟨b, 0, none⟩)] w (Ans b s (.int .i64 (vq s k e).1) (vq s k e).2.1 (vq s k e).2.2 w) := by
  by_cases he : e = 0
  · subst he
    by_cases hl : rde (tl s k) = 0
    · rw [vq_ok hl]
      dsimp only
      have ha := att_ok_i64 b s k (k + rdn (tl s k)) 95 #[] _ w h varint_in (fun w1 hb => by simpa using vi_ok b s k w1 (h.below hb h.lt) hk hs hl)
      generalize (M.uz (rdv (tl s k))) = v at ha ⊢
      generalize k + rdn (tl s k) = K at ha ⊢
      clear hl
      go_enter Tryz.func55, Tryz.ntmps55
      go_wp2_with (go_at_call 92; refine (ha).mono ?_; rintro e w' ⟨rfl, hrd, hch⟩)
      go_ret2
      exact ⟨rfl, hrd, hch⟩
    · rw [vq_bad hl]
      dsimp only
      have ha := att_quit_i64 b s k (rde (tl s k)) 95 #[] w h varint_in (fun w1 hb => by simpa using vi_bad b s k w1 (h.below hb h.lt) hk hs hl)
      generalize rde (tl s k) = E at ha ⊢
      clear hl
      go_enter Tryz.func55, Tryz.ntmps55
      go_wp2_with (go_at_call 92; refine (ha).mono ?_; rintro e w' ⟨rfl, hrd, hch⟩)
      go_ret2
      exact ⟨rfl, hrd, hch⟩
  · rw [vq_stale he]
    dsimp only
    have ha := fun fv => att_stale_i64 b s k e fv w h he
    clear he
    · skip
      go_enter Tryz.func55, Tryz.ntmps55
      go_wp2_with (go_at_call 92; refine (ha _).mono ?_; rintro e w' ⟨rfl, hrd, hch⟩)
      go_ret2
      exact ⟨rfl, hrd, hch⟩
theorem cRaw_in (args : Array Value) (w : World) : (callFunc 96 args).run Tryz.prog w = .ok (.enter 96 args) w := by
  simp [go_sem]
set_option maxHeartbeats 1000000 in
set_option maxRecDepth 20000 in
theorem cRaw_ok (b p : Nat) (s : ByteArray) (k : Nat) (n : Nat) (w : World) (h : Rd w b s k 0) (hp : w.cell? ⟨p, 0, none⟩ = some (.int .i64 n)) (hk : k + n ≤ s.size) (hs : s.size ≤ 9223372036854775807) :
    Calls Tryz.prog 96 #[.pointer (some ⟨b, 0, none⟩), .pointer (some ⟨p, 0, none⟩)] w (Gets b s (.string (s.extract k (k + n))) (k + n) w) := by
  go_enter Tryz.func96, Tryz.ntmps96
  go_wp2_with (go_at_call 97; refine (raw_ok b s k n w h hk hs).mono ?_; rintro e w' ⟨rfl, hrd, hch⟩)
  go_ret
  exact ⟨rfl, hrd, hch⟩
set_option maxHeartbeats 1000000 in
set_option maxRecDepth 20000 in
theorem cRaw_range (b p : Nat) (s : ByteArray) (k : Nat) (n : Int) (w : World) (h : Rd w b s k 0) (hp : w.cell? ⟨p, 0, none⟩ = some (.int .i64 n)) (hn : n < 0) :
    Calls Tryz.prog 96 #[.pointer (some ⟨b, 0, none⟩), .pointer (some ⟨p, 0, none⟩)] w (Quits b s 1 w) := by
  go_enter Tryz.func96, Tryz.ntmps96
  go_wp2_with (go_at_call 97; refine (raw_range b s k n w h hn).mono ?_; rintro e w' ⟨rfl, hrd, hch⟩)
  exact ⟨rfl, rfl, hrd, hch⟩
set_option maxHeartbeats 1000000 in
set_option maxRecDepth 20000 in
theorem cRaw_short (b p : Nat) (s : ByteArray) (k : Nat) (n : Int) (w : World) (h : Rd w b s k 0) (hp : w.cell? ⟨p, 0, none⟩ = some (.int .i64 n)) (hk : k ≤ s.size) (hs : s.size ≤ 9223372036854775807) (hn : 0 ≤ n) (hn2 : (s.size : Int) - k < n) :
    Calls Tryz.prog 96 #[.pointer (some ⟨b, 0, none⟩), .pointer (some ⟨p, 0, none⟩)] w (Quits b s 20 w) := by
  go_enter Tryz.func96, Tryz.ntmps96
  go_wp2_with (go_at_call 97; refine (raw_short b s k n w h hk hs hn hn2).mono ?_; rintro e w' ⟨rfl, hrd, hch⟩)
  exact ⟨rfl, rfl, hrd, hch⟩
theorem cText_in (args : Array Value) (w : World) : (callFunc 65 args).run Tryz.prog w = .ok (.enter 65 args) w := by
  simp [go_sem]
set_option maxHeartbeats 1000000 in
set_option maxRecDepth 20000 in
theorem cText_bad (b p : Nat) (s : ByteArray) (k : Nat) (n : Int) (w : World) (h : Rd w b s k 0) (hp : w.cell? ⟨p, 0, none⟩ = some (.int .i64 n)) (hk : k ≤ s.size) (hs : s.size ≤ 9223372036854775807) (he : ¬ rde (tl s k) = 0) :
    Calls Tryz.prog 65 #[.pointer (some ⟨b, 0, none⟩), .pointer (some ⟨p, 0, none⟩)] w (Quits b s (rde (tl s k)) w) := by
  go_enter Tryz.func65, Tryz.ntmps65
  go_wp2_with (go_at_call 66; refine (text_bad b s k n w h hk hs he).mono ?_; rintro e w' ⟨rfl, hrd, hch⟩)
  exact ⟨rfl, rfl, hrd, hch⟩
set_option maxHeartbeats 1000000 in
set_option maxRecDepth 20000 in
theorem cText_ok (b p : Nat) (s : ByteArray) (k : Nat) (n : Int) (w : World) (h : Rd w b s k 0) (hp : w.cell? ⟨p, 0, none⟩ = some (.int .i64 n)) (hk : k ≤ s.size) (hs : s.size ≤ 9223372036854775807) (hm1 : -9223372036854775808 ≤ n) (hm2 : n ≤ 9223372036854775807) (he : rde (tl s k) = 0) (h1 : (rdv (tl s k) : Int) ≤ n ∨ rdv (tl s k) = 0) (h2 : k + rdn (tl s k) + rdv (tl s k) ≤ s.size) :
    Calls Tryz.prog 65 #[.pointer (some ⟨b, 0, none⟩), .pointer (some ⟨p, 0, none⟩)] w (Gets b s (.string (s.extract (k + rdn (tl s k)) (k + rdn (tl s k) + rdv (tl s k)))) (k + rdn (tl s k) + rdv (tl s k)) w) := by
  go_enter Tryz.func65, Tryz.ntmps65
  go_wp2_with (go_at_call 66; refine (text_ok b s k n w h hk hs hm1 hm2 he h1 h2).mono ?_; rintro e w' ⟨rfl, hrd, hch⟩)
  go_ret
  exact ⟨rfl, hrd, hch⟩
set_option maxHeartbeats 1000000 in
set_option maxRecDepth 20000 in
theorem cText_long1 (b p : Nat) (s : ByteArray) (k : Nat) (n : Int) (w : World) (h : Rd w b s k 0) (hp : w.cell? ⟨p, 0, none⟩ = some (.int .i64 n)) (hk : k ≤ s.size) (hs : s.size ≤ 9223372036854775807) (hm1 : -9223372036854775808 ≤ n) (hm2 : n ≤ 9223372036854775807) (he : rde (tl s k) = 0) (h1 : n < (rdv (tl s k) : Int)) (h2 : 0 < rdv (tl s k)) :
    Calls Tryz.prog 65 #[.pointer (some ⟨b, 0, none⟩), .pointer (some ⟨p, 0, none⟩)] w (Quits b s 21 w) := by
  go_enter Tryz.func65, Tryz.ntmps65
  go_wp2_with (go_at_call 66; refine (text_long1 b s k n w h hk hs hm1 hm2 he h1 h2).mono ?_; rintro e w' ⟨rfl, hrd, hch⟩)
  exact ⟨rfl, rfl, hrd, hch⟩
set_option maxHeartbeats 1000000 in
set_option maxRecDepth 20000 in
theorem cText_long2 (b p : Nat) (s : ByteArray) (k : Nat) (n : Int) (w : World) (h : Rd w b s k 0) (hp : w.cell? ⟨p, 0, none⟩ = some (.int .i64 n)) (hk : k ≤ s.size) (hs : s.size ≤ 9223372036854775807) (hm1 : -9223372036854775808 ≤ n) (hm2 : n ≤ 9223372036854775807) (he : rde (tl s k) = 0) (h1 : (rdv (tl s k) : Int) ≤ n ∨ rdv (tl s k) = 0) (h2 : s.size < k + rdn (tl s k) + rdv (tl s k)) :
    Calls Tryz.prog 65 #[.pointer (some ⟨b, 0, none⟩), .pointer (some ⟨p, 0, none⟩)] w (Quits b s 21 w) := by
  go_enter Tryz.func65, Tryz.ntmps65
  go_wp2_with (go_at_call 66; refine (text_long2 b s k n w h hk hs hm1 hm2 he h1 h2).mono ?_; rintro e w' ⟨rfl, hrd, hch⟩)
  exact ⟨rfl, rfl, hrd, hch⟩
theorem newreader_any (s : ByteArray) (w : World) :
    Calls Tryz.prog 11 #[.string s] w fun e w' => e = .returned (.pointer (some ⟨w.heap.size, 0, none⟩)) ∧ w' = w.alloc (.cells #[.int .i64 0, .string s, .int .i64 0] 56) := by
  go_enter Tryz.func11, Tryz.ntmps11
  go_wp2
  go_ret
  exact ⟨rfl, rfl⟩
theorem rat_any (b : Nat) (s : ByteArray) (k e : Nat) (w : World) (h : Rd w b s k e) :
    Calls Tryz.prog 15 #[.pointer (some ⟨b, 0, none⟩)] w fun e w' => e = .returned (.int .i64 k) ∧ w' = w := by
  have c0 := h.c0
  go_enter Tryz.func15, Tryz.ntmps15
  go_wp2_with (first
    | (go_at_call 58; refine (source_some b _).mono ?_; rintro e w' ⟨rfl, rfl⟩)
    | (go_at_call 60; refine (at_any b k _ c0).mono ?_; rintro e w' ⟨rfl, rfl⟩))
  go_ret
  exact ⟨rfl, rfl⟩
theorem rleft_any (b : Nat) (s : ByteArray) (k e : Nat) (w : World) (h : Rd w b s k e) (hk : k ≤ s.size) (hs : s.size ≤ 9223372036854775807) :
    Calls Tryz.prog 14 #[.pointer (some ⟨b, 0, none⟩)] w fun e w' => e = .returned (.int .i64 ((s.size : Int) - k)) ∧ ∃ n, w' = w.drewN n := by
  go_enter Tryz.func14, Tryz.ntmps14
  go_wp2_with (first
    | (go_at_call 58; refine (source_some b _).mono ?_; rintro e w' ⟨rfl, rfl⟩)
    | (go_at_call 59; refine (left_any b s k e _ h hk hs).mono ?_; rintro e w' ⟨rfl, n1, rfl⟩))
  go_ret
  exact ⟨rfl, _, rfl⟩
theorem rerr_any (b : Nat) (s : ByteArray) (k e : Nat) (w : World) (h : Rd w b s k e) :
    Calls Tryz.prog 16 #[.pointer (some ⟨b, 0, none⟩)] w fun r w' => r = .returned (.int .i64 e) ∧ w' = w := by
  have c0 := h.c2
  go_enter Tryz.func16, Tryz.ntmps16
  go_wp2_with (go_at_call 58; refine (source_some b _).mono ?_; rintro e w' ⟨rfl, rfl⟩)
  go_ret
  exact ⟨rfl, rfl⟩
/-- What Done answers. -/
def dq (s : ByteArray) (k e : Nat) : Nat := if e = 0 ∧ k < s.size then 22 else e
set_option maxHeartbeats 1000000 in
theorem rdone_any (b : Nat) (s : ByteArray) (k e : Nat) (w : World) (h : Rd w b s k e) (hk : k ≤ s.size) (hs : s.size ≤ 9223372036854775807) :
    Calls Tryz.prog 13 #[.pointer (some ⟨b, 0, none⟩)] w fun r w' => r = .returned (.int .i64 (dq s k e)) ∧ ∃ n, w' = w.drewN n := by
  have c2 := h.c2
  by_cases he : e = 0
  · subst he
    by_cases hl : k < s.size
    · have hd : dq s k 0 = 22 := by unfold dq; rw [if_pos ⟨rfl, hl⟩]
      rw [hd]
      clear hd
      go_enter Tryz.func13, Tryz.ntmps13
      go_wp2_with (first
        | (go_at_call 58; refine (source_some b _).mono ?_; rintro e w' ⟨rfl, rfl⟩)
        | (go_at_call 59; refine (left_any b s k 0 _ h hk hs).mono ?_; rintro e w' ⟨rfl, n1, rfl⟩))
      go_ret
      exact ⟨rfl, _, rfl⟩
    · have hd : dq s k 0 = 0 := by unfold dq; rw [if_neg (by omega)]
      rw [hd]
      clear hd
      go_enter Tryz.func13, Tryz.ntmps13
      go_wp2_with (first
        | (go_at_call 58; refine (source_some b _).mono ?_; rintro e w' ⟨rfl, rfl⟩)
        | (go_at_call 59; refine (left_any b s k 0 _ h hk hs).mono ?_; rintro e w' ⟨rfl, n1, rfl⟩))
      go_ret
      exact ⟨rfl, _, rfl⟩
  · have hd : dq s k e = e := by unfold dq; rw [if_neg (by omega)]
    have hne : ((e : Int) == 0) = false := by rw [beq_eq_false_iff_ne]; omega
    rw [hd]
    clear hd he
    go_enter Tryz.func13, Tryz.ntmps13
    go_wp2_with (first
      | (go_at_call 58; refine (source_some b _).mono ?_; rintro e w' ⟨rfl, rfl⟩))
    go_ret
    exact ⟨rfl, 0, rfl⟩
end Go.Proofs.YtpfaioncaolmjaaGreat
