/- What a reader's calls for forms, bytes and texts answer, of whatever bytes, wherever it stands, with or without an error. -/
import Derived.Test.YtihokphamgkkcaaGreatSays
import Derived.Test.YtihokphamgkkcaaGreatAttW
import Derived.Test.YtihokphamgkkcaaGreatAtt2
import Derived.Test.YtihokphamgkkcaaGreatAttO
namespace Go.Proofs.YtihokphamgkkcaaGreat
open Go.RowKit
theorem uvarint_in (args : Array Value) (w : World) : (callFunc 197 args).run Tryz.prog w = .ok (.enter 197 args) w := by
  simp [go_sem]
set_option maxHeartbeats 1000000 in
set_option maxRecDepth 20000 in
theorem uvarint_any (b : Nat) (s : ByteArray) (k e : Nat) (w : World) (h : Rd w b s k e) (hk : k ≤ s.size) (hs : s.size ≤ 9223372036854775807) :
    Calls Tryz.prog 160 #[.pointer (some ⟨b, 0, none⟩)] w (Ans b s (.int .u64 (uq s k e).1) (uq s k e).2.1 (uq s k e).2.2 w) := by
  by_cases he : e = 0
  · subst he
    by_cases hl : rde (tl s k) = 0
    · rw [uq_ok hl]
      dsimp only
      have ha := att_ok_u64 b s k (k + rdn (tl s k)) 197 #[] _ w h uvarint_in (fun w1 hb => by simpa using uv_ok b s k w1 (h.below hb h.lt) hk hs hl)
      generalize (rdv (tl s k)) = v at ha ⊢
      generalize k + rdn (tl s k) = K at ha ⊢
      clear hl
      go_enter Tryz.func160, Tryz.ntmps160
      go_wp2_with (go_at_call 196; refine (ha).mono ?_; rintro e w' ⟨rfl, hrd, hch⟩)
      go_ret2
      exact ⟨rfl, hrd, hch⟩
    · rw [uq_bad hl]
      dsimp only
      have ha := att_quit_u64 b s k (rde (tl s k)) 197 #[] w h uvarint_in (fun w1 hb => by simpa using uv_bad b s k w1 (h.below hb h.lt) hk hs hl)
      generalize rde (tl s k) = E at ha ⊢
      clear hl
      go_enter Tryz.func160, Tryz.ntmps160
      go_wp2_with (go_at_call 196; refine (ha).mono ?_; rintro e w' ⟨rfl, hrd, hch⟩)
      go_ret2
      exact ⟨rfl, hrd, hch⟩
  · rw [uq_stale he]
    dsimp only
    have ha := fun fv => att_stale_u64 b s k e fv w h he
    clear he
    · skip
      go_enter Tryz.func160, Tryz.ntmps160
      go_wp2_with (go_at_call 196; refine (ha _).mono ?_; rintro e w' ⟨rfl, hrd, hch⟩)
      go_ret2
      exact ⟨rfl, hrd, hch⟩
theorem varint_in (args : Array Value) (w : World) : (callFunc 200 args).run Tryz.prog w = .ok (.enter 200 args) w := by
  simp [go_sem]
set_option maxHeartbeats 1000000 in
set_option maxRecDepth 20000 in
theorem varint_any (b : Nat) (s : ByteArray) (k e : Nat) (w : World) (h : Rd w b s k e) (hk : k ≤ s.size) (hs : s.size ≤ 9223372036854775807) :
    Calls Tryz.prog 162 #[.pointer (some ⟨b, 0, none⟩)] w (Ans b s (.int .i64 (vq s k e).1) (vq s k e).2.1 (vq s k e).2.2 w) := by
  by_cases he : e = 0
  · subst he
    by_cases hl : rde (tl s k) = 0
    · rw [vq_ok hl]
      dsimp only
      have ha := att_ok_i64 b s k (k + rdn (tl s k)) 200 #[] _ w h varint_in (fun w1 hb => by simpa using vi_ok b s k w1 (h.below hb h.lt) hk hs hl)
      generalize (M.uz (rdv (tl s k))) = v at ha ⊢
      generalize k + rdn (tl s k) = K at ha ⊢
      clear hl
      go_enter Tryz.func162, Tryz.ntmps162
      go_wp2_with (go_at_call 137; refine (ha).mono ?_; rintro e w' ⟨rfl, hrd, hch⟩)
      go_ret2
      exact ⟨rfl, hrd, hch⟩
    · rw [vq_bad hl]
      dsimp only
      have ha := att_quit_i64 b s k (rde (tl s k)) 200 #[] w h varint_in (fun w1 hb => by simpa using vi_bad b s k w1 (h.below hb h.lt) hk hs hl)
      generalize rde (tl s k) = E at ha ⊢
      clear hl
      go_enter Tryz.func162, Tryz.ntmps162
      go_wp2_with (go_at_call 137; refine (ha).mono ?_; rintro e w' ⟨rfl, hrd, hch⟩)
      go_ret2
      exact ⟨rfl, hrd, hch⟩
  · rw [vq_stale he]
    dsimp only
    have ha := fun fv => att_stale_i64 b s k e fv w h he
    clear he
    · skip
      go_enter Tryz.func162, Tryz.ntmps162
      go_wp2_with (go_at_call 137; refine (ha _).mono ?_; rintro e w' ⟨rfl, hrd, hch⟩)
      go_ret2
      exact ⟨rfl, hrd, hch⟩
theorem cText_in (args : Array Value) (w : World) : (callFunc 224 args).run Tryz.prog w = .ok (.enter 224 args) w := by
  simp [go_sem]
set_option maxHeartbeats 1000000 in
set_option maxRecDepth 20000 in
theorem cText_bad (b p : Nat) (s : ByteArray) (k : Nat) (n : Int) (w : World) (h : Rd w b s k 0) (hp : w.cell? ⟨p, 0, none⟩ = some (.int .i64 n)) (hk : k ≤ s.size) (hs : s.size ≤ 9223372036854775807) (he : ¬ rde (tl s k) = 0) :
    Calls Tryz.prog 224 #[.pointer (some ⟨b, 0, none⟩), .pointer (some ⟨p, 0, none⟩)] w (Quits b s (rde (tl s k)) w) := by
  go_enter Tryz.func224, Tryz.ntmps224
  go_wp2_with (go_at_call 225; refine (text_bad b s k n w h hk hs he).mono ?_; rintro e w' ⟨rfl, hrd, hch⟩)
  exact ⟨rfl, rfl, hrd, hch⟩
set_option maxHeartbeats 1000000 in
set_option maxRecDepth 20000 in
theorem cText_ok (b p : Nat) (s : ByteArray) (k : Nat) (n : Int) (w : World) (h : Rd w b s k 0) (hp : w.cell? ⟨p, 0, none⟩ = some (.int .i64 n)) (hk : k ≤ s.size) (hs : s.size ≤ 9223372036854775807) (hm1 : -9223372036854775808 ≤ n) (hm2 : n ≤ 9223372036854775807) (he : rde (tl s k) = 0) (h1 : (rdv (tl s k) : Int) ≤ n ∨ rdv (tl s k) = 0) (h2 : k + rdn (tl s k) + rdv (tl s k) ≤ s.size) :
    Calls Tryz.prog 224 #[.pointer (some ⟨b, 0, none⟩), .pointer (some ⟨p, 0, none⟩)] w (Gets b s (.string (s.extract (k + rdn (tl s k)) (k + rdn (tl s k) + rdv (tl s k)))) (k + rdn (tl s k) + rdv (tl s k)) w) := by
  go_enter Tryz.func224, Tryz.ntmps224
  go_wp2_with (go_at_call 225; refine (text_ok b s k n w h hk hs hm1 hm2 he h1 h2).mono ?_; rintro e w' ⟨rfl, hrd, hch⟩)
  go_ret
  exact ⟨rfl, hrd, hch⟩
set_option maxHeartbeats 1000000 in
set_option maxRecDepth 20000 in
theorem cText_long1 (b p : Nat) (s : ByteArray) (k : Nat) (n : Int) (w : World) (h : Rd w b s k 0) (hp : w.cell? ⟨p, 0, none⟩ = some (.int .i64 n)) (hk : k ≤ s.size) (hs : s.size ≤ 9223372036854775807) (hm1 : -9223372036854775808 ≤ n) (hm2 : n ≤ 9223372036854775807) (he : rde (tl s k) = 0) (h1 : n < (rdv (tl s k) : Int)) (h2 : 0 < rdv (tl s k)) :
    Calls Tryz.prog 224 #[.pointer (some ⟨b, 0, none⟩), .pointer (some ⟨p, 0, none⟩)] w (Quits b s 21 w) := by
  go_enter Tryz.func224, Tryz.ntmps224
  go_wp2_with (go_at_call 225; refine (text_long1 b s k n w h hk hs hm1 hm2 he h1 h2).mono ?_; rintro e w' ⟨rfl, hrd, hch⟩)
  exact ⟨rfl, rfl, hrd, hch⟩
set_option maxHeartbeats 1000000 in
set_option maxRecDepth 20000 in
theorem cText_long2 (b p : Nat) (s : ByteArray) (k : Nat) (n : Int) (w : World) (h : Rd w b s k 0) (hp : w.cell? ⟨p, 0, none⟩ = some (.int .i64 n)) (hk : k ≤ s.size) (hs : s.size ≤ 9223372036854775807) (hm1 : -9223372036854775808 ≤ n) (hm2 : n ≤ 9223372036854775807) (he : rde (tl s k) = 0) (h1 : (rdv (tl s k) : Int) ≤ n ∨ rdv (tl s k) = 0) (h2 : s.size < k + rdn (tl s k) + rdv (tl s k)) :
    Calls Tryz.prog 224 #[.pointer (some ⟨b, 0, none⟩), .pointer (some ⟨p, 0, none⟩)] w (Quits b s 21 w) := by
  go_enter Tryz.func224, Tryz.ntmps224
  go_wp2_with (go_at_call 225; refine (text_long2 b s k n w h hk hs hm1 hm2 he h1 h2).mono ?_; rintro e w' ⟨rfl, hrd, hch⟩)
  exact ⟨rfl, rfl, hrd, hch⟩
theorem newreader_any (s : ByteArray) (w : World) :
    Calls Tryz.prog 102 #[.string s] w fun e w' => e = .returned (.pointer (some ⟨w.heap.size, 0, none⟩)) ∧ w' = w.alloc (.cells #[.int .i64 0, .string s, .int .i64 0] 172) := by
  go_enter Tryz.func102, Tryz.ntmps102
  go_wp2
  go_ret
  exact ⟨rfl, rfl⟩
theorem rat_any (b : Nat) (s : ByteArray) (k e : Nat) (w : World) (h : Rd w b s k e) :
    Calls Tryz.prog 112 #[.pointer (some ⟨b, 0, none⟩)] w fun e w' => e = .returned (.int .i64 k) ∧ w' = w := by
  have c0 := h.c0
  go_enter Tryz.func112, Tryz.ntmps112
  go_wp2_with (first
    | (go_at_call 118; refine (source_some b _).mono ?_; rintro e w' ⟨rfl, rfl⟩)
    | (go_at_call 159; refine (at_any b k _ c0).mono ?_; rintro e w' ⟨rfl, rfl⟩))
  go_ret
  exact ⟨rfl, rfl⟩
theorem rleft_any (b : Nat) (s : ByteArray) (k e : Nat) (w : World) (h : Rd w b s k e) (hk : k ≤ s.size) (hs : s.size ≤ 9223372036854775807) :
    Calls Tryz.prog 116 #[.pointer (some ⟨b, 0, none⟩)] w fun e w' => e = .returned (.int .i64 ((s.size : Int) - k)) ∧ ∃ n, w' = w.drewN n := by
  go_enter Tryz.func116, Tryz.ntmps116
  go_wp2_with (first
    | (go_at_call 118; refine (source_some b _).mono ?_; rintro e w' ⟨rfl, rfl⟩)
    | (go_at_call 119; refine (left_any b s k e _ h hk hs).mono ?_; rintro e w' ⟨rfl, n1, rfl⟩))
  go_ret
  exact ⟨rfl, _, rfl⟩
theorem rerr_any (b : Nat) (s : ByteArray) (k e : Nat) (w : World) (h : Rd w b s k e) :
    Calls Tryz.prog 166 #[.pointer (some ⟨b, 0, none⟩)] w fun r w' => r = .returned (.int .i64 e) ∧ w' = w := by
  have c0 := h.c2
  go_enter Tryz.func166, Tryz.ntmps166
  go_wp2_with (go_at_call 118; refine (source_some b _).mono ?_; rintro e w' ⟨rfl, rfl⟩)
  go_ret
  exact ⟨rfl, rfl⟩
/-- What Done answers. -/
def dq (s : ByteArray) (k e : Nat) : Nat := if e = 0 ∧ k < s.size then 22 else e
set_option maxHeartbeats 1000000 in
theorem rdone_any (b : Nat) (s : ByteArray) (k e : Nat) (w : World) (h : Rd w b s k e) (hk : k ≤ s.size) (hs : s.size ≤ 9223372036854775807) :
    Calls Tryz.prog 77 #[.pointer (some ⟨b, 0, none⟩)] w fun r w' => r = .returned (.int .i64 (dq s k e)) ∧ ∃ n, w' = w.drewN n := by
  have c2 := h.c2
  by_cases he : e = 0
  · subst he
    by_cases hl : k < s.size
    · have hd : dq s k 0 = 22 := by unfold dq; rw [if_pos ⟨rfl, hl⟩]
      rw [hd]
      clear hd
      go_enter Tryz.func77, Tryz.ntmps77
      go_wp2_with (first
        | (go_at_call 118; refine (source_some b _).mono ?_; rintro e w' ⟨rfl, rfl⟩)
        | (go_at_call 119; refine (left_any b s k 0 _ h hk hs).mono ?_; rintro e w' ⟨rfl, n1, rfl⟩))
      go_ret
      exact ⟨rfl, _, rfl⟩
    · have hd : dq s k 0 = 0 := by unfold dq; rw [if_neg (by omega)]
      rw [hd]
      clear hd
      go_enter Tryz.func77, Tryz.ntmps77
      go_wp2_with (first
        | (go_at_call 118; refine (source_some b _).mono ?_; rintro e w' ⟨rfl, rfl⟩)
        | (go_at_call 119; refine (left_any b s k 0 _ h hk hs).mono ?_; rintro e w' ⟨rfl, n1, rfl⟩))
      go_ret
      exact ⟨rfl, _, rfl⟩
  · have hd : dq s k e = e := by unfold dq; rw [if_neg (by omega)]
    have hne : ((e : Int) == 0) = false := by rw [beq_eq_false_iff_ne]; omega
    rw [hd]
    clear hd he
    go_enter Tryz.func77, Tryz.ntmps77
    go_wp2_with (first
      | (go_at_call 118; refine (source_some b _).mono ?_; rintro e w' ⟨rfl, rfl⟩))
    go_ret
    exact ⟨rfl, 0, rfl⟩
end Go.Proofs.YtihokphamgkkcaaGreat
