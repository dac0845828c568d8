/- What a reader's calls for forms, bytes and texts answer, of whatever bytes, wherever it stands, with or without an error. -/
import Derived.Test.YtgcgnkafhpjdiaaGreatSays
import Derived.Test.YtgcgnkafhpjdiaaGreatAttW
import Derived.Test.YtgcgnkafhpjdiaaGreatAtt2
import Derived.Test.YtgcgnkafhpjdiaaGreatAttO
namespace Go.Proofs.YtgcgnkafhpjdiaaGreat
open Go.RowKit
theorem uvarint_in (args : Array Value) (w : World) : (callFunc 201 args).run Tryz.prog w = .ok (.enter 201 args) w := by
  simp [go_sem]
set_option maxHeartbeats 1000000 in
set_option maxRecDepth 20000 in
theorem uvarint_any (b : Nat) (s : ByteArray) (k e : Nat) (w : World) (h : Rd w b s k e) (hk : k ≤ s.size) (hs : s.size ≤ 9223372036854775807) :
    Calls Tryz.prog 182 #[.pointer (some ⟨b, 0, none⟩)] w (Ans b s (.int .u64 (uq s k e).1) (uq s k e).2.1 (uq s k e).2.2 w) := by
  by_cases he : e = 0
  · subst he
    by_cases hl : rde (tl s k) = 0
    · rw [uq_ok hl]
      dsimp only
      have ha := att_ok_u64 b s k (k + rdn (tl s k)) 201 #[] _ w h uvarint_in (fun w1 hb => by simpa using uv_ok b s k w1 (h.below hb h.lt) hk hs hl)
      generalize (rdv (tl s k)) = v at ha ⊢
      generalize k + rdn (tl s k) = K at ha ⊢
      clear hl
      go_enter Tryz.func182, Tryz.ntmps182
      go_wp2_with (go_at_call 200; refine (ha).mono ?_; rintro e w' ⟨rfl, hrd, hch⟩)
      go_ret2
      exact ⟨rfl, hrd, hch⟩
    · rw [uq_bad hl]
      dsimp only
      have ha := att_quit_u64 b s k (rde (tl s k)) 201 #[] w h uvarint_in (fun w1 hb => by simpa using uv_bad b s k w1 (h.below hb h.lt) hk hs hl)
      generalize rde (tl s k) = E at ha ⊢
      clear hl
      go_enter Tryz.func182, Tryz.ntmps182
      go_wp2_with (go_at_call 200; refine (ha).mono ?_; rintro e w' ⟨rfl, hrd, hch⟩)
      go_ret2
      exact ⟨rfl, hrd, hch⟩
  · rw [uq_stale he]
    dsimp only
    have ha := fun fv => att_stale_u64 b s k e fv w h he
    clear he
    · skip
      go_enter Tryz.func182, Tryz.ntmps182
      go_wp2_with (go_at_call 200; refine (ha _).mono ?_; rintro e w' ⟨rfl, hrd, hch⟩)
      go_ret2
      exact ⟨rfl, hrd, hch⟩
theorem varint_in (args : Array Value) (w : World) : (callFunc 204 args).run Tryz.prog w = .ok (.enter 204 args) w := by
  simp [go_sem]
set_option maxHeartbeats 1000000 in
set_option maxRecDepth 20000 in
theorem varint_any (b : Nat) (s : ByteArray) (k e : Nat) (w : World) (h : Rd w b s k e) (hk : k ≤ s.size) (hs : s.size ≤ 9223372036854775807) :
    Calls Tryz.prog 184 #[.pointer (some ⟨b, 0, none⟩)] w (Ans b s (.int .i64 (vq s k e).1) (vq s k e).2.1 (vq s k e).2.2 w) := by
  by_cases he : e = 0
  · subst he
    by_cases hl : rde (tl s k) = 0
    · rw [vq_ok hl]
      dsimp only
      have ha := att_ok_i64 b s k (k + rdn (tl s k)) 204 #[] _ w h varint_in (fun w1 hb => by simpa using vi_ok b s k w1 (h.below hb h.lt) hk hs hl)
      generalize (M.uz (rdv (tl s k))) = v at ha ⊢
      generalize k + rdn (tl s k) = K at ha ⊢
      clear hl
      go_enter Tryz.func184, Tryz.ntmps184
      go_wp2_with (go_at_call 132; refine (ha).mono ?_; rintro e w' ⟨rfl, hrd, hch⟩)
      go_ret2
      exact ⟨rfl, hrd, hch⟩
    · rw [vq_bad hl]
      dsimp only
      have ha := att_quit_i64 b s k (rde (tl s k)) 204 #[] w h varint_in (fun w1 hb => by simpa using vi_bad b s k w1 (h.below hb h.lt) hk hs hl)
      generalize rde (tl s k) = E at ha ⊢
      clear hl
      go_enter Tryz.func184, Tryz.ntmps184
      go_wp2_with (go_at_call 132; refine (ha).mono ?_; rintro e w' ⟨rfl, hrd, hch⟩)
      go_ret2
      exact ⟨rfl, hrd, hch⟩
  · rw [vq_stale he]
    dsimp only
    have ha := fun fv => att_stale_i64 b s k e fv w h he
    clear he
    · skip
      go_enter Tryz.func184, Tryz.ntmps184
      go_wp2_with (go_at_call 132; refine (ha _).mono ?_; rintro e w' ⟨rfl, hrd, hch⟩)
      go_ret2
      exact ⟨rfl, hrd, hch⟩
theorem cText_in (args : Array Value) (w : World) : (callFunc 218 args).run Tryz.prog w = .ok (.enter 218 args) w := by
  simp [go_sem]
set_option maxHeartbeats 1000000 in
set_option maxRecDepth 20000 in
theorem cText_bad (b p : Nat) (s : ByteArray) (k : Nat) (n : Int) (w : World) (h : Rd w b s k 0) (hp : w.cell? ⟨p, 0, none⟩ = some (.int .i64 n)) (hk : k ≤ s.size) (hs : s.size ≤ 9223372036854775807) (he : ¬ rde (tl s k) = 0) :
    Calls Tryz.prog 218 #[.pointer (some ⟨b, 0, none⟩), .pointer (some ⟨p, 0, none⟩)] w (Quits b s (rde (tl s k)) w) := by
  go_enter Tryz.func218, Tryz.ntmps218
  go_wp2_with (go_at_call 219; refine (text_bad b s k n w h hk hs he).mono ?_; rintro e w' ⟨rfl, hrd, hch⟩)
  exact ⟨rfl, rfl, hrd, hch⟩
set_option maxHeartbeats 1000000 in
set_option maxRecDepth 20000 in
theorem cText_ok (b p : Nat) (s : ByteArray) (k : Nat) (n : Int) (w : World) (h : Rd w b s k 0) (hp : w.cell? ⟨p, 0, none⟩ = some (.int .i64 n)) (hk : k ≤ s.size) (hs : s.size ≤ 9223372036854775807) (hm1 : -9223372036854775808 ≤ n) (hm2 : n ≤ 9223372036854775807) (he : rde (tl s k) = 0) (h1 : (rdv (tl s k) : Int) ≤ n ∨ rdv (tl s k) = 0) (h2 : k + rdn (tl s k) + rdv (tl s k) ≤ s.size) :
    Calls Tryz.prog 218 #[.pointer (some ⟨b, 0, none⟩), .pointer (some ⟨p, 0, none⟩)] w (Gets b s (.string (s.extract (k + rdn (tl s k)) (k + rdn (tl s k) + rdv (tl s k)))) (k + rdn (tl s k) + rdv (tl s k)) w) := by
  go_enter Tryz.func218, Tryz.ntmps218
  go_wp2_with (go_at_call 219; refine (text_ok b s k n w h hk hs hm1 hm2 he h1 h2).mono ?_; rintro e w' ⟨rfl, hrd, hch⟩)
  go_ret
  exact ⟨rfl, hrd, hch⟩
set_option maxHeartbeats 1000000 in
set_option maxRecDepth 20000 in
theorem cText_long1 (b p : Nat) (s : ByteArray) (k : Nat) (n : Int) (w : World) (h : Rd w b s k 0) (hp : w.cell? ⟨p, 0, none⟩ = some (.int .i64 n)) (hk : k ≤ s.size) (hs : s.size ≤ 9223372036854775807) (hm1 : -9223372036854775808 ≤ n) (hm2 : n ≤ 9223372036854775807) (he : rde (tl s k) = 0) (h1 : n < (rdv (tl s k) : Int)) (h2 : 0 < rdv (tl s k)) :
    Calls Tryz.prog 218 #[.pointer (some ⟨b, 0, none⟩), .pointer (some ⟨p, 0, none⟩)] w (Quits b s 21 w) := by
  go_enter Tryz.func218, Tryz.ntmps218
  go_wp2_with (go_at_call 219; refine (text_long1 b s k n w h hk hs hm1 hm2 he h1 h2).mono ?_; rintro e w' ⟨rfl, hrd, hch⟩)
  exact ⟨rfl, rfl, hrd, hch⟩
set_option maxHeartbeats 1000000 in
set_option maxRecDepth 20000 in
theorem cText_long2 (b p : Nat) (s : ByteArray) (k : Nat) (n : Int) (w : World) (h : Rd w b s k 0) (hp : w.cell? ⟨p, 0, none⟩ = some (.int .i64 n)) (hk : k ≤ s.size) (hs : s.size ≤ 9223372036854775807) (hm1 : -9223372036854775808 ≤ n) (hm2 : n ≤ 9223372036854775807) (he : rde (tl s k) = 0) (h1 : (rdv (tl s k) : Int) ≤ n ∨ rdv (tl s k) = 0) (h2 : s.size < k + rdn (tl s k) + rdv (tl s k)) :
    Calls Tryz.prog 218 #[.pointer (some ⟨b, 0, none⟩), .pointer (some ⟨p, 0, none⟩)] w (Quits b s 21 w) := by
  go_enter Tryz.func218, Tryz.ntmps218
  go_wp2_with (go_at_call 219; refine (text_long2 b s k n w h hk hs hm1 hm2 he h1 h2).mono ?_; rintro e w' ⟨rfl, hrd, hch⟩)
  exact ⟨rfl, rfl, hrd, hch⟩
theorem newreader_any (s : ByteArray) (w : World) :
    Calls Tryz.prog 97 #[.string s] w fun e w' => e = .returned (.pointer (some ⟨w.heap.size, 0, none⟩)) ∧ w' = w.alloc (.cells #[.int .i64 0, .string s, .int .i64 0] 226) := by
  go_enter Tryz.func97, Tryz.ntmps97
  go_wp2
  go_ret
  exact ⟨rfl, rfl⟩
theorem rat_any (b : Nat) (s : ByteArray) (k e : Nat) (w : World) (h : Rd w b s k e) :
    Calls Tryz.prog 104 #[.pointer (some ⟨b, 0, none⟩)] w fun e w' => e = .returned (.int .i64 k) ∧ w' = w := by
  have c0 := h.c0
  go_enter Tryz.func104, Tryz.ntmps104
  go_wp2_with (first
    | (go_at_call 146; refine (source_some b _).mono ?_; rintro e w' ⟨rfl, rfl⟩)
    | (go_at_call 147; refine (at_any b k _ c0).mono ?_; rintro e w' ⟨rfl, rfl⟩))
  go_ret
  exact ⟨rfl, rfl⟩
theorem rleft_any (b : Nat) (s : ByteArray) (k e : Nat) (w : World) (h : Rd w b s k e) (hk : k ≤ s.size) (hs : s.size ≤ 9223372036854775807) :
    Calls Tryz.prog 151 #[.pointer (some ⟨b, 0, none⟩)] w fun e w' => e = .returned (.int .i64 ((s.size : Int) - k)) ∧ ∃ n, w' = w.drewN n := by
  go_enter Tryz.func151, Tryz.ntmps151
  go_wp2_with (first
    | (go_at_call 146; refine (source_some b _).mono ?_; rintro e w' ⟨rfl, rfl⟩)
    | (go_at_call 188; refine (left_any b s k e _ h hk hs).mono ?_; rintro e w' ⟨rfl, n1, rfl⟩))
  go_ret
  exact ⟨rfl, _, rfl⟩
theorem rerr_any (b : Nat) (s : ByteArray) (k e : Nat) (w : World) (h : Rd w b s k e) :
    Calls Tryz.prog 189 #[.pointer (some ⟨b, 0, none⟩)] w fun r w' => r = .returned (.int .i64 e) ∧ w' = w := by
  have c0 := h.c2
  go_enter Tryz.func189, Tryz.ntmps189
  go_wp2_with (go_at_call 146; refine (source_some b _).mono ?_; rintro e w' ⟨rfl, rfl⟩)
  go_ret
  exact ⟨rfl, rfl⟩
/-- What Done answers. -/
def dq (s : ByteArray) (k e : Nat) : Nat := if e = 0 ∧ k < s.size then 22 else e
end Go.Proofs.YtgcgnkafhpjdiaaGreat
