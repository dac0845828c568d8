/- What a reader's calls for forms, bytes and texts answer, of whatever bytes, wherever it stands, with or without an error. -/
import Derived.Test.YtiknilkgjinkfaaSays
import Derived.Test.YtiknilkgjinkfaaAttW
import Derived.Test.YtiknilkgjinkfaaAtt2
import Derived.Test.YtiknilkgjinkfaaAttO
namespace Go.Proofs.Ytiknilkgjinkfaa
open Go.RowKit
theorem uvarint_in (args : Array Value) (w : World) : (callFunc 65 args).run Try.prog w = .ok (.enter 65 args) w := by
  simp [go_sem]
theorem cText_in (args : Array Value) (w : World) : (callFunc 48 args).run Try.prog w = .ok (.enter 48 args) w := by
  simp [go_sem]
set_option maxHeartbeats 1000000 in
set_option maxRecDepth 20000 in
theorem cText_bad (b p : Nat) (s : ByteArray) (k : Nat) (n : Int) (w : World) (h : Rd w b s k 0) (hp : w.cell? ⟨p, 0, none⟩ = some (.int .i64 n)) (hk : k ≤ s.size) (hs : s.size ≤ 9223372036854775807) (he : ¬ rde (tl s k) = 0) :
    Calls Try.prog 48 #[.pointer (some ⟨b, 0, none⟩), .pointer (some ⟨p, 0, none⟩)] w (Quits b s (rde (tl s k)) w) := by
  go_enter Try.func48, Try.ntmps48
  go_wp2_with (go_at_call 49; refine (text_bad b s k n w h hk hs he).mono ?_; rintro e w' ⟨rfl, hrd, hch⟩)
  exact ⟨rfl, rfl, hrd, hch⟩
set_option maxHeartbeats 1000000 in
set_option maxRecDepth 20000 in
theorem cText_ok (b p : Nat) (s : ByteArray) (k : Nat) (n : Int) (w : World) (h : Rd w b s k 0) (hp : w.cell? ⟨p, 0, none⟩ = some (.int .i64 n)) (hk : k ≤ s.size) (hs : s.size ≤ 9223372036854775807) (hm1 : -9223372036854775808 ≤ n) (hm2 : n ≤ 9223372036854775807) (he : rde (tl s k) = 0) (h1 : (rdv (tl s k) : Int) ≤ n ∨ rdv (tl s k) = 0) (h2 : k + rdn (tl s k) + rdv (tl s k) ≤ s.size) :
    Calls Try.prog 48 #[.pointer (some ⟨b, 0, none⟩), .pointer (some ⟨p, 0, none⟩)] w (Gets b s (.string (s.extract (k + rdn (tl s k)) (k + rdn (tl s k) + rdv (tl s k)))) (k + rdn (tl s k) + rdv (tl s k)) w) := by
  go_enter Try.func48, Try.ntmps48
  go_wp2_with (go_at_call 49; refine (text_ok b s k n w h hk hs hm1 hm2 he h1 h2).mono ?_; rintro e w' ⟨rfl, hrd, hch⟩)
  go_ret
  exact ⟨rfl, hrd, hch⟩
set_option maxHeartbeats 1000000 in
set_option maxRecDepth 20000 in
theorem cText_long1 (b p : Nat) (s : ByteArray) (k : Nat) (n : Int) (w : World) (h : Rd w b s k 0) (hp : w.cell? ⟨p, 0, none⟩ = some (.int .i64 n)) (hk : k ≤ s.size) (hs : s.size ≤ 9223372036854775807) (hm1 : -9223372036854775808 ≤ n) (hm2 : n ≤ 9223372036854775807) (he : rde (tl s k) = 0) (h1 : n < (rdv (tl s k) : Int)) (h2 : 0 < rdv (tl s k)) :
    Calls Try.prog 48 #[.pointer (some ⟨b, 0, none⟩), .pointer (some ⟨p, 0, none⟩)] w (Quits b s 21 w) := by
  go_enter Try.func48, Try.ntmps48
  go_wp2_with (go_at_call 49; refine (text_long1 b s k n w h hk hs hm1 hm2 he h1 h2).mono ?_; rintro e w' ⟨rfl, hrd, hch⟩)
  exact ⟨rfl, rfl, hrd, hch⟩
set_option maxHeartbeats 1000000 in
set_option maxRecDepth 20000 in
theorem cText_long2 (b p : Nat) (s : ByteArray) (k : Nat) (n : Int) (w : World) (h : Rd w b s k 0) (hp : w.cell? ⟨p, 0, none⟩ = some (.int .i64 n)) (hk : k ≤ s.size) (hs : s.size ≤ 9223372036854775807) (hm1 : -9223372036854775808 ≤ n) (hm2 : n ≤ 9223372036854775807) (he : rde (tl s k) = 0) (h1 : (rdv (tl s k) : Int) ≤ n ∨ rdv (tl s k) = 0) (h2 : s.size < k + rdn (tl s k) + rdv (tl s k)) :
    Calls Try.prog 48 #[.pointer (some ⟨b, 0, none⟩), .pointer (some ⟨p, 0, none⟩)] w (Quits b s 21 w) := by
  go_enter Try.func48, Try.ntmps48
  go_wp2_with (go_at_call 49; refine (text_long2 b s k n w h hk hs hm1 hm2 he h1 h2).mono ?_; rintro e w' ⟨rfl, hrd, hch⟩)
  exact ⟨rfl, rfl, hrd, hch⟩
theorem newreader_any (s : ByteArray) (w : World) :
    Calls Try.prog 17 #[.string s] w fun e w' => e = .returned (.pointer (some ⟨w.heap.size, 0, none⟩)) ∧ w' = w.alloc (.cells #[.int .i64 0, .string s, .int .i64 0] 74) := by
  go_enter Try.func17, Try.ntmps17
  go_wp2
  go_ret
  exact ⟨rfl, rfl⟩
theorem rat_any (b : Nat) (s : ByteArray) (k e : Nat) (w : World) (h : Rd w b s k e) :
    Calls Try.prog 20 #[.pointer (some ⟨b, 0, none⟩)] w fun e w' => e = .returned (.int .i64 k) ∧ w' = w := by
  have c0 := h.c0
  go_enter Try.func20, Try.ntmps20
  go_wp2_with (first
    | (go_at_call 53; refine (source_some b _).mono ?_; rintro e w' ⟨rfl, rfl⟩)
    | (go_at_call 43; refine (at_any b k _ c0).mono ?_; rintro e w' ⟨rfl, rfl⟩))
  go_ret
  exact ⟨rfl, rfl⟩
/-- What Done answers. -/
def dq (s : ByteArray) (k e : Nat) : Nat := if e = 0 ∧ k < s.size then 22 else e
set_option maxHeartbeats 1000000 in
theorem rdone_any (b : Nat) (s : ByteArray) (k e : Nat) (w : World) (h : Rd w b s k e) (hk : k ≤ s.size) (hs : s.size ≤ 9223372036854775807) :
    Calls Try.prog 21 #[.pointer (some ⟨b, 0, none⟩)] w fun r w' => r = .returned (.int .i64 (dq s k e)) ∧ ∃ n, w' = w.drewN n := by
  have c2 := h.c2
  by_cases he : e = 0
  · subst he
    by_cases hl : k < s.size
    · have hd : dq s k 0 = 22 := by unfold dq; rw [if_pos ⟨rfl, hl⟩]
      rw [hd]
      clear hd
      go_enter Try.func21, Try.ntmps21
      go_wp2_with (first
        | (go_at_call 53; refine (source_some b _).mono ?_; rintro e w' ⟨rfl, rfl⟩)
        | (go_at_call 54; refine (left_any b s k 0 _ h hk hs).mono ?_; rintro e w' ⟨rfl, n1, rfl⟩))
      go_ret
      exact ⟨rfl, _, rfl⟩
    · have hd : dq s k 0 = 0 := by unfold dq; rw [if_neg (by omega)]
      rw [hd]
      clear hd
      go_enter Try.func21, Try.ntmps21
      go_wp2_with (first
        | (go_at_call 53; refine (source_some b _).mono ?_; rintro e w' ⟨rfl, rfl⟩)
        | (go_at_call 54; refine (left_any b s k 0 _ h hk hs).mono ?_; rintro e w' ⟨rfl, n1, rfl⟩))
      go_ret
      exact ⟨rfl, _, rfl⟩
  · have hd : dq s k e = e := by unfold dq; rw [if_neg (by omega)]
    have hne : ((e : Int) == 0) = false := by rw [beq_eq_false_iff_ne]; omega
    rw [hd]
    clear hd he
    go_enter Try.func21, Try.ntmps21
    go_wp2_with (first
      | (go_at_call 53; refine (source_some b _).mono ?_; rintro e w' ⟨rfl, rfl⟩))
    go_ret
    exact ⟨rfl, 0, rfl⟩
end Go.Proofs.Ytiknilkgjinkfaa
