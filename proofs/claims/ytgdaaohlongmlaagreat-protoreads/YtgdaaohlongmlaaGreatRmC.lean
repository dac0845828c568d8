/- What a reader's calls for forms, bytes and texts answer, of whatever bytes, wherever it stands, with or without an error. -/
import Derived.Test.YtgdaaohlongmlaaGreatSays
import Derived.Test.YtgdaaohlongmlaaGreatAttW
import Derived.Test.YtgdaaohlongmlaaGreatAtt2
import Derived.Test.YtgdaaohlongmlaaGreatAttO
namespace Go.Proofs.YtgdaaohlongmlaaGreat
open Go.RowKit
theorem cRaw_in (args : Array Value) (w : World) : (callFunc 108 args).run Tryz.prog w = .ok (.enter 108 args) w := by
  simp [go_sem]
set_option maxHeartbeats 1000000 in
set_option maxRecDepth 20000 in
theorem cRaw_ok (b p : Nat) (s : ByteArray) (k : Nat) (n : Nat) (w : World) (h : Rd w b s k 0) (hp : w.cell? ⟨p, 0, none⟩ = some (.int .i64 n)) (hk : k + n ≤ s.size) (hs : s.size ≤ 9223372036854775807) :
    Calls Tryz.prog 108 #[.pointer (some ⟨b, 0, none⟩), .pointer (some ⟨p, 0, none⟩)] w (Gets b s (.string (s.extract k (k + n))) (k + n) w) := by
  go_enter Tryz.func108, Tryz.ntmps108
  go_wp2_with (go_at_call 109; refine (raw_ok b s k n w h hk hs).mono ?_; rintro e w' ⟨rfl, hrd, hch⟩)
  go_ret
  exact ⟨rfl, hrd, hch⟩
set_option maxHeartbeats 1000000 in
set_option maxRecDepth 20000 in
theorem cRaw_range (b p : Nat) (s : ByteArray) (k : Nat) (n : Int) (w : World) (h : Rd w b s k 0) (hp : w.cell? ⟨p, 0, none⟩ = some (.int .i64 n)) (hn : n < 0) :
    Calls Tryz.prog 108 #[.pointer (some ⟨b, 0, none⟩), .pointer (some ⟨p, 0, none⟩)] w (Quits b s 1 w) := by
  go_enter Tryz.func108, Tryz.ntmps108
  go_wp2_with (go_at_call 109; refine (raw_range b s k n w h hn).mono ?_; rintro e w' ⟨rfl, hrd, hch⟩)
  exact ⟨rfl, rfl, hrd, hch⟩
set_option maxHeartbeats 1000000 in
set_option maxRecDepth 20000 in
theorem cRaw_short (b p : Nat) (s : ByteArray) (k : Nat) (n : Int) (w : World) (h : Rd w b s k 0) (hp : w.cell? ⟨p, 0, none⟩ = some (.int .i64 n)) (hk : k ≤ s.size) (hs : s.size ≤ 9223372036854775807) (hn : 0 ≤ n) (hn2 : (s.size : Int) - k < n) :
    Calls Tryz.prog 108 #[.pointer (some ⟨b, 0, none⟩), .pointer (some ⟨p, 0, none⟩)] w (Quits b s 20 w) := by
  go_enter Tryz.func108, Tryz.ntmps108
  go_wp2_with (go_at_call 109; refine (raw_short b s k n w h hk hs hn hn2).mono ?_; rintro e w' ⟨rfl, hrd, hch⟩)
  exact ⟨rfl, rfl, hrd, hch⟩
theorem newreader_any (s : ByteArray) (w : World) :
    Calls Tryz.prog 78 #[.string s] w fun e w' => e = .returned (.pointer (some ⟨w.heap.size, 0, none⟩)) ∧ w' = w.alloc (.cells #[.int .i64 0, .string s, .int .i64 0] 127) := by
  go_enter Tryz.func78, Tryz.ntmps78
  go_wp2
  go_ret
  exact ⟨rfl, rfl⟩
theorem rleft_any (b : Nat) (s : ByteArray) (k e : Nat) (w : World) (h : Rd w b s k e) (hk : k ≤ s.size) (hs : s.size ≤ 9223372036854775807) :
    Calls Tryz.prog 90 #[.pointer (some ⟨b, 0, none⟩)] w fun e w' => e = .returned (.int .i64 ((s.size : Int) - k)) ∧ ∃ n, w' = w.drewN n := by
  go_enter Tryz.func90, Tryz.ntmps90
  go_wp2_with (first
    | (go_at_call 99; refine (source_some b _).mono ?_; rintro e w' ⟨rfl, rfl⟩)
    | (go_at_call 100; refine (left_any b s k e _ h hk hs).mono ?_; rintro e w' ⟨rfl, n1, rfl⟩))
  go_ret
  exact ⟨rfl, _, rfl⟩
theorem rerr_any (b : Nat) (s : ByteArray) (k e : Nat) (w : World) (h : Rd w b s k e) :
    Calls Tryz.prog 80 #[.pointer (some ⟨b, 0, none⟩)] w fun r w' => r = .returned (.int .i64 e) ∧ w' = w := by
  have c0 := h.c2
  go_enter Tryz.func80, Tryz.ntmps80
  go_wp2_with (go_at_call 99; refine (source_some b _).mono ?_; rintro e w' ⟨rfl, rfl⟩)
  go_ret
  exact ⟨rfl, rfl⟩
/-- What Done answers. -/
def dq (s : ByteArray) (k e : Nat) : Nat := if e = 0 ∧ k < s.size then 22 else e
set_option maxHeartbeats 1000000 in
theorem rdone_any (b : Nat) (s : ByteArray) (k e : Nat) (w : World) (h : Rd w b s k e) (hk : k ≤ s.size) (hs : s.size ≤ 9223372036854775807) :
    Calls Tryz.prog 81 #[.pointer (some ⟨b, 0, none⟩)] w fun r w' => r = .returned (.int .i64 (dq s k e)) ∧ ∃ n, w' = w.drewN n := by
  have c2 := h.c2
  by_cases he : e = 0
  · subst he
    by_cases hl : k < s.size
    · have hd : dq s k 0 = 22 := by unfold dq; rw [if_pos ⟨rfl, hl⟩]
      rw [hd]
      clear hd
      go_enter Tryz.func81, Tryz.ntmps81
      go_wp2_with (first
        | (go_at_call 99; refine (source_some b _).mono ?_; rintro e w' ⟨rfl, rfl⟩)
        | (go_at_call 100; refine (left_any b s k 0 _ h hk hs).mono ?_; rintro e w' ⟨rfl, n1, rfl⟩))
      go_ret
      exact ⟨rfl, _, rfl⟩
    · have hd : dq s k 0 = 0 := by unfold dq; rw [if_neg (by omega)]
      rw [hd]
      clear hd
      go_enter Tryz.func81, Tryz.ntmps81
      go_wp2_with (first
        | (go_at_call 99; refine (source_some b _).mono ?_; rintro e w' ⟨rfl, rfl⟩)
        | (go_at_call 100; refine (left_any b s k 0 _ h hk hs).mono ?_; rintro e w' ⟨rfl, n1, rfl⟩))
      go_ret
      exact ⟨rfl, _, rfl⟩
  · have hd : dq s k e = e := by unfold dq; rw [if_neg (by omega)]
    have hne : ((e : Int) == 0) = false := by rw [beq_eq_false_iff_ne]; omega
    rw [hd]
    clear hd he
    go_enter Tryz.func81, Tryz.ntmps81
    go_wp2_with (first
      | (go_at_call 99; refine (source_some b _).mono ?_; rintro e w' ⟨rfl, rfl⟩))
    go_ret
    exact ⟨rfl, 0, rfl⟩
end Go.Proofs.YtgdaaohlongmlaaGreat
