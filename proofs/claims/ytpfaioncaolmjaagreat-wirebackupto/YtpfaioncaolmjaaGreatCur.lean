/- What the calls of a cursor answer: the bytes from where it stands, or that it gives up; no other memory turns. -/
import Derived.Test.YtpfaioncaolmjaaGreatWld
import Derived.Deep.QuietTactic
import Derived.BigQuiet
namespace Go.Proofs.YtpfaioncaolmjaaGreat
open Go.RowKit
theorem at_any (b : Nat) (k : Int) (w : World) (h0 : w.cell? ⟨b, 0, none⟩ = some (.int .i64 k)) :
    Calls Tryz.prog 60 #[.pointer (some ⟨b, 0, none⟩)] w fun e w' => e = .returned (.int .i64 k) ∧ w' = w := by
  go_enter Tryz.func60, Tryz.ntmps60
  go_wp2
  go_ret
  exact ⟨rfl, rfl⟩
theorem pass_any (b : Nat) (k n : Int) (w : World) (h0 : w.cell? ⟨b, 0, none⟩ = some (.int .i64 k)) (hf : w.frozen? ⟨b, 0, none⟩ = false) (h1 : 0 ≤ k) (h2 : 0 ≤ n) (h3 : k + n ≤ 9223372036854775807) :
    Calls Tryz.prog 115 #[.pointer (some ⟨b, 0, none⟩), .int .i64 n] w fun e w' => e = .returned (.tuple #[]) ∧ w' = w.setCell ⟨b, 0, none⟩ (.int .i64 (k + n)) := by
  go_enter Tryz.func115, Tryz.ntmps115
  go_wp2
  go_end0
  exact ⟨rfl, rfl⟩
theorem left_any (b : Nat) (s : ByteArray) (k e : Nat) (w : World) (h : Rd w b s k e) (hk : k ≤ s.size) (hs : s.size ≤ 9223372036854775807) :
    Calls Tryz.prog 59 #[.pointer (some ⟨b, 0, none⟩)] w fun e w' => e = .returned (.int .i64 ((s.size : Int) - k)) ∧ ∃ n, w' = w.drewN n := by
  have h0 := h.c0
  have h1 := h.c1
  go_enter Tryz.func59, Tryz.ntmps59
  go_wp2
  go_quiet ((go_at_call 60; exact Calls.quiet_of_same (at_any _ _ _ (by assumption))))
  go_wp2
  go_ret
  exact ⟨rfl, _, rfl⟩
theorem give_no (c : Bool) (why : Int) (w : World) (hc : c = false) :
    Calls Tryz.prog 127 #[.bool c, .int .i64 why] w fun e w' => e = .returned (.tuple #[]) ∧ w' = w := by
  subst hc
  go_enter Tryz.func127, Tryz.ntmps127
  go_wp2
  go_end0
  exact ⟨rfl, rfl⟩
/-- What a cursor gives up with. -/
abbrev quits (why : Nat) : Ending := .panicked [{ v := .iface 129 (.agg #[.int .i64 why]), recovered := false }]
/-- A call that reads has read. -/
def Gets (b : Nat) (s : ByteArray) (v : Value) (k' : Nat) (w : World) (e : Ending) (w' : World) : Prop := e = .returned v ∧ Rd w' b s k' 0 ∧ Ch (fun i => i = b) w w'
/-- A call that reads has given up. -/
def Quits (b : Nat) (s : ByteArray) (why : Nat) (w : World) (e : Ending) (w' : World) : Prop := e = quits why ∧ (∃ k', Rd w' b s k' 0) ∧ Ch (fun i => i = b) w w'
theorem give_up (c : Bool) (why : Nat) (w : World) (hc : c = true) :
    Calls Tryz.prog 127 #[.bool c, .int .i64 why] w fun e w' => e = quits why ∧ w' = w := by
  subst hc
  go_enter Tryz.func127, Tryz.ntmps127
  go_wp2
  exact ⟨rfl, rfl, rfl⟩
theorem rest_any (b : Nat) (s : ByteArray) (k e : Nat) (w : World) (h : Rd w b s k e) (hk : k ≤ s.size) :
    Calls Tryz.prog 126 #[.pointer (some ⟨b, 0, none⟩)] w fun e w' => e = .returned (.string (s.extract k s.size)) ∧ ∃ n, w' = w.drewN n := by
  have h0 := h.c0
  have h1 := h.c1
  go_enter Tryz.func126, Tryz.ntmps126
  go_wp2
  go_quiet ((go_at_call 60; exact Calls.quiet_of_same (at_any _ _ _ (by assumption))))
  go_wp2
  go_ret
  exact ⟨rfl, _, rfl⟩
theorem ext_ext (s : ByteArray) (k n : Nat) (h : k + n ≤ s.size) : (s.extract k s.size).extract 0 n = s.extract k (k + n) := by
  rw [ByteArray.extract_extract]; congr 1 <;> omega
set_option maxHeartbeats 1000000 in
set_option maxRecDepth 20000 in
theorem raw_ok (b : Nat) (s : ByteArray) (k n : Nat) (w : World) (h : Rd w b s k 0) (hk : k + n ≤ s.size) (hs : s.size ≤ 9223372036854775807) :
    Calls Tryz.prog 97 #[.pointer (some ⟨b, 0, none⟩), .int .i64 n] w (Gets b s (.string (s.extract k (k + n))) (k + n) w) := by
  have hx := ext_ext s k n hk
  have hz : (s.extract k s.size).size = s.size - k := by simp [ByteArray.size_extract]
  go_enter Tryz.func97, Tryz.ntmps97
  go_wp2_with (first
    | (go_at_call 127; refine (give_no _ _ _ (by first | exact decide_eq_false (by omega) | assumption)).mono ?_; rintro e w' ⟨rfl, rfl⟩)
    | (go_at_call 59; refine (left_any b s k 0 _ h (by omega) hs).mono ?_; rintro e w' ⟨rfl, n1, rfl⟩)
    | (go_at_call 126; refine (rest_any b s k 0 _ (h.drewN _) (by omega)).mono ?_; rintro e w' ⟨rfl, n2, rfl⟩)
    | (go_at_call 115; refine (pass_any b k n _ (h.drewN _).c0 ((h.drewN _).fz 0) (by omega) (by omega) (by omega)).mono ?_; rintro e w' ⟨rfl, rfl⟩))
  go_ret
  exact ⟨rfl, (h.drewN _).set0 (k + n), ((Ch.refl _ _).drewN _).setCell _ _ (fun _ => rfl)⟩

end Go.Proofs.YtpfaioncaolmjaaGreat
