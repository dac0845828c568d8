/- What a reader's calls for numbers answer, of whatever bytes, wherever it stands, with or without an error. -/
import Derived.Test.YtpfaioncaolmjaaGreatSays
import Derived.Test.YtpfaioncaolmjaaGreatAttV
import Derived.Test.YtpfaioncaolmjaaGreatAttW
namespace Go.Proofs.YtpfaioncaolmjaaGreat
open Go.RowKit
set_option maxHeartbeats 1000000 in
set_option maxRecDepth 20000 in
theorem cU32_ok (b : Nat) (s : ByteArray) (k : Nat) (w : World) (h : Rd w b s k 0) (hk : k + 4 ≤ s.size) (hs : s.size ≤ 9223372036854775807) :
    Calls Tryz.prog 89 #[.pointer (some ⟨b, 0, none⟩)] w (Gets b s (.int .u32 (be (bl (s.extract k (k + 4))) : Int)) (k + 4) w) := by
  have hb := be_ext s k 4 hk
  have hn := number_ok b s k 4 w h hk hs (by omega)
  generalize be (bl (s.extract k (k + 4))) = v at hb hn ⊢
  go_enter Tryz.func89, Tryz.ntmps89
  go_wp2_with (go_at_call 63; refine hn.mono ?_; rintro e w' ⟨rfl, hrd, hch⟩)
  go_ret
  exact ⟨rfl, hrd, hch⟩
set_option maxHeartbeats 1000000 in
set_option maxRecDepth 20000 in
theorem cU32_short (b : Nat) (s : ByteArray) (k : Nat) (w : World) (h : Rd w b s k 0) (hk : k ≤ s.size) (hs : s.size ≤ 9223372036854775807) (hl : ¬ k + 4 ≤ s.size) :
    Calls Tryz.prog 89 #[.pointer (some ⟨b, 0, none⟩)] w (Quits b s 20 w) := by
  go_enter Tryz.func89, Tryz.ntmps89
  go_wp2_with (go_at_call 63; refine (number_short b s k 4 w h hk hs (by omega)).mono ?_; rintro e w' ⟨rfl, hrd, hch⟩)
  exact ⟨rfl, rfl, hrd, hch⟩
theorem cU32_in (args : Array Value) (w : World) : (callFunc 89 args).run Tryz.prog w = .ok (.enter 89 args) w := by
  simp [go_sem]
set_option maxHeartbeats 1000000 in
set_option maxRecDepth 20000 in
theorem u32_any (b : Nat) (s : ByteArray) (k e : Nat) (w : World) (h : Rd w b s k e) (hk : k ≤ s.size) (hs : s.size ≤ 9223372036854775807) :
    Calls Tryz.prog 51 #[.pointer (some ⟨b, 0, none⟩)] w (Ans b s (.int .u32 ((fx 4 s k e).1 : Int)) (fx 4 s k e).2.1 (fx 4 s k e).2.2 w) := by
  by_cases he : e = 0
  · subst he
    by_cases hl : k + 4 ≤ s.size
    · rw [fx_ok hl]
      dsimp only
      have hc := fun w1 (hb : Below w.heap.size w w1) => cU32_ok b s k w1 (h.below hb h.lt) hl hs
      generalize be (bl (s.extract k (k + 4))) = v at hc ⊢
      have ha := att_ok_u32 b s k (k + 4) 89 #[] _ w h cU32_in (fun w1 hb => by simpa using hc w1 hb)
      go_enter Tryz.func51, Tryz.ntmps51
      go_wp2_with (go_at_call 88; refine ha.mono ?_; rintro e w' ⟨rfl, hrd, hch⟩)
      go_ret2
      exact ⟨rfl, hrd, hch⟩
    · rw [fx_short hl]
      dsimp only
      have ha := att_quit_u32 b s k 20 89 #[] w h cU32_in (fun w1 hb => by simpa using cU32_short b s k w1 (h.below hb h.lt) hk hs hl)
      go_enter Tryz.func51, Tryz.ntmps51
      go_wp2_with (go_at_call 88; refine ha.mono ?_; rintro e w' ⟨rfl, hrd, hch⟩)
      go_ret2
      exact ⟨rfl, hrd, hch⟩
  · rw [fx_stale he]
    dsimp only
    have ha := fun fv => att_stale_u32 b s k e fv w h he
    have HE := Hid.mk he
    clear he
    go_enter Tryz.func51, Tryz.ntmps51
    go_wp2_with (go_at_call 88; refine (ha _).mono ?_; rintro e w' ⟨rfl, hrd, hch⟩)
    go_ret2
    exact ⟨rfl, hrd, hch⟩
set_option maxHeartbeats 1000000 in
set_option maxRecDepth 20000 in
theorem cI32_ok (b : Nat) (s : ByteArray) (k : Nat) (w : World) (h : Rd w b s k 0) (hk : k + 4 ≤ s.size) (hs : s.size ≤ 9223372036854775807) :
    Calls Tryz.prog 91 #[.pointer (some ⟨b, 0, none⟩)] w (Gets b s (.int .i32 (wrap32 (be (bl (s.extract k (k + 4))) : Int))) (k + 4) w) := by
  have hb := be_ext s k 4 hk
  have hn := number_ok b s k 4 w h hk hs (by omega)
  generalize be (bl (s.extract k (k + 4))) = v at hb hn ⊢
  go_enter Tryz.func91, Tryz.ntmps91
  go_wp2_with (go_at_call 63; refine hn.mono ?_; rintro e w' ⟨rfl, hrd, hch⟩)
  go_ret
  exact ⟨rfl, hrd, hch⟩
set_option maxHeartbeats 1000000 in
set_option maxRecDepth 20000 in
theorem cI32_short (b : Nat) (s : ByteArray) (k : Nat) (w : World) (h : Rd w b s k 0) (hk : k ≤ s.size) (hs : s.size ≤ 9223372036854775807) (hl : ¬ k + 4 ≤ s.size) :
    Calls Tryz.prog 91 #[.pointer (some ⟨b, 0, none⟩)] w (Quits b s 20 w) := by
  go_enter Tryz.func91, Tryz.ntmps91
  go_wp2_with (go_at_call 63; refine (number_short b s k 4 w h hk hs (by omega)).mono ?_; rintro e w' ⟨rfl, hrd, hch⟩)
  exact ⟨rfl, rfl, hrd, hch⟩
theorem cI32_in (args : Array Value) (w : World) : (callFunc 91 args).run Tryz.prog w = .ok (.enter 91 args) w := by
  simp [go_sem]
set_option maxHeartbeats 1000000 in
set_option maxRecDepth 20000 in
theorem i32_any (b : Nat) (s : ByteArray) (k e : Nat) (w : World) (h : Rd w b s k e) (hk : k ≤ s.size) (hs : s.size ≤ 9223372036854775807) :
    Calls Tryz.prog 52 #[.pointer (some ⟨b, 0, none⟩)] w (Ans b s (.int .i32 (wrap32 ((fx 4 s k e).1 : Int))) (fx 4 s k e).2.1 (fx 4 s k e).2.2 w) := by
  by_cases he : e = 0
  · subst he
    by_cases hl : k + 4 ≤ s.size
    · rw [fx_ok hl]
      dsimp only
      have hc := fun w1 (hb : Below w.heap.size w w1) => cI32_ok b s k w1 (h.below hb h.lt) hl hs
      generalize be (bl (s.extract k (k + 4))) = v at hc ⊢
      have ha := att_ok_i32 b s k (k + 4) 91 #[] _ w h cI32_in (fun w1 hb => by simpa using hc w1 hb)
      go_enter Tryz.func52, Tryz.ntmps52
      go_wp2_with (go_at_call 90; refine ha.mono ?_; rintro e w' ⟨rfl, hrd, hch⟩)
      go_ret2
      exact ⟨rfl, hrd, hch⟩
    · rw [fx_short hl]
      dsimp only
      rw [show wrap32 ((0 : Nat) : Int) = 0 from by simp [wrap32]]
      have ha := att_quit_i32 b s k 20 91 #[] w h cI32_in (fun w1 hb => by simpa using cI32_short b s k w1 (h.below hb h.lt) hk hs hl)
      go_enter Tryz.func52, Tryz.ntmps52
      go_wp2_with (go_at_call 90; refine ha.mono ?_; rintro e w' ⟨rfl, hrd, hch⟩)
      go_ret2
      exact ⟨rfl, hrd, hch⟩
  · rw [fx_stale he]
    dsimp only
    rw [show wrap32 ((0 : Nat) : Int) = 0 from by simp [wrap32]]
    have ha := fun fv => att_stale_i32 b s k e fv w h he
    have HE := Hid.mk he
    clear he
    go_enter Tryz.func52, Tryz.ntmps52
    go_wp2_with (go_at_call 90; refine (ha _).mono ?_; rintro e w' ⟨rfl, hrd, hch⟩)
    go_ret2
    exact ⟨rfl, hrd, hch⟩
set_option maxHeartbeats 1000000 in
set_option maxRecDepth 20000 in
theorem cI64_ok (b : Nat) (s : ByteArray) (k : Nat) (w : World) (h : Rd w b s k 0) (hk : k + 8 ≤ s.size) (hs : s.size ≤ 9223372036854775807) :
    Calls Tryz.prog 93 #[.pointer (some ⟨b, 0, none⟩)] w (Gets b s (.int .i64 (wrap64 (be (bl (s.extract k (k + 8))) : Int))) (k + 8) w) := by
  have hb := be_ext s k 8 hk
  have hn := number_ok b s k 8 w h hk hs (by omega)
  generalize be (bl (s.extract k (k + 8))) = v at hb hn ⊢
  go_enter Tryz.func93, Tryz.ntmps93
  go_wp2_with (go_at_call 63; refine hn.mono ?_; rintro e w' ⟨rfl, hrd, hch⟩)
  go_ret
  exact ⟨rfl, hrd, hch⟩
set_option maxHeartbeats 1000000 in
set_option maxRecDepth 20000 in
theorem cI64_short (b : Nat) (s : ByteArray) (k : Nat) (w : World) (h : Rd w b s k 0) (hk : k ≤ s.size) (hs : s.size ≤ 9223372036854775807) (hl : ¬ k + 8 ≤ s.size) :
    Calls Tryz.prog 93 #[.pointer (some ⟨b, 0, none⟩)] w (Quits b s 20 w) := by
  go_enter Tryz.func93, Tryz.ntmps93
  go_wp2_with (go_at_call 63; refine (number_short b s k 8 w h hk hs (by omega)).mono ?_; rintro e w' ⟨rfl, hrd, hch⟩)
  exact ⟨rfl, rfl, hrd, hch⟩
theorem cI64_in (args : Array Value) (w : World) : (callFunc 93 args).run Tryz.prog w = .ok (.enter 93 args) w := by
  simp [go_sem]
set_option maxHeartbeats 1000000 in
set_option maxRecDepth 20000 in
theorem i64_any (b : Nat) (s : ByteArray) (k e : Nat) (w : World) (h : Rd w b s k e) (hk : k ≤ s.size) (hs : s.size ≤ 9223372036854775807) :
    Calls Tryz.prog 53 #[.pointer (some ⟨b, 0, none⟩)] w (Ans b s (.int .i64 (wrap64 ((fx 8 s k e).1 : Int))) (fx 8 s k e).2.1 (fx 8 s k e).2.2 w) := by
  by_cases he : e = 0
  · subst he
    by_cases hl : k + 8 ≤ s.size
    · rw [fx_ok hl]
      dsimp only
      have hc := fun w1 (hb : Below w.heap.size w w1) => cI64_ok b s k w1 (h.below hb h.lt) hl hs
      generalize be (bl (s.extract k (k + 8))) = v at hc ⊢
      have ha := att_ok_i64 b s k (k + 8) 93 #[] _ w h cI64_in (fun w1 hb => by simpa using hc w1 hb)
      go_enter Tryz.func53, Tryz.ntmps53
      go_wp2_with (go_at_call 92; refine ha.mono ?_; rintro e w' ⟨rfl, hrd, hch⟩)
      go_ret2
      exact ⟨rfl, hrd, hch⟩
    · rw [fx_short hl]
      dsimp only
      rw [show wrap64 ((0 : Nat) : Int) = 0 from by simp [wrap64]]
      have ha := att_quit_i64 b s k 20 93 #[] w h cI64_in (fun w1 hb => by simpa using cI64_short b s k w1 (h.below hb h.lt) hk hs hl)
      go_enter Tryz.func53, Tryz.ntmps53
      go_wp2_with (go_at_call 92; refine ha.mono ?_; rintro e w' ⟨rfl, hrd, hch⟩)
      go_ret2
      exact ⟨rfl, hrd, hch⟩
  · rw [fx_stale he]
    dsimp only
    rw [show wrap64 ((0 : Nat) : Int) = 0 from by simp [wrap64]]
    have ha := fun fv => att_stale_i64 b s k e fv w h he
    have HE := Hid.mk he
    clear he
    go_enter Tryz.func53, Tryz.ntmps53
    go_wp2_with (go_at_call 92; refine (ha _).mono ?_; rintro e w' ⟨rfl, hrd, hch⟩)
    go_ret2
    exact ⟨rfl, hrd, hch⟩
end Go.Proofs.YtpfaioncaolmjaaGreat
