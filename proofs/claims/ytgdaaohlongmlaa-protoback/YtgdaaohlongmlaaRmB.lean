/- What a reader's calls for numbers answer, of whatever bytes, wherever it stands, with or without an error. -/
import Derived.Test.YtgdaaohlongmlaaSays
import Derived.Test.YtgdaaohlongmlaaAttV
import Derived.Test.YtgdaaohlongmlaaAttW
namespace Go.Proofs.Ytgdaaohlongmlaa
open Go.RowKit
set_option maxHeartbeats 1000000 in
set_option maxRecDepth 20000 in
theorem cU32_ok (b : Nat) (s : ByteArray) (k : Nat) (w : World) (h : Rd w b s k 0) (hk : k + 4 ≤ s.size) (hs : s.size ≤ 9223372036854775807) :
    Calls Try.prog 78 #[.pointer (some ⟨b, 0, none⟩)] w (Gets b s (.int .u32 (be (bl (s.extract k (k + 4))) : Int)) (k + 4) w) := by
  have hb := be_ext s k 4 hk
  have hn := number_ok b s k 4 w h hk hs (by omega)
  generalize be (bl (s.extract k (k + 4))) = v at hb hn ⊢
  go_enter Try.func78, Try.ntmps78
  go_wp2_with (go_at_call 71; refine hn.mono ?_; rintro e w' ⟨rfl, hrd, hch⟩)
  go_ret
  exact ⟨rfl, hrd, hch⟩
set_option maxHeartbeats 1000000 in
set_option maxRecDepth 20000 in
theorem cU32_short (b : Nat) (s : ByteArray) (k : Nat) (w : World) (h : Rd w b s k 0) (hk : k ≤ s.size) (hs : s.size ≤ 9223372036854775807) (hl : ¬ k + 4 ≤ s.size) :
    Calls Try.prog 78 #[.pointer (some ⟨b, 0, none⟩)] w (Quits b s 20 w) := by
  go_enter Try.func78, Try.ntmps78
  go_wp2_with (go_at_call 71; refine (number_short b s k 4 w h hk hs (by omega)).mono ?_; rintro e w' ⟨rfl, hrd, hch⟩)
  exact ⟨rfl, rfl, hrd, hch⟩
theorem cU32_in (args : Array Value) (w : World) : (callFunc 78 args).run Try.prog w = .ok (.enter 78 args) w := by
  simp [go_sem]
set_option maxHeartbeats 1000000 in
set_option maxRecDepth 20000 in
theorem u32_any (b : Nat) (s : ByteArray) (k e : Nat) (w : World) (h : Rd w b s k e) (hk : k ≤ s.size) (hs : s.size ≤ 9223372036854775807) :
    Calls Try.prog 62 #[.pointer (some ⟨b, 0, none⟩)] w (Ans b s (.int .u32 ((fx 4 s k e).1 : Int)) (fx 4 s k e).2.1 (fx 4 s k e).2.2 w) := by
  by_cases he : e = 0
  · subst he
    by_cases hl : k + 4 ≤ s.size
    · rw [fx_ok hl]
      dsimp only
      have hc := fun w1 (hb : Below w.heap.size w w1) => cU32_ok b s k w1 (h.below hb h.lt) hl hs
      generalize be (bl (s.extract k (k + 4))) = v at hc ⊢
      have ha := att_ok_u32 b s k (k + 4) 78 #[] _ w h cU32_in (fun w1 hb => by simpa using hc w1 hb)
      go_enter Try.func62, Try.ntmps62
      go_wp2_with (go_at_call 77; refine ha.mono ?_; rintro e w' ⟨rfl, hrd, hch⟩)
      go_ret2
      exact ⟨rfl, hrd, hch⟩
    · rw [fx_short hl]
      dsimp only
      have ha := att_quit_u32 b s k 20 78 #[] w h cU32_in (fun w1 hb => by simpa using cU32_short b s k w1 (h.below hb h.lt) hk hs hl)
      go_enter Try.func62, Try.ntmps62
      go_wp2_with (go_at_call 77; refine ha.mono ?_; rintro e w' ⟨rfl, hrd, hch⟩)
      go_ret2
      exact ⟨rfl, hrd, hch⟩
  · rw [fx_stale he]
    dsimp only
    have ha := fun fv => att_stale_u32 b s k e fv w h he
    have HE := Hid.mk he
    clear he
    go_enter Try.func62, Try.ntmps62
    go_wp2_with (go_at_call 77; refine (ha _).mono ?_; rintro e w' ⟨rfl, hrd, hch⟩)
    go_ret2
    exact ⟨rfl, hrd, hch⟩
set_option maxHeartbeats 1000000 in
set_option maxRecDepth 20000 in
theorem cI32_ok (b : Nat) (s : ByteArray) (k : Nat) (w : World) (h : Rd w b s k 0) (hk : k + 4 ≤ s.size) (hs : s.size ≤ 9223372036854775807) :
    Calls Try.prog 75 #[.pointer (some ⟨b, 0, none⟩)] w (Gets b s (.int .i32 (wrap32 (be (bl (s.extract k (k + 4))) : Int))) (k + 4) w) := by
  have hb := be_ext s k 4 hk
  have hn := number_ok b s k 4 w h hk hs (by omega)
  generalize be (bl (s.extract k (k + 4))) = v at hb hn ⊢
  go_enter Try.func75, Try.ntmps75
  go_wp2_with (go_at_call 71; refine hn.mono ?_; rintro e w' ⟨rfl, hrd, hch⟩)
  go_ret
  exact ⟨rfl, hrd, hch⟩
set_option maxHeartbeats 1000000 in
set_option maxRecDepth 20000 in
theorem cI32_short (b : Nat) (s : ByteArray) (k : Nat) (w : World) (h : Rd w b s k 0) (hk : k ≤ s.size) (hs : s.size ≤ 9223372036854775807) (hl : ¬ k + 4 ≤ s.size) :
    Calls Try.prog 75 #[.pointer (some ⟨b, 0, none⟩)] w (Quits b s 20 w) := by
  go_enter Try.func75, Try.ntmps75
  go_wp2_with (go_at_call 71; refine (number_short b s k 4 w h hk hs (by omega)).mono ?_; rintro e w' ⟨rfl, hrd, hch⟩)
  exact ⟨rfl, rfl, hrd, hch⟩
theorem cI32_in (args : Array Value) (w : World) : (callFunc 75 args).run Try.prog w = .ok (.enter 75 args) w := by
  simp [go_sem]
set_option maxHeartbeats 1000000 in
set_option maxRecDepth 20000 in
theorem i32_any (b : Nat) (s : ByteArray) (k e : Nat) (w : World) (h : Rd w b s k e) (hk : k ≤ s.size) (hs : s.size ≤ 9223372036854775807) :
    Calls Try.prog 59 #[.pointer (some ⟨b, 0, none⟩)] w (Ans b s (.int .i32 (wrap32 ((fx 4 s k e).1 : Int))) (fx 4 s k e).2.1 (fx 4 s k e).2.2 w) := by
  by_cases he : e = 0
  · subst he
    by_cases hl : k + 4 ≤ s.size
    · rw [fx_ok hl]
      dsimp only
      have hc := fun w1 (hb : Below w.heap.size w w1) => cI32_ok b s k w1 (h.below hb h.lt) hl hs
      generalize be (bl (s.extract k (k + 4))) = v at hc ⊢
      have ha := att_ok_i32 b s k (k + 4) 75 #[] _ w h cI32_in (fun w1 hb => by simpa using hc w1 hb)
      go_enter Try.func59, Try.ntmps59
      go_wp2_with (go_at_call 74; refine ha.mono ?_; rintro e w' ⟨rfl, hrd, hch⟩)
      go_ret2
      exact ⟨rfl, hrd, hch⟩
    · rw [fx_short hl]
      dsimp only
      rw [show wrap32 ((0 : Nat) : Int) = 0 from by simp [wrap32]]
      have ha := att_quit_i32 b s k 20 75 #[] w h cI32_in (fun w1 hb => by simpa using cI32_short b s k w1 (h.below hb h.lt) hk hs hl)
      go_enter Try.func59, Try.ntmps59
      go_wp2_with (go_at_call 74; refine ha.mono ?_; rintro e w' ⟨rfl, hrd, hch⟩)
      go_ret2
      exact ⟨rfl, hrd, hch⟩
  · rw [fx_stale he]
    dsimp only
    rw [show wrap32 ((0 : Nat) : Int) = 0 from by simp [wrap32]]
    have ha := fun fv => att_stale_i32 b s k e fv w h he
    have HE := Hid.mk he
    clear he
    go_enter Try.func59, Try.ntmps59
    go_wp2_with (go_at_call 74; refine (ha _).mono ?_; rintro e w' ⟨rfl, hrd, hch⟩)
    go_ret2
    exact ⟨rfl, hrd, hch⟩
set_option maxHeartbeats 1000000 in
set_option maxRecDepth 20000 in
theorem cI64_ok (b : Nat) (s : ByteArray) (k : Nat) (w : World) (h : Rd w b s k 0) (hk : k + 8 ≤ s.size) (hs : s.size ≤ 9223372036854775807) :
    Calls Try.prog 83 #[.pointer (some ⟨b, 0, none⟩)] w (Gets b s (.int .i64 (wrap64 (be (bl (s.extract k (k + 8))) : Int))) (k + 8) w) := by
  have hb := be_ext s k 8 hk
  have hn := number_ok b s k 8 w h hk hs (by omega)
  generalize be (bl (s.extract k (k + 8))) = v at hb hn ⊢
  go_enter Try.func83, Try.ntmps83
  go_wp2_with (go_at_call 71; refine hn.mono ?_; rintro e w' ⟨rfl, hrd, hch⟩)
  go_ret
  exact ⟨rfl, hrd, hch⟩
set_option maxHeartbeats 1000000 in
set_option maxRecDepth 20000 in
theorem cI64_short (b : Nat) (s : ByteArray) (k : Nat) (w : World) (h : Rd w b s k 0) (hk : k ≤ s.size) (hs : s.size ≤ 9223372036854775807) (hl : ¬ k + 8 ≤ s.size) :
    Calls Try.prog 83 #[.pointer (some ⟨b, 0, none⟩)] w (Quits b s 20 w) := by
  go_enter Try.func83, Try.ntmps83
  go_wp2_with (go_at_call 71; refine (number_short b s k 8 w h hk hs (by omega)).mono ?_; rintro e w' ⟨rfl, hrd, hch⟩)
  exact ⟨rfl, rfl, hrd, hch⟩
theorem cI64_in (args : Array Value) (w : World) : (callFunc 83 args).run Try.prog w = .ok (.enter 83 args) w := by
  simp [go_sem]
set_option maxHeartbeats 1000000 in
set_option maxRecDepth 20000 in
theorem i64_any (b : Nat) (s : ByteArray) (k e : Nat) (w : World) (h : Rd w b s k e) (hk : k ≤ s.size) (hs : s.size ≤ 9223372036854775807) :
    Calls Try.prog 66 #[.pointer (some ⟨b, 0, none⟩)] w (Ans b s (.int .i64 (wrap64 ((fx 8 s k e).1 : Int))) (fx 8 s k e).2.1 (fx 8 s k e).2.2 w) := by
  by_cases he : e = 0
  · subst he
    by_cases hl : k + 8 ≤ s.size
    · rw [fx_ok hl]
      dsimp only
      have hc := fun w1 (hb : Below w.heap.size w w1) => cI64_ok b s k w1 (h.below hb h.lt) hl hs
      generalize be (bl (s.extract k (k + 8))) = v at hc ⊢
      have ha := att_ok_i64 b s k (k + 8) 83 #[] _ w h cI64_in (fun w1 hb => by simpa using hc w1 hb)
      go_enter Try.func66, Try.ntmps66
      go_wp2_with (go_at_call 82; refine ha.mono ?_; rintro e w' ⟨rfl, hrd, hch⟩)
      go_ret2
      exact ⟨rfl, hrd, hch⟩
    · rw [fx_short hl]
      dsimp only
      rw [show wrap64 ((0 : Nat) : Int) = 0 from by simp [wrap64]]
      have ha := att_quit_i64 b s k 20 83 #[] w h cI64_in (fun w1 hb => by simpa using cI64_short b s k w1 (h.below hb h.lt) hk hs hl)
      go_enter Try.func66, Try.ntmps66
      go_wp2_with (go_at_call 82; refine ha.mono ?_; rintro e w' ⟨rfl, hrd, hch⟩)
      go_ret2
      exact ⟨rfl, hrd, hch⟩
  · rw [fx_stale he]
    dsimp only
    rw [show wrap64 ((0 : Nat) : Int) = 0 from by simp [wrap64]]
    have ha := fun fv => att_stale_i64 b s k e fv w h he
    have HE := Hid.mk he
    clear he
    go_enter Try.func66, Try.ntmps66
    go_wp2_with (go_at_call 82; refine (ha _).mono ?_; rintro e w' ⟨rfl, hrd, hch⟩)
    go_ret2
    exact ⟨rfl, hrd, hch⟩
end Go.Proofs.Ytgdaaohlongmlaa
