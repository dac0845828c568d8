/- What a reader's calls for numbers answer, of whatever bytes, wherever it stands, with or without an error. -/
import Derived.Test.YtpfaioncaolmjaaGreatSays
import Derived.Test.YtpfaioncaolmjaaGreatAttU
import Derived.Test.YtpfaioncaolmjaaGreatAtt2
namespace Go.Proofs.YtpfaioncaolmjaaGreat
open Go.RowKit
set_option maxHeartbeats 1000000 in
set_option maxRecDepth 20000 in
theorem cU8_ok (b : Nat) (s : ByteArray) (k : Nat) (w : World) (h : Rd w b s k 0) (hk : k + 1 ≤ s.size) (hs : s.size ≤ 9223372036854775807) :
    Calls Tryz.prog 81 #[.pointer (some ⟨b, 0, none⟩)] w (Gets b s (.int .u8 (be (bl (s.extract k (k + 1))) : Int)) (k + 1) w) := by
  have hb := be_ext s k 1 hk
  have hn := number_ok b s k 1 w h hk hs (by omega)
  generalize be (bl (s.extract k (k + 1))) = v at hb hn ⊢
  go_enter Tryz.func81, Tryz.ntmps81
  go_wp2_with (go_at_call 63; refine hn.mono ?_; rintro e w' ⟨rfl, hrd, hch⟩)
  go_ret
  exact ⟨rfl, hrd, hch⟩
set_option maxHeartbeats 1000000 in
set_option maxRecDepth 20000 in
theorem cU8_short (b : Nat) (s : ByteArray) (k : Nat) (w : World) (h : Rd w b s k 0) (hk : k ≤ s.size) (hs : s.size ≤ 9223372036854775807) (hl : ¬ k + 1 ≤ s.size) :
    Calls Tryz.prog 81 #[.pointer (some ⟨b, 0, none⟩)] w (Quits b s 20 w) := by
  go_enter Tryz.func81, Tryz.ntmps81
  go_wp2_with (go_at_call 63; refine (number_short b s k 1 w h hk hs (by omega)).mono ?_; rintro e w' ⟨rfl, hrd, hch⟩)
  exact ⟨rfl, rfl, hrd, hch⟩
theorem cU8_in (args : Array Value) (w : World) : (callFunc 81 args).run Tryz.prog w = .ok (.enter 81 args) w := by
  simp [go_sem]
set_option maxHeartbeats 1000000 in
set_option maxRecDepth 20000 in
theorem u8_any (b : Nat) (s : ByteArray) (k e : Nat) (w : World) (h : Rd w b s k e) (hk : k ≤ s.size) (hs : s.size ≤ 9223372036854775807) :
    Calls Tryz.prog 29 #[.pointer (some ⟨b, 0, none⟩)] w (Ans b s (.int .u8 ((fx 1 s k e).1 : Int)) (fx 1 s k e).2.1 (fx 1 s k e).2.2 w) := by
  by_cases he : e = 0
  · subst he
    by_cases hl : k + 1 ≤ s.size
    · rw [fx_ok hl]
      dsimp only
      have hc := fun w1 (hb : Below w.heap.size w w1) => cU8_ok b s k w1 (h.below hb h.lt) hl hs
      generalize be (bl (s.extract k (k + 1))) = v at hc ⊢
      have ha := att_ok_u8 b s k (k + 1) 81 #[] _ w h cU8_in (fun w1 hb => by simpa using hc w1 hb)
      go_enter Tryz.func29, Tryz.ntmps29
      go_wp2_with (go_at_call 80; refine ha.mono ?_; rintro e w' ⟨rfl, hrd, hch⟩)
      go_ret2
      exact ⟨rfl, hrd, hch⟩
    · rw [fx_short hl]
      dsimp only
      have ha := att_quit_u8 b s k 20 81 #[] w h cU8_in (fun w1 hb => by simpa using cU8_short b s k w1 (h.below hb h.lt) hk hs hl)
      go_enter Tryz.func29, Tryz.ntmps29
      go_wp2_with (go_at_call 80; refine ha.mono ?_; rintro e w' ⟨rfl, hrd, hch⟩)
      go_ret2
      exact ⟨rfl, hrd, hch⟩
  · rw [fx_stale he]
    dsimp only
    have ha := fun fv => att_stale_u8 b s k e fv w h he
    have HE := Hid.mk he
    clear he
    go_enter Tryz.func29, Tryz.ntmps29
    go_wp2_with (go_at_call 80; refine (ha _).mono ?_; rintro e w' ⟨rfl, hrd, hch⟩)
    go_ret2
    exact ⟨rfl, hrd, hch⟩
set_option maxHeartbeats 1000000 in
set_option maxRecDepth 20000 in
theorem cU16_ok (b : Nat) (s : ByteArray) (k : Nat) (w : World) (h : Rd w b s k 0) (hk : k + 2 ≤ s.size) (hs : s.size ≤ 9223372036854775807) :
    Calls Tryz.prog 87 #[.pointer (some ⟨b, 0, none⟩)] w (Gets b s (.int .u16 (be (bl (s.extract k (k + 2))) : Int)) (k + 2) w) := by
  have hb := be_ext s k 2 hk
  have hn := number_ok b s k 2 w h hk hs (by omega)
  generalize be (bl (s.extract k (k + 2))) = v at hb hn ⊢
  go_enter Tryz.func87, Tryz.ntmps87
  go_wp2_with (go_at_call 63; refine hn.mono ?_; rintro e w' ⟨rfl, hrd, hch⟩)
  go_ret
  exact ⟨rfl, hrd, hch⟩
set_option maxHeartbeats 1000000 in
set_option maxRecDepth 20000 in
theorem cU16_short (b : Nat) (s : ByteArray) (k : Nat) (w : World) (h : Rd w b s k 0) (hk : k ≤ s.size) (hs : s.size ≤ 9223372036854775807) (hl : ¬ k + 2 ≤ s.size) :
    Calls Tryz.prog 87 #[.pointer (some ⟨b, 0, none⟩)] w (Quits b s 20 w) := by
  go_enter Tryz.func87, Tryz.ntmps87
  go_wp2_with (go_at_call 63; refine (number_short b s k 2 w h hk hs (by omega)).mono ?_; rintro e w' ⟨rfl, hrd, hch⟩)
  exact ⟨rfl, rfl, hrd, hch⟩
theorem cU16_in (args : Array Value) (w : World) : (callFunc 87 args).run Tryz.prog w = .ok (.enter 87 args) w := by
  simp [go_sem]
set_option maxHeartbeats 1000000 in
set_option maxRecDepth 20000 in
theorem u16_any (b : Nat) (s : ByteArray) (k e : Nat) (w : World) (h : Rd w b s k e) (hk : k ≤ s.size) (hs : s.size ≤ 9223372036854775807) :
    Calls Tryz.prog 50 #[.pointer (some ⟨b, 0, none⟩)] w (Ans b s (.int .u16 ((fx 2 s k e).1 : Int)) (fx 2 s k e).2.1 (fx 2 s k e).2.2 w) := by
  by_cases he : e = 0
  · subst he
    by_cases hl : k + 2 ≤ s.size
    · rw [fx_ok hl]
      dsimp only
      have hc := fun w1 (hb : Below w.heap.size w w1) => cU16_ok b s k w1 (h.below hb h.lt) hl hs
      generalize be (bl (s.extract k (k + 2))) = v at hc ⊢
      have ha := att_ok_u16 b s k (k + 2) 87 #[] _ w h cU16_in (fun w1 hb => by simpa using hc w1 hb)
      go_enter Tryz.func50, Tryz.ntmps50
      go_wp2_with (go_at_call 86; refine ha.mono ?_; rintro e w' ⟨rfl, hrd, hch⟩)
      go_ret2
      exact ⟨rfl, hrd, hch⟩
    · rw [fx_short hl]
      dsimp only
      have ha := att_quit_u16 b s k 20 87 #[] w h cU16_in (fun w1 hb => by simpa using cU16_short b s k w1 (h.below hb h.lt) hk hs hl)
      go_enter Tryz.func50, Tryz.ntmps50
      go_wp2_with (go_at_call 86; refine ha.mono ?_; rintro e w' ⟨rfl, hrd, hch⟩)
      go_ret2
      exact ⟨rfl, hrd, hch⟩
  · rw [fx_stale he]
    dsimp only
    have ha := fun fv => att_stale_u16 b s k e fv w h he
    have HE := Hid.mk he
    clear he
    go_enter Tryz.func50, Tryz.ntmps50
    go_wp2_with (go_at_call 86; refine (ha _).mono ?_; rintro e w' ⟨rfl, hrd, hch⟩)
    go_ret2
    exact ⟨rfl, hrd, hch⟩
set_option maxHeartbeats 1000000 in
set_option maxRecDepth 20000 in
theorem cU64_ok (b : Nat) (s : ByteArray) (k : Nat) (w : World) (h : Rd w b s k 0) (hk : k + 8 ≤ s.size) (hs : s.size ≤ 9223372036854775807) :
    Calls Tryz.prog 62 #[.pointer (some ⟨b, 0, none⟩)] w (Gets b s (.int .u64 (be (bl (s.extract k (k + 8))) : Int)) (k + 8) w) := by
  have hb := be_ext s k 8 hk
  have hn := number_ok b s k 8 w h hk hs (by omega)
  generalize be (bl (s.extract k (k + 8))) = v at hb hn ⊢
  go_enter Tryz.func62, Tryz.ntmps62
  go_wp2_with (go_at_call 63; refine hn.mono ?_; rintro e w' ⟨rfl, hrd, hch⟩)
  go_ret
  exact ⟨rfl, hrd, hch⟩
set_option maxHeartbeats 1000000 in
set_option maxRecDepth 20000 in
theorem cU64_short (b : Nat) (s : ByteArray) (k : Nat) (w : World) (h : Rd w b s k 0) (hk : k ≤ s.size) (hs : s.size ≤ 9223372036854775807) (hl : ¬ k + 8 ≤ s.size) :
    Calls Tryz.prog 62 #[.pointer (some ⟨b, 0, none⟩)] w (Quits b s 20 w) := by
  go_enter Tryz.func62, Tryz.ntmps62
  go_wp2_with (go_at_call 63; refine (number_short b s k 8 w h hk hs (by omega)).mono ?_; rintro e w' ⟨rfl, hrd, hch⟩)
  exact ⟨rfl, rfl, hrd, hch⟩
theorem cU64_in (args : Array Value) (w : World) : (callFunc 62 args).run Tryz.prog w = .ok (.enter 62 args) w := by
  simp [go_sem]
set_option maxHeartbeats 1000000 in
set_option maxRecDepth 20000 in
theorem u64_any (b : Nat) (s : ByteArray) (k e : Nat) (w : World) (h : Rd w b s k e) (hk : k ≤ s.size) (hs : s.size ≤ 9223372036854775807) :
    Calls Tryz.prog 17 #[.pointer (some ⟨b, 0, none⟩)] w (Ans b s (.int .u64 ((fx 8 s k e).1 : Int)) (fx 8 s k e).2.1 (fx 8 s k e).2.2 w) := by
  by_cases he : e = 0
  · subst he
    by_cases hl : k + 8 ≤ s.size
    · rw [fx_ok hl]
      dsimp only
      have hc := fun w1 (hb : Below w.heap.size w w1) => cU64_ok b s k w1 (h.below hb h.lt) hl hs
      generalize be (bl (s.extract k (k + 8))) = v at hc ⊢
      have ha := att_ok_u64 b s k (k + 8) 62 #[] _ w h cU64_in (fun w1 hb => by simpa using hc w1 hb)
      go_enter Tryz.func17, Tryz.ntmps17
      go_wp2_with (go_at_call 61; refine ha.mono ?_; rintro e w' ⟨rfl, hrd, hch⟩)
      go_ret2
      exact ⟨rfl, hrd, hch⟩
    · rw [fx_short hl]
      dsimp only
      have ha := att_quit_u64 b s k 20 62 #[] w h cU64_in (fun w1 hb => by simpa using cU64_short b s k w1 (h.below hb h.lt) hk hs hl)
      go_enter Tryz.func17, Tryz.ntmps17
      go_wp2_with (go_at_call 61; refine ha.mono ?_; rintro e w' ⟨rfl, hrd, hch⟩)
      go_ret2
      exact ⟨rfl, hrd, hch⟩
  · rw [fx_stale he]
    dsimp only
    have ha := fun fv => att_stale_u64 b s k e fv w h he
    have HE := Hid.mk he
    clear he
    go_enter Tryz.func17, Tryz.ntmps17
    go_wp2_with (go_at_call 61; refine (ha _).mono ?_; rintro e w' ⟨rfl, hrd, hch⟩)
    go_ret2
    exact ⟨rfl, hrd, hch⟩
end Go.Proofs.YtpfaioncaolmjaaGreat
