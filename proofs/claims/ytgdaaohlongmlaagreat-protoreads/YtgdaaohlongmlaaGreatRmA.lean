/- What a reader's calls for numbers answer, of whatever bytes, wherever it stands, with or without an error. -/
import Derived.Test.YtgdaaohlongmlaaGreatSays
import Derived.Test.YtgdaaohlongmlaaGreatAttU
import Derived.Test.YtgdaaohlongmlaaGreatAtt2
namespace Go.Proofs.YtgdaaohlongmlaaGreat
open Go.RowKit
set_option maxHeartbeats 1000000 in
set_option maxRecDepth 20000 in
theorem cU8_ok (b : Nat) (s : ByteArray) (k : Nat) (w : World) (h : Rd w b s k 0) (hk : k + 1 ≤ s.size) (hs : s.size ≤ 9223372036854775807) :
    Calls Tryz.prog 97 #[.pointer (some ⟨b, 0, none⟩)] w (Gets b s (.int .u8 (be (bl (s.extract k (k + 1))) : Int)) (k + 1) w) := by
  have hb := be_ext s k 1 hk
  have hn := number_ok b s k 1 w h hk hs (by omega)
  generalize be (bl (s.extract k (k + 1))) = v at hb hn ⊢
  go_enter Tryz.func97, Tryz.ntmps97
  go_wp2_with (go_at_call 98; refine hn.mono ?_; rintro e w' ⟨rfl, hrd, hch⟩)
  go_ret
  exact ⟨rfl, hrd, hch⟩
set_option maxHeartbeats 1000000 in
set_option maxRecDepth 20000 in
theorem cU8_short (b : Nat) (s : ByteArray) (k : Nat) (w : World) (h : Rd w b s k 0) (hk : k ≤ s.size) (hs : s.size ≤ 9223372036854775807) (hl : ¬ k + 1 ≤ s.size) :
    Calls Tryz.prog 97 #[.pointer (some ⟨b, 0, none⟩)] w (Quits b s 20 w) := by
  go_enter Tryz.func97, Tryz.ntmps97
  go_wp2_with (go_at_call 98; refine (number_short b s k 1 w h hk hs (by omega)).mono ?_; rintro e w' ⟨rfl, hrd, hch⟩)
  exact ⟨rfl, rfl, hrd, hch⟩
theorem cU8_in (args : Array Value) (w : World) : (callFunc 97 args).run Tryz.prog w = .ok (.enter 97 args) w := by
  simp [go_sem]
set_option maxHeartbeats 1000000 in
set_option maxRecDepth 20000 in
theorem u8_any (b : Nat) (s : ByteArray) (k e : Nat) (w : World) (h : Rd w b s k e) (hk : k ≤ s.size) (hs : s.size ≤ 9223372036854775807) :
    Calls Tryz.prog 79 #[.pointer (some ⟨b, 0, none⟩)] w (Ans b s (.int .u8 ((fx 1 s k e).1 : Int)) (fx 1 s k e).2.1 (fx 1 s k e).2.2 w) := by
  by_cases he : e = 0
  · subst he
    by_cases hl : k + 1 ≤ s.size
    · rw [fx_ok hl]
      dsimp only
      have hc := fun w1 (hb : Below w.heap.size w w1) => cU8_ok b s k w1 (h.below hb h.lt) hl hs
      generalize be (bl (s.extract k (k + 1))) = v at hc ⊢
      have ha := att_ok_u8 b s k (k + 1) 97 #[] _ w h cU8_in (fun w1 hb => by simpa using hc w1 hb)
      go_enter Tryz.func79, Tryz.ntmps79
      go_wp2_with (go_at_call 96; refine ha.mono ?_; rintro e w' ⟨rfl, hrd, hch⟩)
      go_ret2
      exact ⟨rfl, hrd, hch⟩
    · rw [fx_short hl]
      dsimp only
      have ha := att_quit_u8 b s k 20 97 #[] w h cU8_in (fun w1 hb => by simpa using cU8_short b s k w1 (h.below hb h.lt) hk hs hl)
      go_enter Tryz.func79, Tryz.ntmps79
      go_wp2_with (go_at_call 96; refine ha.mono ?_; rintro e w' ⟨rfl, hrd, hch⟩)
      go_ret2
      exact ⟨rfl, hrd, hch⟩
  · rw [fx_stale he]
    dsimp only
    have ha := fun fv => att_stale_u8 b s k e fv w h he
    have HE := Hid.mk he
    clear he
    go_enter Tryz.func79, Tryz.ntmps79
    go_wp2_with (go_at_call 96; refine (ha _).mono ?_; rintro e w' ⟨rfl, hrd, hch⟩)
    go_ret2
    exact ⟨rfl, hrd, hch⟩
end Go.Proofs.YtgdaaohlongmlaaGreat
