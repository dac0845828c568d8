/- What the calls of the document's own reader answer, wherever it stands, with or without an error. -/
import Derived.Test.YtgdaaohlongmlaaGreatRX
namespace Go.Proofs.YtgdaaohlongmlaaGreat
open Go.RowKit
theorem fx_lt (n : Nat) (s : ByteArray) (k e : Nat) : (fx n s k e).1 < 256 ^ n := by
  have hp : 0 < 256 ^ n := Nat.pow_pos (by omega)
  by_cases he : e = 0
  · subst he
    by_cases h : k + n ≤ s.size
    · rw [fx_ok h]; exact be_ext s k n h
    · rw [fx_short h]; exact hp
  · rw [fx_stale he]; exact hp
set_option maxHeartbeats 1000000 in
set_option maxRecDepth 20000 in
theorem xfixed_any (b : Nat) (s : ByteArray) (k e n : Nat) (w : World) (h : RX w b s k e) (hk : k ≤ s.size) (hs : s.size ≤ 9223372036854775807) (hn : n ≤ 8) :
    Calls Tryz.prog 82 #[.pointer (some ⟨b, 0, none⟩), .int .i64 n] w (AnsX b s (.int .u64 (fx n s k e).1) (fx n s k e).2.1 (fx n s k e).2.2 w) := by
  have c2 := h.cE
  by_cases he : e = 0
  · subst he
    by_cases hl : k + n ≤ s.size
    · rw [fx_ok hl]
      exact xfixed_ok b s k n w h hl hs hn
    · rw [fx_short hl]
      dsimp only
      have tl := xleft_any b s k 0 w h hk hs
      go_enter Tryz.func82, Tryz.ntmps82
      go_wp2_with (first
        | (go_at_call 84; refine tl.mono ?_; rintro e w' ⟨rfl, n1, rfl⟩)
        | (go_at_call 101; refine (xfail_new b s k 20 _ (h.drewN _)).mono ?_; rintro e w' ⟨rfl, rfl⟩))
      go_ret2
      exact ⟨rfl, (h.drewN _).setE 20, ((Ch.refl _ _).drewN _).setCell _ _ (fun _ => rfl)⟩
  · rw [fx_stale he]
    dsimp only
    have hne : ((e : Int) != 0) = true := by rw [bne_iff_ne]; omega
    have HE := Hid.mk he
    clear he
    go_enter Tryz.func82, Tryz.ntmps82
    go_wp2_with (first
      | (go_at_call 101; refine (xfail_old b s k e _ _ h HE.out).mono ?_; rintro e w' ⟨rfl, rfl⟩))
    go_ret2
    exact ⟨rfl, h, Ch.refl _ _⟩
set_option maxHeartbeats 1000000 in
set_option maxRecDepth 20000 in
theorem xu8_any (b : Nat) (s : ByteArray) (k e : Nat) (w : World) (h : RX w b s k e) (hk : k ≤ s.size) (hs : s.size ≤ 9223372036854775807) :
    Calls Tryz.prog 38 #[.pointer (some ⟨b, 0, none⟩)] w (AnsX b s (.int .u8 ((fx 1 s k e).1 : Int)) (fx 1 s k e).2.1 (fx 1 s k e).2.2 w) := by
  have hf := xfixed_any b s k e 1 w h hk hs (by omega)
  have hv := fx_lt 1 s k e
  generalize fx 1 s k e = q at hf hv ⊢
  obtain ⟨v, K, E⟩ := q
  dsimp only at hf hv ⊢
  go_enter Tryz.func38, Tryz.ntmps38
  go_wp2_with (go_at_call 82; refine hf.mono ?_; rintro e w' ⟨rfl, h1, h2⟩)
  go_ret2
  exact ⟨rfl, h1, h2⟩
set_option maxHeartbeats 1000000 in
set_option maxRecDepth 20000 in
theorem xu32_any (b : Nat) (s : ByteArray) (k e : Nat) (w : World) (h : RX w b s k e) (hk : k ≤ s.size) (hs : s.size ≤ 9223372036854775807) :
    Calls Tryz.prog 83 #[.pointer (some ⟨b, 0, none⟩)] w (AnsX b s (.int .u32 ((fx 4 s k e).1 : Int)) (fx 4 s k e).2.1 (fx 4 s k e).2.2 w) := by
  have hf := xfixed_any b s k e 4 w h hk hs (by omega)
  have hv := fx_lt 4 s k e
  generalize fx 4 s k e = q at hf hv ⊢
  obtain ⟨v, K, E⟩ := q
  dsimp only at hf hv ⊢
  go_enter Tryz.func83, Tryz.ntmps83
  go_wp2_with (go_at_call 82; refine hf.mono ?_; rintro e w' ⟨rfl, h1, h2⟩)
  go_ret2
  exact ⟨rfl, h1, h2⟩
set_option maxHeartbeats 1000000 in
set_option maxRecDepth 20000 in
theorem xi32_any (b : Nat) (s : ByteArray) (k e : Nat) (w : World) (h : RX w b s k e) (hk : k ≤ s.size) (hs : s.size ≤ 9223372036854775807) :
    Calls Tryz.prog 43 #[.pointer (some ⟨b, 0, none⟩)] w (AnsX b s (.int .i32 (wrap32 ((fx 4 s k e).1 : Int))) (fx 4 s k e).2.1 (fx 4 s k e).2.2 w) := by
  have hf := xfixed_any b s k e 4 w h hk hs (by omega)
  have hv := fx_lt 4 s k e
  generalize fx 4 s k e = q at hf hv ⊢
  obtain ⟨v, K, E⟩ := q
  dsimp only at hf hv ⊢
  go_enter Tryz.func43, Tryz.ntmps43
  go_wp2_with (go_at_call 82; refine hf.mono ?_; rintro e w' ⟨rfl, h1, h2⟩)
  go_ret2
  exact ⟨rfl, h1, h2⟩
set_option maxHeartbeats 1000000 in
set_option maxRecDepth 20000 in
theorem xi64_any (b : Nat) (s : ByteArray) (k e : Nat) (w : World) (h : RX w b s k e) (hk : k ≤ s.size) (hs : s.size ≤ 9223372036854775807) :
    Calls Tryz.prog 40 #[.pointer (some ⟨b, 0, none⟩)] w (AnsX b s (.int .i64 (wrap64 ((fx 8 s k e).1 : Int))) (fx 8 s k e).2.1 (fx 8 s k e).2.2 w) := by
  have hf := xfixed_any b s k e 8 w h hk hs (by omega)
  have hv := fx_lt 8 s k e
  generalize fx 8 s k e = q at hf hv ⊢
  obtain ⟨v, K, E⟩ := q
  dsimp only at hf hv ⊢
  go_enter Tryz.func40, Tryz.ntmps40
  go_wp2_with (go_at_call 82; refine hf.mono ?_; rintro e w' ⟨rfl, h1, h2⟩)
  go_ret2
  exact ⟨rfl, h1, h2⟩
end Go.Proofs.YtgdaaohlongmlaaGreat
