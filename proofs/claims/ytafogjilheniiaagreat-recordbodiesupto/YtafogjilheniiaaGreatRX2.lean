/- What the calls of the document's own reader answer, wherever it stands, with or without an error. -/
import Derived.Test.YtafogjilheniiaaGreatRX
namespace Go.Proofs.YtafogjilheniiaaGreat
open Go.RowKit
theorem fx_lt (n : Nat) (s : ByteArray) (k e : Nat) : (fx n s k e).1 < 256 ^ n := by
  have hp : 0 < 256 ^ n := Nat.pow_pos (by omega)
  by_cases he : e = 0
  · subst he
    by_cases h : k + n ≤ s.size
    · rw [fx_ok h]; exact be_ext s k n h
    · rw [fx_short h]; exact hp
  · rw [fx_stale he]; exact hp
set_option maxHeartbeats 1000000 in
set_option maxRecDepth 20000 in
theorem xfixed_any (b : Nat) (s : ByteArray) (k e n : Nat) (w : World) (h : RX w b s k e) (hk : k ≤ s.size) (hs : s.size ≤ 9223372036854775807) (hn : n ≤ 8) :
    Calls Tryz.prog 84 #[.pointer (some ⟨b, 0, none⟩), .int .i64 n] w (AnsX b s (.int .u64 (fx n s k e).1) (fx n s k e).2.1 (fx n s k e).2.2 w) := by
  have c2 := h.cE
  by_cases he : e = 0
  · subst he
    by_cases hl : k + n ≤ s.size
    · rw [fx_ok hl]
      exact xfixed_ok b s k n w h hl hs hn
    · rw [fx_short hl]
      dsimp only
      have tl := xleft_any b s k 0 w h hk hs
      go_enter Tryz.func84, Tryz.ntmps84
      go_wp2_with (first
        | (go_at_call 24; refine tl.mono ?_; rintro e w' ⟨rfl, n1, rfl⟩)
        | (go_at_call 52; refine (xfail_new b s k 20 _ (h.drewN _)).mono ?_; rintro e w' ⟨rfl, rfl⟩))
      go_ret2
      exact ⟨rfl, (h.drewN _).setE 20, ((Ch.refl _ _).drewN _).setCell _ _ (fun _ => rfl)⟩
  · rw [fx_stale he]
    dsimp only
    have hne : ((e : Int) != 0) = true := by rw [bne_iff_ne]; omega
    have HE := Hid.mk he
    clear he
    go_enter Tryz.func84, Tryz.ntmps84
    go_wp2_with (first
      | (go_at_call 52; refine (xfail_old b s k e _ _ h HE.out).mono ?_; rintro e w' ⟨rfl, rfl⟩))
    go_ret2
    exact ⟨rfl, h, Ch.refl _ _⟩
set_option maxHeartbeats 1000000 in
set_option maxRecDepth 20000 in
theorem xu8_any (b : Nat) (s : ByteArray) (k e : Nat) (w : World) (h : RX w b s k e) (hk : k ≤ s.size) (hs : s.size ≤ 9223372036854775807) :
    Calls Tryz.prog 54 #[.pointer (some ⟨b, 0, none⟩)] w (AnsX b s (.int .u8 ((fx 1 s k e).1 : Int)) (fx 1 s k e).2.1 (fx 1 s k e).2.2 w) := by
  have hf := xfixed_any b s k e 1 w h hk hs (by omega)
  have hv := fx_lt 1 s k e
  generalize fx 1 s k e = q at hf hv ⊢
  obtain ⟨v, K, E⟩ := q
  dsimp only at hf hv ⊢
  go_enter Tryz.func54, Tryz.ntmps54
  go_wp2_with (go_at_call 84; refine hf.mono ?_; rintro e w' ⟨rfl, h1, h2⟩)
  go_ret2
  exact ⟨rfl, h1, h2⟩
set_option maxHeartbeats 1000000 in
set_option maxRecDepth 20000 in
theorem xuvarint_any (b : Nat) (s : ByteArray) (k e : Nat) (w : World) (h : RX w b s k e) (hk : k ≤ s.size) (hs : s.size ≤ 9223372036854775807) :
    Calls Tryz.prog 23 #[.pointer (some ⟨b, 0, none⟩)] w (AnsX b s (.int .u64 (uq s k e).1) (uq s k e).2.1 (uq s k e).2.2 w) := by
  have c0 := h.cS
  have c1 := h.cK
  have c2 := h.cE
  have f1 := h.fz 1
  by_cases he : e = 0
  · subst he
    have hz := tl_size s k
    have hrd := fun w' => rread_any (tl s k) w' (by omega)
    have hbd := rd_bds (tl s k)
    by_cases hl : rde (tl s k) = 0
    · rw [uq_ok hl]
      dsimp only
      rw [hl] at hrd
      have hsl : s.extract k s.size = tl s k := rfl
      generalize tl s k = t at *
      obtain ⟨hb1, hb2, hb3⟩ := hbd
      go_enter Tryz.func23, Tryz.ntmps23
      go_wp2_with fail
      go_region_held (fun w' => w'.cell? ⟨b, 0, none⟩ = some (.string s) ∧ w'.cell? ⟨b, 1, none⟩ = some (.int .i64 k) ∧ w'.cell? ⟨b, 2, none⟩ = some (.int .i64 0)) ((refine ⟨?_, ?_, ?_⟩ <;> go_simp)) ((go_at_call 51; refine (hrd _).mono ?_; rintro e w' ⟨rfl, rfl⟩))
      all_goals
        go_wp2
        go_ret2
        exact ⟨rfl, h.drew.setK (k + rdn t), ((Ch.refl _ _).drew).setCell _ _ (fun _ => rfl)⟩
    · rw [uq_bad hl]
      dsimp only
      have hz0 := M.rd_zero (bl (tl s k)) 0 0 hl
      have hv0 : rdv (tl s k) = 0 := hz0.1
      have hn0 : rdn (tl s k) = 0 := hz0.2
      rw [hv0, hn0] at hrd
      have hsl : s.extract k s.size = tl s k := rfl
      generalize tl s k = t at *
      have hne : ((rde t : Int) != 0) = true := by rw [bne_iff_ne]; omega
      clear hl hz0 hv0 hn0 hbd
      go_enter Tryz.func23, Tryz.ntmps23
      go_wp2_with fail
      go_region_held (fun w' => w'.cell? ⟨b, 0, none⟩ = some (.string s) ∧ w'.cell? ⟨b, 1, none⟩ = some (.int .i64 k) ∧ w'.cell? ⟨b, 2, none⟩ = some (.int .i64 0)) ((refine ⟨?_, ?_, ?_⟩ <;> go_simp)) ((go_at_call 51; refine (hrd _).mono ?_; rintro e w' ⟨rfl, rfl⟩))
      all_goals
        go_wp2_with (go_at_call 52; refine (xfail_new b s k (rde t) _ h.drew).mono ?_; rintro e w' ⟨rfl, rfl⟩)
        go_ret2
        exact ⟨rfl, h.drew.setE (rde t), ((Ch.refl _ _).drew).setCell _ _ (fun _ => rfl)⟩
  · rw [uq_stale he]
    dsimp only
    have hne : ((e : Int) != 0) = true := by rw [bne_iff_ne]; omega
    clear he
    go_enter Tryz.func23, Tryz.ntmps23
    go_wp2_with fail
    go_region_held (fun w' => w'.cell? ⟨b, 0, none⟩ = some (.string s) ∧ w'.cell? ⟨b, 1, none⟩ = some (.int .i64 k) ∧ w'.cell? ⟨b, 2, none⟩ = some (.int .i64 e)) ((refine ⟨?_, ?_, ?_⟩ <;> go_simp)) (fail)
    all_goals
      go_wp2
      go_ret2
      exact ⟨rfl, h.drew, (Ch.refl _ _).drew⟩
end Go.Proofs.YtafogjilheniiaaGreat
