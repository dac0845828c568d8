/- One number of a call, of both readers: the same answers; both stand the same behind it. -/
import Derived.Test.YtpaipoaelfhhlaaGreatRmA
import Derived.Test.YtpaipoaelfhhlaaGreatRmB
import Derived.Test.YtpaipoaelfhhlaaGreatRmC
import Derived.Test.YtpaipoaelfhhlaaGreatRX5
namespace Go.Proofs.YtpaipoaelfhhlaaGreat
open Go.RowKit
theorem fx_le {n : Nat} {s : ByteArray} {k e : Nat} (hk : k ≤ s.size) : (fx n s k e).2.1 ≤ s.size := by
  unfold fx; split
  · exact hk
  · split
    · assumption
    · exact hk
theorem uq_le {s : ByteArray} {k e : Nat} (hk : k ≤ s.size) : (uq s k e).2.1 ≤ s.size := by
  have hz := tl_size s k
  have hb := rd_bds (tl s k)
  unfold uq; split
  · exact hk
  · split
    · dsimp only; omega
    · exact hk
theorem vq_le {s : ByteArray} {k e : Nat} (hk : k ≤ s.size) : (vq s k e).2.1 ≤ s.size := by
  have hz := tl_size s k
  have hb := rd_bds (tl s k)
  unfold vq; split
  · exact hk
  · split
    · dsimp only; omega
    · exact hk
/-- Both readers stand the same behind a call that answered the same. -/
def Both (b q : Nat) (s : ByteArray) (w : World) (r : Ending) (w' : World) : Prop := r = .returned (.bool true) ∧ ∃ k' e', k' ≤ s.size ∧ Rd w' b s k' e' ∧ RX w' q s k' e' ∧ Ch (fun i => i = b ∨ i = q) w w'
set_option maxHeartbeats 2000000 in
set_option maxRecDepth 20000 in
theorem num0_any (b q : Nat) (s : ByteArray) (k e : Nat) (w : World) (hr : Rd w b s k e) (hx : RX w q s k e) (hbq : b ≠ q) (hk : k ≤ s.size) (hs : s.size ≤ 9223372036854775807) :
    Calls Tryz.prog 35 #[.pointer (some ⟨b, 0, none⟩), .pointer (some ⟨q, 0, none⟩), .int .u8 0] w (Both b q s w) := by
  have ha := u8_any b s k e w hr hk hs
  have hb := fun w' h' => xu8_any q s k e w' h' hk hs
  have hle := fx_le (s := s) (k := k) (e := e) (n := 1) hk
  generalize fx 1 s k e = z at ha hb hle
  obtain ⟨v, K, E⟩ := z
  dsimp only at ha hb hle
  go_enter Tryz.func35, Tryz.ntmps35
  go_wp2_with fail
  refine ha.mono ?_
  rintro r w1 ⟨rfl, h1, h2⟩
  have hx1 := hx.ch h2 (fun h => hbq h.symm)
  go_wp2_with fail
  refine (hb _ hx1).mono ?_
  rintro r w2 ⟨rfl, h3, h4⟩
  have hr2 := h1.ch h4 hbq
  go_wp2
  go_ret
  exact ⟨rfl, K, E, hle, hr2, h3, (h2.mono (fun _ _ h => Or.inl h)).trans (h4.mono (fun _ _ h => Or.inr h))⟩
set_option maxHeartbeats 2000000 in
set_option maxRecDepth 20000 in
theorem num1_any (b q : Nat) (s : ByteArray) (k e : Nat) (w : World) (hr : Rd w b s k e) (hx : RX w q s k e) (hbq : b ≠ q) (hk : k ≤ s.size) (hs : s.size ≤ 9223372036854775807) :
    Calls Tryz.prog 35 #[.pointer (some ⟨b, 0, none⟩), .pointer (some ⟨q, 0, none⟩), .int .u8 1] w (Both b q s w) := by
  have ha := u16_any b s k e w hr hk hs
  have hb := fun w' h' => xu16_any q s k e w' h' hk hs
  have hle := fx_le (s := s) (k := k) (e := e) (n := 2) hk
  generalize fx 2 s k e = z at ha hb hle
  obtain ⟨v, K, E⟩ := z
  dsimp only at ha hb hle
  go_enter Tryz.func35, Tryz.ntmps35
  go_wp2_with fail
  refine ha.mono ?_
  rintro r w1 ⟨rfl, h1, h2⟩
  have hx1 := hx.ch h2 (fun h => hbq h.symm)
  go_wp2_with fail
  refine (hb _ hx1).mono ?_
  rintro r w2 ⟨rfl, h3, h4⟩
  have hr2 := h1.ch h4 hbq
  go_wp2
  go_ret
  exact ⟨rfl, K, E, hle, hr2, h3, (h2.mono (fun _ _ h => Or.inl h)).trans (h4.mono (fun _ _ h => Or.inr h))⟩
set_option maxHeartbeats 2000000 in
set_option maxRecDepth 20000 in
theorem num2_any (b q : Nat) (s : ByteArray) (k e : Nat) (w : World) (hr : Rd w b s k e) (hx : RX w q s k e) (hbq : b ≠ q) (hk : k ≤ s.size) (hs : s.size ≤ 9223372036854775807) :
    Calls Tryz.prog 35 #[.pointer (some ⟨b, 0, none⟩), .pointer (some ⟨q, 0, none⟩), .int .u8 2] w (Both b q s w) := by
  have ha := u32_any b s k e w hr hk hs
  have hb := fun w' h' => xu32_any q s k e w' h' hk hs
  have hle := fx_le (s := s) (k := k) (e := e) (n := 4) hk
  generalize fx 4 s k e = z at ha hb hle
  obtain ⟨v, K, E⟩ := z
  dsimp only at ha hb hle
  go_enter Tryz.func35, Tryz.ntmps35
  go_wp2_with fail
  refine ha.mono ?_
  rintro r w1 ⟨rfl, h1, h2⟩
  have hx1 := hx.ch h2 (fun h => hbq h.symm)
  go_wp2_with fail
  refine (hb _ hx1).mono ?_
  rintro r w2 ⟨rfl, h3, h4⟩
  have hr2 := h1.ch h4 hbq
  go_wp2
  go_ret
  exact ⟨rfl, K, E, hle, hr2, h3, (h2.mono (fun _ _ h => Or.inl h)).trans (h4.mono (fun _ _ h => Or.inr h))⟩
set_option maxHeartbeats 2000000 in
set_option maxRecDepth 20000 in
theorem num3_any (b q : Nat) (s : ByteArray) (k e : Nat) (w : World) (hr : Rd w b s k e) (hx : RX w q s k e) (hbq : b ≠ q) (hk : k ≤ s.size) (hs : s.size ≤ 9223372036854775807) :
    Calls Tryz.prog 35 #[.pointer (some ⟨b, 0, none⟩), .pointer (some ⟨q, 0, none⟩), .int .u8 3] w (Both b q s w) := by
  have ha := u64_any b s k e w hr hk hs
  have hb := fun w' h' => xu64_any q s k e w' h' hk hs
  have hle := fx_le (s := s) (k := k) (e := e) (n := 8) hk
  generalize fx 8 s k e = z at ha hb hle
  obtain ⟨v, K, E⟩ := z
  dsimp only at ha hb hle
  go_enter Tryz.func35, Tryz.ntmps35
  go_wp2_with fail
  refine ha.mono ?_
  rintro r w1 ⟨rfl, h1, h2⟩
  have hx1 := hx.ch h2 (fun h => hbq h.symm)
  go_wp2_with fail
  refine (hb _ hx1).mono ?_
  rintro r w2 ⟨rfl, h3, h4⟩
  have hr2 := h1.ch h4 hbq
  go_wp2
  go_ret
  exact ⟨rfl, K, E, hle, hr2, h3, (h2.mono (fun _ _ h => Or.inl h)).trans (h4.mono (fun _ _ h => Or.inr h))⟩
set_option maxHeartbeats 2000000 in
set_option maxRecDepth 20000 in
theorem num4_any (b q : Nat) (s : ByteArray) (k e : Nat) (w : World) (hr : Rd w b s k e) (hx : RX w q s k e) (hbq : b ≠ q) (hk : k ≤ s.size) (hs : s.size ≤ 9223372036854775807) :
    Calls Tryz.prog 35 #[.pointer (some ⟨b, 0, none⟩), .pointer (some ⟨q, 0, none⟩), .int .u8 4] w (Both b q s w) := by
  have ha := i32_any b s k e w hr hk hs
  have hb := fun w' h' => xi32_any q s k e w' h' hk hs
  have hle := fx_le (s := s) (k := k) (e := e) (n := 4) hk
  generalize fx 4 s k e = z at ha hb hle
  obtain ⟨v, K, E⟩ := z
  dsimp only at ha hb hle
  go_enter Tryz.func35, Tryz.ntmps35
  go_wp2_with fail
  refine ha.mono ?_
  rintro r w1 ⟨rfl, h1, h2⟩
  have hx1 := hx.ch h2 (fun h => hbq h.symm)
  go_wp2_with fail
  refine (hb _ hx1).mono ?_
  rintro r w2 ⟨rfl, h3, h4⟩
  have hr2 := h1.ch h4 hbq
  go_wp2
  go_ret
  exact ⟨rfl, K, E, hle, hr2, h3, (h2.mono (fun _ _ h => Or.inl h)).trans (h4.mono (fun _ _ h => Or.inr h))⟩
set_option maxHeartbeats 2000000 in
set_option maxRecDepth 20000 in
theorem num5_any (b q : Nat) (s : ByteArray) (k e : Nat) (w : World) (hr : Rd w b s k e) (hx : RX w q s k e) (hbq : b ≠ q) (hk : k ≤ s.size) (hs : s.size ≤ 9223372036854775807) :
    Calls Tryz.prog 35 #[.pointer (some ⟨b, 0, none⟩), .pointer (some ⟨q, 0, none⟩), .int .u8 5] w (Both b q s w) := by
  have ha := i64_any b s k e w hr hk hs
  have hb := fun w' h' => xi64_any q s k e w' h' hk hs
  have hle := fx_le (s := s) (k := k) (e := e) (n := 8) hk
  generalize fx 8 s k e = z at ha hb hle
  obtain ⟨v, K, E⟩ := z
  dsimp only at ha hb hle
  go_enter Tryz.func35, Tryz.ntmps35
  go_wp2_with fail
  refine ha.mono ?_
  rintro r w1 ⟨rfl, h1, h2⟩
  have hx1 := hx.ch h2 (fun h => hbq h.symm)
  go_wp2_with fail
  refine (hb _ hx1).mono ?_
  rintro r w2 ⟨rfl, h3, h4⟩
  have hr2 := h1.ch h4 hbq
  go_wp2
  go_ret
  exact ⟨rfl, K, E, hle, hr2, h3, (h2.mono (fun _ _ h => Or.inl h)).trans (h4.mono (fun _ _ h => Or.inr h))⟩
set_option maxHeartbeats 2000000 in
set_option maxRecDepth 20000 in
theorem num6_any (b q : Nat) (s : ByteArray) (k e : Nat) (w : World) (hr : Rd w b s k e) (hx : RX w q s k e) (hbq : b ≠ q) (hk : k ≤ s.size) (hs : s.size ≤ 9223372036854775807) :
    Calls Tryz.prog 35 #[.pointer (some ⟨b, 0, none⟩), .pointer (some ⟨q, 0, none⟩), .int .u8 6] w (Both b q s w) := by
  have ha := uvarint_any b s k e w hr hk hs
  have hb := fun w' h' => xuvarint_any q s k e w' h' hk hs
  have hle := uq_le (s := s) (k := k) (e := e) hk
  generalize uq s k e = z at ha hb hle
  obtain ⟨v, K, E⟩ := z
  dsimp only at ha hb hle
  go_enter Tryz.func35, Tryz.ntmps35
  go_wp2_with fail
  refine ha.mono ?_
  rintro r w1 ⟨rfl, h1, h2⟩
  have hx1 := hx.ch h2 (fun h => hbq h.symm)
  go_wp2_with fail
  refine (hb _ hx1).mono ?_
  rintro r w2 ⟨rfl, h3, h4⟩
  have hr2 := h1.ch h4 hbq
  go_wp2
  go_ret
  exact ⟨rfl, K, E, hle, hr2, h3, (h2.mono (fun _ _ h => Or.inl h)).trans (h4.mono (fun _ _ h => Or.inr h))⟩
set_option maxHeartbeats 2000000 in
set_option maxRecDepth 20000 in
theorem num7_any (b q : Nat) (s : ByteArray) (k e : Nat) (w : World) (hr : Rd w b s k e) (hx : RX w q s k e) (hbq : b ≠ q) (hk : k ≤ s.size) (hs : s.size ≤ 9223372036854775807) :
    Calls Tryz.prog 35 #[.pointer (some ⟨b, 0, none⟩), .pointer (some ⟨q, 0, none⟩), .int .u8 7] w (Both b q s w) := by
  have ha := varint_any b s k e w hr hk hs
  have hb := fun w' h' => xvarint_any q s k e w' h' hk hs
  have hle := vq_le (s := s) (k := k) (e := e) hk
  generalize vq s k e = z at ha hb hle
  obtain ⟨v, K, E⟩ := z
  dsimp only at ha hb hle
  go_enter Tryz.func35, Tryz.ntmps35
  go_wp2_with fail
  refine ha.mono ?_
  rintro r w1 ⟨rfl, h1, h2⟩
  have hx1 := hx.ch h2 (fun h => hbq h.symm)
  go_wp2_with fail
  refine (hb _ hx1).mono ?_
  rintro r w2 ⟨rfl, h3, h4⟩
  have hr2 := h1.ch h4 hbq
  go_wp2
  go_ret
  exact ⟨rfl, K, E, hle, hr2, h3, (h2.mono (fun _ _ h => Or.inl h)).trans (h4.mono (fun _ _ h => Or.inr h))⟩
end Go.Proofs.YtpaipoaelfhhlaaGreat
