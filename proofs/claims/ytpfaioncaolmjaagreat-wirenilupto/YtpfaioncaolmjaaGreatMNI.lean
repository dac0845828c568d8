/- Texts of the proof, put together: Num, Nli, Read, Nlj, Read2, Nlk, Nlm. -/
import Derived.Test.YtpfaioncaolmjaaGreatRmA
import Derived.Test.YtpfaioncaolmjaaGreatRmB
import Derived.Test.YtpfaioncaolmjaaGreatRmC
import Derived.Test.YtpfaioncaolmjaaGreatMRX
import Derived.Test.YtpfaioncaolmjaaGreatNlf
import Derived.Test.YtpfaioncaolmjaaGreatNlg
import Derived.Test.YtpfaioncaolmjaaGreatNlh
import Derived.Test.YtpfaioncaolmjaaGreatMWN
import Derived.Test.YtpfaioncaolmjaaGreatRmD
import Derived.Test.YtpfaioncaolmjaaGreatRmE
import Derived.Test.YtpfaioncaolmjaaGreatRmF
namespace Go.Proofs.YtpfaioncaolmjaaGreat
open Go.RowKit
theorem fx_le {n : Nat} {s : ByteArray} {k e : Nat} (hk : k ≤ s.size) : (fx n s k e).2.1 ≤ s.size := by
  unfold fx; split
  · exact hk
  · split
    · assumption
    · exact hk
theorem uq_le {s : ByteArray} {k e : Nat} (hk : k ≤ s.size) : (uq s k e).2.1 ≤ s.size := by
  have hz := tl_size s k
  have hb := rd_bds (tl s k)
  unfold uq; split
  · exact hk
  · split
    · dsimp only; omega
    · exact hk
theorem vq_le {s : ByteArray} {k e : Nat} (hk : k ≤ s.size) : (vq s k e).2.1 ≤ s.size := by
  have hz := tl_size s k
  have hb := rd_bds (tl s k)
  unfold vq; split
  · exact hk
  · split
    · dsimp only; omega
    · exact hk
/-- Both readers stand the same behind a call that answered the same. -/
def Both (b q : Nat) (s : ByteArray) (w : World) (r : Ending) (w' : World) : Prop := r = .returned (.bool true) ∧ ∃ k' e', k' ≤ s.size ∧ Rd w' b s k' e' ∧ RX w' q s k' e' ∧ Ch (fun i => i = b ∨ i = q) w w'
set_option maxHeartbeats 2000000 in
set_option maxRecDepth 20000 in
theorem num0_any (b q : Nat) (s : ByteArray) (k e : Nat) (w : World) (hr : Rd w b s k e) (hx : RX w q s k e) (hbq : b ≠ q) (hk : k ≤ s.size) (hs : s.size ≤ 9223372036854775807) :
    Calls Tryz.prog 67 #[.pointer (some ⟨b, 0, none⟩), .pointer (some ⟨q, 0, none⟩), .int .u8 0] w (Both b q s w) := by
  have ha := u8_any b s k e w hr hk hs
  have hb := fun w' h' => xu8_any q s k e w' h' hk hs
  have hle := fx_le (s := s) (k := k) (e := e) (n := 1) hk
  generalize fx 1 s k e = z at ha hb hle
  obtain ⟨v, K, E⟩ := z
  dsimp only at ha hb hle
  go_enter Tryz.func67, Tryz.ntmps67
  go_wp2_with fail
  refine ha.mono ?_
  rintro r w1 ⟨rfl, h1, h2⟩
  have hx1 := hx.ch h2 (fun h => hbq h.symm)
  go_wp2_with fail
  refine (hb _ hx1).mono ?_
  rintro r w2 ⟨rfl, h3, h4⟩
  have hr2 := h1.ch h4 hbq
  go_wp2
  go_ret
  exact ⟨rfl, K, E, hle, hr2, h3, (h2.mono (fun _ _ h => Or.inl h)).trans (h4.mono (fun _ _ h => Or.inr h))⟩
set_option maxHeartbeats 2000000 in
set_option maxRecDepth 20000 in
theorem num1_any (b q : Nat) (s : ByteArray) (k e : Nat) (w : World) (hr : Rd w b s k e) (hx : RX w q s k e) (hbq : b ≠ q) (hk : k ≤ s.size) (hs : s.size ≤ 9223372036854775807) :
    Calls Tryz.prog 67 #[.pointer (some ⟨b, 0, none⟩), .pointer (some ⟨q, 0, none⟩), .int .u8 1] w (Both b q s w) := by
  have ha := u16_any b s k e w hr hk hs
  have hb := fun w' h' => xu16_any q s k e w' h' hk hs
  have hle := fx_le (s := s) (k := k) (e := e) (n := 2) hk
  generalize fx 2 s k e = z at ha hb hle
  obtain ⟨v, K, E⟩ := z
  dsimp only at ha hb hle
  go_enter Tryz.func67, Tryz.ntmps67
  go_wp2_with fail
  refine ha.mono ?_
  rintro r w1 ⟨rfl, h1, h2⟩
  have hx1 := hx.ch h2 (fun h => hbq h.symm)
  go_wp2_with fail
  refine (hb _ hx1).mono ?_
  rintro r w2 ⟨rfl, h3, h4⟩
  have hr2 := h1.ch h4 hbq
  go_wp2
  go_ret
  exact ⟨rfl, K, E, hle, hr2, h3, (h2.mono (fun _ _ h => Or.inl h)).trans (h4.mono (fun _ _ h => Or.inr h))⟩
set_option maxHeartbeats 2000000 in
set_option maxRecDepth 20000 in
theorem num2_any (b q : Nat) (s : ByteArray) (k e : Nat) (w : World) (hr : Rd w b s k e) (hx : RX w q s k e) (hbq : b ≠ q) (hk : k ≤ s.size) (hs : s.size ≤ 9223372036854775807) :
    Calls Tryz.prog 67 #[.pointer (some ⟨b, 0, none⟩), .pointer (some ⟨q, 0, none⟩), .int .u8 2] w (Both b q s w) := by
  have ha := u32_any b s k e w hr hk hs
  have hb := fun w' h' => xu32_any q s k e w' h' hk hs
  have hle := fx_le (s := s) (k := k) (e := e) (n := 4) hk
  generalize fx 4 s k e = z at ha hb hle
  obtain ⟨v, K, E⟩ := z
  dsimp only at ha hb hle
  go_enter Tryz.func67, Tryz.ntmps67
  go_wp2_with fail
  refine ha.mono ?_
  rintro r w1 ⟨rfl, h1, h2⟩
  have hx1 := hx.ch h2 (fun h => hbq h.symm)
  go_wp2_with fail
  refine (hb _ hx1).mono ?_
  rintro r w2 ⟨rfl, h3, h4⟩
  have hr2 := h1.ch h4 hbq
  go_wp2
  go_ret
  exact ⟨rfl, K, E, hle, hr2, h3, (h2.mono (fun _ _ h => Or.inl h)).trans (h4.mono (fun _ _ h => Or.inr h))⟩
set_option maxHeartbeats 2000000 in
set_option maxRecDepth 20000 in
theorem num3_any (b q : Nat) (s : ByteArray) (k e : Nat) (w : World) (hr : Rd w b s k e) (hx : RX w q s k e) (hbq : b ≠ q) (hk : k ≤ s.size) (hs : s.size ≤ 9223372036854775807) :
    Calls Tryz.prog 67 #[.pointer (some ⟨b, 0, none⟩), .pointer (some ⟨q, 0, none⟩), .int .u8 3] w (Both b q s w) := by
  have ha := u64_any b s k e w hr hk hs
  have hb := fun w' h' => xu64_any q s k e w' h' hk hs
  have hle := fx_le (s := s) (k := k) (e := e) (n := 8) hk
  generalize fx 8 s k e = z at ha hb hle
  obtain ⟨v, K, E⟩ := z
  dsimp only at ha hb hle
  go_enter Tryz.func67, Tryz.ntmps67
  go_wp2_with fail
  refine ha.mono ?_
  rintro r w1 ⟨rfl, h1, h2⟩
  have hx1 := hx.ch h2 (fun h => hbq h.symm)
  go_wp2_with fail
  refine (hb _ hx1).mono ?_
  rintro r w2 ⟨rfl, h3, h4⟩
  have hr2 := h1.ch h4 hbq
  go_wp2
  go_ret
  exact ⟨rfl, K, E, hle, hr2, h3, (h2.mono (fun _ _ h => Or.inl h)).trans (h4.mono (fun _ _ h => Or.inr h))⟩
set_option maxHeartbeats 2000000 in
set_option maxRecDepth 20000 in
theorem num4_any (b q : Nat) (s : ByteArray) (k e : Nat) (w : World) (hr : Rd w b s k e) (hx : RX w q s k e) (hbq : b ≠ q) (hk : k ≤ s.size) (hs : s.size ≤ 9223372036854775807) :
    Calls Tryz.prog 67 #[.pointer (some ⟨b, 0, none⟩), .pointer (some ⟨q, 0, none⟩), .int .u8 4] w (Both b q s w) := by
  have ha := i32_any b s k e w hr hk hs
  have hb := fun w' h' => xi32_any q s k e w' h' hk hs
  have hle := fx_le (s := s) (k := k) (e := e) (n := 4) hk
  generalize fx 4 s k e = z at ha hb hle
  obtain ⟨v, K, E⟩ := z
  dsimp only at ha hb hle
  go_enter Tryz.func67, Tryz.ntmps67
  go_wp2_with fail
  refine ha.mono ?_
  rintro r w1 ⟨rfl, h1, h2⟩
  have hx1 := hx.ch h2 (fun h => hbq h.symm)
  go_wp2_with fail
  refine (hb _ hx1).mono ?_
  rintro r w2 ⟨rfl, h3, h4⟩
  have hr2 := h1.ch h4 hbq
  go_wp2
  go_ret
  exact ⟨rfl, K, E, hle, hr2, h3, (h2.mono (fun _ _ h => Or.inl h)).trans (h4.mono (fun _ _ h => Or.inr h))⟩
set_option maxHeartbeats 2000000 in
set_option maxRecDepth 20000 in
theorem num5_any (b q : Nat) (s : ByteArray) (k e : Nat) (w : World) (hr : Rd w b s k e) (hx : RX w q s k e) (hbq : b ≠ q) (hk : k ≤ s.size) (hs : s.size ≤ 9223372036854775807) :
    Calls Tryz.prog 67 #[.pointer (some ⟨b, 0, none⟩), .pointer (some ⟨q, 0, none⟩), .int .u8 5] w (Both b q s w) := by
  have ha := i64_any b s k e w hr hk hs
  have hb := fun w' h' => xi64_any q s k e w' h' hk hs
  have hle := fx_le (s := s) (k := k) (e := e) (n := 8) hk
  generalize fx 8 s k e = z at ha hb hle
  obtain ⟨v, K, E⟩ := z
  dsimp only at ha hb hle
  go_enter Tryz.func67, Tryz.ntmps67
  go_wp2_with fail
  refine ha.mono ?_
  rintro r w1 ⟨rfl, h1, h2⟩
  have hx1 := hx.ch h2 (fun h => hbq h.symm)
  go_wp2_with fail
  refine (hb _ hx1).mono ?_
  rintro r w2 ⟨rfl, h3, h4⟩
  have hr2 := h1.ch h4 hbq
  go_wp2
  go_ret
  exact ⟨rfl, K, E, hle, hr2, h3, (h2.mono (fun _ _ h => Or.inl h)).trans (h4.mono (fun _ _ h => Or.inr h))⟩
set_option maxHeartbeats 2000000 in
set_option maxRecDepth 20000 in
theorem num6_any (b q : Nat) (s : ByteArray) (k e : Nat) (w : World) (hr : Rd w b s k e) (hx : RX w q s k e) (hbq : b ≠ q) (hk : k ≤ s.size) (hs : s.size ≤ 9223372036854775807) :
    Calls Tryz.prog 67 #[.pointer (some ⟨b, 0, none⟩), .pointer (some ⟨q, 0, none⟩), .int .u8 6] w (Both b q s w) := by
  have ha := uvarint_any b s k e w hr hk hs
  have hb := fun w' h' => xuvarint_any q s k e w' h' hk hs
  have hle := uq_le (s := s) (k := k) (e := e) hk
  generalize uq s k e = z at ha hb hle
  obtain ⟨v, K, E⟩ := z
  dsimp only at ha hb hle
  go_enter Tryz.func67, Tryz.ntmps67
  go_wp2_with fail
  refine ha.mono ?_
  rintro r w1 ⟨rfl, h1, h2⟩
  have hx1 := hx.ch h2 (fun h => hbq h.symm)
  go_wp2_with fail
  refine (hb _ hx1).mono ?_
  rintro r w2 ⟨rfl, h3, h4⟩
  have hr2 := h1.ch h4 hbq
  go_wp2
  go_ret
  exact ⟨rfl, K, E, hle, hr2, h3, (h2.mono (fun _ _ h => Or.inl h)).trans (h4.mono (fun _ _ h => Or.inr h))⟩
set_option maxHeartbeats 2000000 in
set_option maxRecDepth 20000 in
theorem num7_any (b q : Nat) (s : ByteArray) (k e : Nat) (w : World) (hr : Rd w b s k e) (hx : RX w q s k e) (hbq : b ≠ q) (hk : k ≤ s.size) (hs : s.size ≤ 9223372036854775807) :
    Calls Tryz.prog 67 #[.pointer (some ⟨b, 0, none⟩), .pointer (some ⟨q, 0, none⟩), .int .u8 7] w (Both b q s w) := by
  have ha := varint_any b s k e w hr hk hs
  have hb := fun w' h' => xvarint_any q s k e w' h' hk hs
  have hle := vq_le (s := s) (k := k) (e := e) hk
  generalize vq s k e = z at ha hb hle
  obtain ⟨v, K, E⟩ := z
  dsimp only at ha hb hle
  go_enter Tryz.func67, Tryz.ntmps67
  go_wp2_with fail
  refine ha.mono ?_
  rintro r w1 ⟨rfl, h1, h2⟩
  have hx1 := hx.ch h2 (fun h => hbq h.symm)
  go_wp2_with fail
  refine (hb _ hx1).mono ?_
  rintro r w2 ⟨rfl, h3, h4⟩
  have hr2 := h1.ch h4 hbq
  go_wp2
  go_ret
  exact ⟨rfl, K, E, hle, hr2, h3, (h2.mono (fun _ _ h => Or.inl h)).trans (h4.mono (fun _ _ h => Or.inr h))⟩
end Go.Proofs.YtpfaioncaolmjaaGreat
namespace Go.Proofs.YtpfaioncaolmjaaGreat
open Go.RowKit
/-- What a call of a nil reader beside the document's answers. -/
def NRd (q : Nat) (w : World) (e : Ending) (w' : World) : Prop := e = .returned (.bool true) ∧ OldX q w w'
theorem oldx_alloc {q : Nat} {w : World} (o : Obj) : OldX q w (w.alloc o) := oldx_of ((Below.refl _ _).alloc (Nat.le_refl _) _)
theorem oldx_drewN {q : Nat} {w : World} (n : Nat) : OldX q w (w.drewN n) := fun _ _ h2 => ((Ch.refl (fun _ => False) w).drewN n).below h2 (fun _ _ h => h)
set_option maxHeartbeats 2000000 in
set_option maxRecDepth 20000 in
theorem nnum0_any (q : Nat) (w : World) (hx : RX w q ⟨#[]⟩ 0 0) :
    Calls Tryz.prog 67 #[.pointer none, .pointer (some ⟨q, 0, none⟩), .int .u8 0] w (NRd q w) := by
  have ha := nilu8_any w
  have hb := fun w' h' => xu8_any q ⟨#[]⟩ 0 0 w' h' (Nat.zero_le _) nil_sz
  generalize fx 1 ⟨#[]⟩ 0 0 = z at ha hb
  obtain ⟨v, K, E⟩ := z
  dsimp only at ha hb
  go_enter Tryz.func67, Tryz.ntmps67
  go_wp2_with fail
  refine ha.mono ?_
  rintro r w1 ⟨rfl, h2⟩
  have hx1 := hx.below h2 hx.lt
  go_wp2_with fail
  refine (hb _ hx1).mono ?_
  rintro r w2 ⟨rfl, h3, h4⟩
  go_wp2
  go_ret
  exact ⟨rfl, (oldx_of h2).trans (oldx_ch h4)⟩
set_option maxHeartbeats 2000000 in
set_option maxRecDepth 20000 in
theorem nnum1_any (q : Nat) (w : World) (hx : RX w q ⟨#[]⟩ 0 0) :
    Calls Tryz.prog 67 #[.pointer none, .pointer (some ⟨q, 0, none⟩), .int .u8 1] w (NRd q w) := by
  have ha := nilu16_any w
  have hb := fun w' h' => xu16_any q ⟨#[]⟩ 0 0 w' h' (Nat.zero_le _) nil_sz
  generalize fx 2 ⟨#[]⟩ 0 0 = z at ha hb
  obtain ⟨v, K, E⟩ := z
  dsimp only at ha hb
  go_enter Tryz.func67, Tryz.ntmps67
  go_wp2_with fail
  refine ha.mono ?_
  rintro r w1 ⟨rfl, h2⟩
  have hx1 := hx.below h2 hx.lt
  go_wp2_with fail
  refine (hb _ hx1).mono ?_
  rintro r w2 ⟨rfl, h3, h4⟩
  go_wp2
  go_ret
  exact ⟨rfl, (oldx_of h2).trans (oldx_ch h4)⟩
set_option maxHeartbeats 2000000 in
set_option maxRecDepth 20000 in
theorem nnum2_any (q : Nat) (w : World) (hx : RX w q ⟨#[]⟩ 0 0) :
    Calls Tryz.prog 67 #[.pointer none, .pointer (some ⟨q, 0, none⟩), .int .u8 2] w (NRd q w) := by
  have ha := nilu32_any w
  have hb := fun w' h' => xu32_any q ⟨#[]⟩ 0 0 w' h' (Nat.zero_le _) nil_sz
  generalize fx 4 ⟨#[]⟩ 0 0 = z at ha hb
  obtain ⟨v, K, E⟩ := z
  dsimp only at ha hb
  go_enter Tryz.func67, Tryz.ntmps67
  go_wp2_with fail
  refine ha.mono ?_
  rintro r w1 ⟨rfl, h2⟩
  have hx1 := hx.below h2 hx.lt
  go_wp2_with fail
  refine (hb _ hx1).mono ?_
  rintro r w2 ⟨rfl, h3, h4⟩
  go_wp2
  go_ret
  exact ⟨rfl, (oldx_of h2).trans (oldx_ch h4)⟩
set_option maxHeartbeats 2000000 in
set_option maxRecDepth 20000 in
theorem nnum3_any (q : Nat) (w : World) (hx : RX w q ⟨#[]⟩ 0 0) :
    Calls Tryz.prog 67 #[.pointer none, .pointer (some ⟨q, 0, none⟩), .int .u8 3] w (NRd q w) := by
  have ha := nilu64_any w
  have hb := fun w' h' => xu64_any q ⟨#[]⟩ 0 0 w' h' (Nat.zero_le _) nil_sz
  generalize fx 8 ⟨#[]⟩ 0 0 = z at ha hb
  obtain ⟨v, K, E⟩ := z
  dsimp only at ha hb
  go_enter Tryz.func67, Tryz.ntmps67
  go_wp2_with fail
  refine ha.mono ?_
  rintro r w1 ⟨rfl, h2⟩
  have hx1 := hx.below h2 hx.lt
  go_wp2_with fail
  refine (hb _ hx1).mono ?_
  rintro r w2 ⟨rfl, h3, h4⟩
  go_wp2
  go_ret
  exact ⟨rfl, (oldx_of h2).trans (oldx_ch h4)⟩
set_option maxHeartbeats 2000000 in
set_option maxRecDepth 20000 in
theorem nnum4_any (q : Nat) (w : World) (hx : RX w q ⟨#[]⟩ 0 0) :
    Calls Tryz.prog 67 #[.pointer none, .pointer (some ⟨q, 0, none⟩), .int .u8 4] w (NRd q w) := by
  have ha := nili32_any w
  have hb := fun w' h' => xi32_any q ⟨#[]⟩ 0 0 w' h' (Nat.zero_le _) nil_sz
  generalize fx 4 ⟨#[]⟩ 0 0 = z at ha hb
  obtain ⟨v, K, E⟩ := z
  dsimp only at ha hb
  go_enter Tryz.func67, Tryz.ntmps67
  go_wp2_with fail
  refine ha.mono ?_
  rintro r w1 ⟨rfl, h2⟩
  have hx1 := hx.below h2 hx.lt
  go_wp2_with fail
  refine (hb _ hx1).mono ?_
  rintro r w2 ⟨rfl, h3, h4⟩
  go_wp2
  go_ret
  exact ⟨rfl, (oldx_of h2).trans (oldx_ch h4)⟩
set_option maxHeartbeats 2000000 in
set_option maxRecDepth 20000 in
theorem nnum5_any (q : Nat) (w : World) (hx : RX w q ⟨#[]⟩ 0 0) :
    Calls Tryz.prog 67 #[.pointer none, .pointer (some ⟨q, 0, none⟩), .int .u8 5] w (NRd q w) := by
  have ha := nili64_any w
  have hb := fun w' h' => xi64_any q ⟨#[]⟩ 0 0 w' h' (Nat.zero_le _) nil_sz
  generalize fx 8 ⟨#[]⟩ 0 0 = z at ha hb
  obtain ⟨v, K, E⟩ := z
  dsimp only at ha hb
  go_enter Tryz.func67, Tryz.ntmps67
  go_wp2_with fail
  refine ha.mono ?_
  rintro r w1 ⟨rfl, h2⟩
  have hx1 := hx.below h2 hx.lt
  go_wp2_with fail
  refine (hb _ hx1).mono ?_
  rintro r w2 ⟨rfl, h3, h4⟩
  go_wp2
  go_ret
  exact ⟨rfl, (oldx_of h2).trans (oldx_ch h4)⟩
set_option maxHeartbeats 2000000 in
set_option maxRecDepth 20000 in
theorem nnum6_any (q : Nat) (w : World) (hx : RX w q ⟨#[]⟩ 0 0) :
    Calls Tryz.prog 67 #[.pointer none, .pointer (some ⟨q, 0, none⟩), .int .u8 6] w (NRd q w) := by
  have ha := nilUvarint_any w
  have hb := fun w' h' => xuvarint_any q ⟨#[]⟩ 0 0 w' h' (Nat.zero_le _) nil_sz
  generalize uq ⟨#[]⟩ 0 0 = z at ha hb
  obtain ⟨v, K, E⟩ := z
  dsimp only at ha hb
  go_enter Tryz.func67, Tryz.ntmps67
  go_wp2_with fail
  refine ha.mono ?_
  rintro r w1 ⟨rfl, h2⟩
  have hx1 := hx.below h2 hx.lt
  go_wp2_with fail
  refine (hb _ hx1).mono ?_
  rintro r w2 ⟨rfl, h3, h4⟩
  go_wp2
  go_ret
  exact ⟨rfl, (oldx_of h2).trans (oldx_ch h4)⟩
set_option maxHeartbeats 2000000 in
set_option maxRecDepth 20000 in
theorem nnum7_any (q : Nat) (w : World) (hx : RX w q ⟨#[]⟩ 0 0) :
    Calls Tryz.prog 67 #[.pointer none, .pointer (some ⟨q, 0, none⟩), .int .u8 7] w (NRd q w) := by
  have ha := nilVarint_any w
  have hb := fun w' h' => xvarint_any q ⟨#[]⟩ 0 0 w' h' (Nat.zero_le _) nil_sz
  generalize vq ⟨#[]⟩ 0 0 = z at ha hb
  obtain ⟨v, K, E⟩ := z
  dsimp only at ha hb
  go_enter Tryz.func67, Tryz.ntmps67
  go_wp2_with fail
  refine ha.mono ?_
  rintro r w1 ⟨rfl, h2⟩
  have hx1 := hx.below h2 hx.lt
  go_wp2_with fail
  refine (hb _ hx1).mono ?_
  rintro r w2 ⟨rfl, h3, h4⟩
  go_wp2
  go_ret
  exact ⟨rfl, (oldx_of h2).trans (oldx_ch h4)⟩
end Go.Proofs.YtpfaioncaolmjaaGreat
namespace Go.Proofs.YtpfaioncaolmjaaGreat
open Go.RowKit
theorem rq_le {n : Int} {s : ByteArray} {k e : Nat} (hk : k ≤ s.size) : (rq n s k e).2.1 ≤ s.size := by
  unfold rq; split
  · exact hk
  · split
    · exact hk
    · split
      · assumption
      · exact hk
theorem tq_le {n : Int} {s : ByteArray} {k e : Nat} (hk : k ≤ s.size) : (tq n s k e).2.1 ≤ s.size := by
  unfold tq; split
  · exact hk
  · split
    · exact hk
    · split
      · rename_i h; exact h.2
      · exact hk
theorem oq_le {n : Int} {s : ByteArray} {k e : Nat} (hk : k ≤ s.size) : (oq n s k e).2.2.1 ≤ s.size := by
  have hz := tl_size s k
  have hb := rd_bds (tl s k)
  unfold oq; split
  · exact hk
  · split
    · exact hk
    · split
      · dsimp only; omega
      · split
        · rename_i h; exact h.2.2
        · exact hk
theorem w64 (N : Nat) : -9223372036854775808 ≤ wrap64 (N : Int) ∧ wrap64 (N : Int) ≤ 9223372036854775807 := by unfold wrap64; omega
set_option maxHeartbeats 2000000 in
set_option maxRecDepth 20000 in
theorem read0_any (b q : Nat) (s : ByteArray) (k e Kd N : Nat) (S : ByteArray) (w : World) (hr : Rd w b s k e) (hx : RX w q s k e) (hbq : b ≠ q) (hk : k ≤ s.size) (hs : s.size ≤ 9223372036854775807) (hKd : Kd < 256) (hm : (Kd : Int) % 14 = 0) :
    Calls Tryz.prog 21 #[.pointer (some ⟨b, 0, none⟩), .pointer (some ⟨q, 0, none⟩), .agg #[.int .u8 Kd, .int .u64 N, .string S]] w (Both b q s w) := by
  go_enter Tryz.func21, Tryz.ntmps21
  go_wp2_with fail
  refine (num0_any b q s k e _ (hr.alloc _) (hx.alloc _) hbq hk hs).mono ?_
  rintro r w1 ⟨rfl, k', e', h1, h2, h3, h4⟩
  go_wp2
  go_ret
  exact ⟨rfl, k', e', h1, h2, h3, ((Ch.refl _ _).alloc _).trans h4⟩
set_option maxHeartbeats 2000000 in
set_option maxRecDepth 20000 in
theorem read1_any (b q : Nat) (s : ByteArray) (k e Kd N : Nat) (S : ByteArray) (w : World) (hr : Rd w b s k e) (hx : RX w q s k e) (hbq : b ≠ q) (hk : k ≤ s.size) (hs : s.size ≤ 9223372036854775807) (hKd : Kd < 256) (hm : (Kd : Int) % 14 = 1) :
    Calls Tryz.prog 21 #[.pointer (some ⟨b, 0, none⟩), .pointer (some ⟨q, 0, none⟩), .agg #[.int .u8 Kd, .int .u64 N, .string S]] w (Both b q s w) := by
  go_enter Tryz.func21, Tryz.ntmps21
  go_wp2_with fail
  refine (num1_any b q s k e _ (hr.alloc _) (hx.alloc _) hbq hk hs).mono ?_
  rintro r w1 ⟨rfl, k', e', h1, h2, h3, h4⟩
  go_wp2
  go_ret
  exact ⟨rfl, k', e', h1, h2, h3, ((Ch.refl _ _).alloc _).trans h4⟩
set_option maxHeartbeats 2000000 in
set_option maxRecDepth 20000 in
theorem read2_any (b q : Nat) (s : ByteArray) (k e Kd N : Nat) (S : ByteArray) (w : World) (hr : Rd w b s k e) (hx : RX w q s k e) (hbq : b ≠ q) (hk : k ≤ s.size) (hs : s.size ≤ 9223372036854775807) (hKd : Kd < 256) (hm : (Kd : Int) % 14 = 2) :
    Calls Tryz.prog 21 #[.pointer (some ⟨b, 0, none⟩), .pointer (some ⟨q, 0, none⟩), .agg #[.int .u8 Kd, .int .u64 N, .string S]] w (Both b q s w) := by
  go_enter Tryz.func21, Tryz.ntmps21
  go_wp2_with fail
  refine (num2_any b q s k e _ (hr.alloc _) (hx.alloc _) hbq hk hs).mono ?_
  rintro r w1 ⟨rfl, k', e', h1, h2, h3, h4⟩
  go_wp2
  go_ret
  exact ⟨rfl, k', e', h1, h2, h3, ((Ch.refl _ _).alloc _).trans h4⟩
set_option maxHeartbeats 2000000 in
set_option maxRecDepth 20000 in
theorem read3_any (b q : Nat) (s : ByteArray) (k e Kd N : Nat) (S : ByteArray) (w : World) (hr : Rd w b s k e) (hx : RX w q s k e) (hbq : b ≠ q) (hk : k ≤ s.size) (hs : s.size ≤ 9223372036854775807) (hKd : Kd < 256) (hm : (Kd : Int) % 14 = 3) :
    Calls Tryz.prog 21 #[.pointer (some ⟨b, 0, none⟩), .pointer (some ⟨q, 0, none⟩), .agg #[.int .u8 Kd, .int .u64 N, .string S]] w (Both b q s w) := by
  go_enter Tryz.func21, Tryz.ntmps21
  go_wp2_with fail
  refine (num3_any b q s k e _ (hr.alloc _) (hx.alloc _) hbq hk hs).mono ?_
  rintro r w1 ⟨rfl, k', e', h1, h2, h3, h4⟩
  go_wp2
  go_ret
  exact ⟨rfl, k', e', h1, h2, h3, ((Ch.refl _ _).alloc _).trans h4⟩
set_option maxHeartbeats 2000000 in
set_option maxRecDepth 20000 in
theorem read4_any (b q : Nat) (s : ByteArray) (k e Kd N : Nat) (S : ByteArray) (w : World) (hr : Rd w b s k e) (hx : RX w q s k e) (hbq : b ≠ q) (hk : k ≤ s.size) (hs : s.size ≤ 9223372036854775807) (hKd : Kd < 256) (hm : (Kd : Int) % 14 = 4) :
    Calls Tryz.prog 21 #[.pointer (some ⟨b, 0, none⟩), .pointer (some ⟨q, 0, none⟩), .agg #[.int .u8 Kd, .int .u64 N, .string S]] w (Both b q s w) := by
  go_enter Tryz.func21, Tryz.ntmps21
  go_wp2_with fail
  refine (num4_any b q s k e _ (hr.alloc _) (hx.alloc _) hbq hk hs).mono ?_
  rintro r w1 ⟨rfl, k', e', h1, h2, h3, h4⟩
  go_wp2
  go_ret
  exact ⟨rfl, k', e', h1, h2, h3, ((Ch.refl _ _).alloc _).trans h4⟩
set_option maxHeartbeats 2000000 in
set_option maxRecDepth 20000 in
theorem read5_any (b q : Nat) (s : ByteArray) (k e Kd N : Nat) (S : ByteArray) (w : World) (hr : Rd w b s k e) (hx : RX w q s k e) (hbq : b ≠ q) (hk : k ≤ s.size) (hs : s.size ≤ 9223372036854775807) (hKd : Kd < 256) (hm : (Kd : Int) % 14 = 5) :
    Calls Tryz.prog 21 #[.pointer (some ⟨b, 0, none⟩), .pointer (some ⟨q, 0, none⟩), .agg #[.int .u8 Kd, .int .u64 N, .string S]] w (Both b q s w) := by
  go_enter Tryz.func21, Tryz.ntmps21
  go_wp2_with fail
  refine (num5_any b q s k e _ (hr.alloc _) (hx.alloc _) hbq hk hs).mono ?_
  rintro r w1 ⟨rfl, k', e', h1, h2, h3, h4⟩
  go_wp2
  go_ret
  exact ⟨rfl, k', e', h1, h2, h3, ((Ch.refl _ _).alloc _).trans h4⟩
set_option maxHeartbeats 2000000 in
set_option maxRecDepth 20000 in
theorem read6_any (b q : Nat) (s : ByteArray) (k e Kd N : Nat) (S : ByteArray) (w : World) (hr : Rd w b s k e) (hx : RX w q s k e) (hbq : b ≠ q) (hk : k ≤ s.size) (hs : s.size ≤ 9223372036854775807) (hKd : Kd < 256) (hm : (Kd : Int) % 14 = 6) :
    Calls Tryz.prog 21 #[.pointer (some ⟨b, 0, none⟩), .pointer (some ⟨q, 0, none⟩), .agg #[.int .u8 Kd, .int .u64 N, .string S]] w (Both b q s w) := by
  go_enter Tryz.func21, Tryz.ntmps21
  go_wp2_with fail
  refine (num6_any b q s k e _ (hr.alloc _) (hx.alloc _) hbq hk hs).mono ?_
  rintro r w1 ⟨rfl, k', e', h1, h2, h3, h4⟩
  go_wp2
  go_ret
  exact ⟨rfl, k', e', h1, h2, h3, ((Ch.refl _ _).alloc _).trans h4⟩
set_option maxHeartbeats 2000000 in
set_option maxRecDepth 20000 in
theorem read7_any (b q : Nat) (s : ByteArray) (k e Kd N : Nat) (S : ByteArray) (w : World) (hr : Rd w b s k e) (hx : RX w q s k e) (hbq : b ≠ q) (hk : k ≤ s.size) (hs : s.size ≤ 9223372036854775807) (hKd : Kd < 256) (hm : (Kd : Int) % 14 = 7) :
    Calls Tryz.prog 21 #[.pointer (some ⟨b, 0, none⟩), .pointer (some ⟨q, 0, none⟩), .agg #[.int .u8 Kd, .int .u64 N, .string S]] w (Both b q s w) := by
  go_enter Tryz.func21, Tryz.ntmps21
  go_wp2_with fail
  refine (num7_any b q s k e _ (hr.alloc _) (hx.alloc _) hbq hk hs).mono ?_
  rintro r w1 ⟨rfl, k', e', h1, h2, h3, h4⟩
  go_wp2
  go_ret
  exact ⟨rfl, k', e', h1, h2, h3, ((Ch.refl _ _).alloc _).trans h4⟩
set_option maxHeartbeats 2000000 in
set_option maxRecDepth 20000 in
theorem read8_any (b q : Nat) (s : ByteArray) (k e Kd N : Nat) (S : ByteArray) (w : World) (hr : Rd w b s k e) (hx : RX w q s k e) (hbq : b ≠ q) (hk : k ≤ s.size) (hs : s.size ≤ 9223372036854775807) (hKd : Kd < 256) (hm : (Kd : Int) % 14 = 8) :
    Calls Tryz.prog 21 #[.pointer (some ⟨b, 0, none⟩), .pointer (some ⟨q, 0, none⟩), .agg #[.int .u8 Kd, .int .u64 N, .string S]] w (Both b q s w) := by
  obtain ⟨hn1, hn2⟩ := w64 N
  have ha := fun w' h' => rraw_any b s k e (wrap64 (N : Int)) w' h' hk hs hn1 hn2
  have hb := fun w' h' => xraw_any q s k e (wrap64 (N : Int)) w' h' hk hs hn1 hn2
  have hle := rq_le (n := wrap64 (N : Int)) (s := s) (k := k) (e := e) hk
  generalize rq (wrap64 (N : Int)) s k e = z at ha hb hle
  obtain ⟨v, K, E⟩ := z
  dsimp only at ha hb hle
  go_enter Tryz.func21, Tryz.ntmps21
  go_wp2_with fail
  refine (ha _ (hr.alloc _)).mono ?_
  rintro r w1 ⟨rfl, h1, h2⟩
  have hx1 := (hx.alloc _).ch h2 (fun h => hbq h.symm)
  go_wp2_with fail
  refine (hb _ hx1).mono ?_
  rintro r w2 ⟨rfl, h3, h4⟩
  have hr2 := h1.ch h4 hbq
  go_wp2
  go_ret
  exact ⟨rfl, K, E, hle, hr2, h3, (((Ch.refl _ _).alloc _).trans (h2.mono (fun _ _ h => Or.inl h))).trans (h4.mono (fun _ _ h => Or.inr h))⟩
set_option maxHeartbeats 2000000 in
set_option maxRecDepth 20000 in
theorem read9_any (b q : Nat) (s : ByteArray) (k e Kd N : Nat) (S : ByteArray) (w : World) (hr : Rd w b s k e) (hx : RX w q s k e) (hbq : b ≠ q) (hk : k ≤ s.size) (hs : s.size ≤ 9223372036854775807) (hKd : Kd < 256) (hm : (Kd : Int) % 14 = 9) :
    Calls Tryz.prog 21 #[.pointer (some ⟨b, 0, none⟩), .pointer (some ⟨q, 0, none⟩), .agg #[.int .u8 Kd, .int .u64 N, .string S]] w (Both b q s w) := by
  obtain ⟨hn1, hn2⟩ := w64 N
  have ha := fun w' h' => rtext_any b s k e (wrap64 (N : Int)) w' h' hk hs hn1 hn2
  have hb := fun w' h' => xtext_any q s k e (wrap64 (N : Int)) w' h' hk hs hn1 hn2
  have hle := tq_le (n := wrap64 (N : Int)) (s := s) (k := k) (e := e) hk
  generalize tq (wrap64 (N : Int)) s k e = z at ha hb hle
  obtain ⟨v, K, E⟩ := z
  dsimp only at ha hb hle
  go_enter Tryz.func21, Tryz.ntmps21
  go_wp2_with fail
  refine (ha _ (hr.alloc _)).mono ?_
  rintro r w1 ⟨rfl, h1, h2⟩
  have hx1 := (hx.alloc _).ch h2 (fun h => hbq h.symm)
  go_wp2_with fail
  refine (hb _ hx1).mono ?_
  rintro r w2 ⟨rfl, h3, h4⟩
  have hr2 := h1.ch h4 hbq
  go_wp2
  go_ret
  exact ⟨rfl, K, E, hle, hr2, h3, (((Ch.refl _ _).alloc _).trans (h2.mono (fun _ _ h => Or.inl h))).trans (h4.mono (fun _ _ h => Or.inr h))⟩
set_option maxHeartbeats 2000000 in
set_option maxRecDepth 20000 in
theorem read10_any (b q : Nat) (s : ByteArray) (k e Kd N : Nat) (S : ByteArray) (w : World) (hr : Rd w b s k e) (hx : RX w q s k e) (hbq : b ≠ q) (hk : k ≤ s.size) (hs : s.size ≤ 9223372036854775807) (hKd : Kd < 256) (hm : (Kd : Int) % 14 = 10) :
    Calls Tryz.prog 21 #[.pointer (some ⟨b, 0, none⟩), .pointer (some ⟨q, 0, none⟩), .agg #[.int .u8 Kd, .int .u64 N, .string S]] w (Both b q s w) := by
  obtain ⟨hn1, hn2⟩ := w64 N
  have ha := fun w' h' => ropt_any b s k e (wrap64 (N : Int)) w' h' hk hs hn1 hn2
  have hb := fun w' h' => xopt_any q s k e (wrap64 (N : Int)) w' h' hk hs hn1 hn2
  have hle := oq_le (n := wrap64 (N : Int)) (s := s) (k := k) (e := e) hk
  generalize oq (wrap64 (N : Int)) s k e = z at ha hb hle
  obtain ⟨vb, vd, K, E⟩ := z
  dsimp only at ha hb hle
  have l1 := hr.lt
  have l2 := hx.lt
  go_enter Tryz.func21, Tryz.ntmps21
  go_wp2_with fail
  refine (ha _ (hr.alloc _)).mono ?_
  rintro r w1 ⟨rfl, h1, h2⟩
  have hx1 := (hx.alloc _).ch h2 (fun h => hbq h.symm)
  go_wp2_with fail
  refine (hb _ (hx1.alloc _)).mono ?_
  rintro r w2 ⟨rfl, h3, h4⟩
  have hr2 := (h1.alloc _).ch h4 hbq
  have l3 := hx1.lt
  have go1 : w2.heap[w1.heap.size]? = some (.cells #[.bool vb, .string vd] 76 (0, 0)) := (h4.block _ (by simp) (by omega)).trans (heap_new _ _)
  have g1 : w2.cell? ⟨w1.heap.size, 0, none⟩ = some (.bool vb) := (cell_of go1).trans rfl
  have g2 : w2.cell? ⟨w1.heap.size, 1, none⟩ = some (.string vd) := (cell_of go1).trans rfl
  have l4 := lt_of_heap go1
  have hc : Ch (fun i => i = b ∨ i = q) w w2 := ((((Ch.refl _ _).alloc _).trans (h2.mono (fun _ _ h => Or.inl h))).alloc _).trans (h4.mono (fun _ _ h => Or.inr h))
  clear go1 h2 h4
  go_wp2
  go_ret
  exact ⟨rfl, K, E, hle, hr2.alloc _, h3.alloc _, hc.alloc _⟩
set_option maxHeartbeats 2000000 in
set_option maxRecDepth 20000 in
theorem read11_any (b q : Nat) (s : ByteArray) (k e Kd N : Nat) (S : ByteArray) (w : World) (hr : Rd w b s k e) (hx : RX w q s k e) (hbq : b ≠ q) (hk : k ≤ s.size) (hs : s.size ≤ 9223372036854775807) (hKd : Kd < 256) (hm : (Kd : Int) % 14 = 11) :
    Calls Tryz.prog 21 #[.pointer (some ⟨b, 0, none⟩), .pointer (some ⟨q, 0, none⟩), .agg #[.int .u8 Kd, .int .u64 N, .string S]] w (Both b q s w) := by
  obtain ⟨hn1, hn2⟩ := w64 N
  have ha := fun w' h' => ropt_any b s k e (wrap64 (N : Int)) w' h' hk hs hn1 hn2
  have hb := fun w' h' => xopt_any q s k e (wrap64 (N : Int)) w' h' hk hs hn1 hn2
  have hle := oq_le (n := wrap64 (N : Int)) (s := s) (k := k) (e := e) hk
  generalize oq (wrap64 (N : Int)) s k e = z at ha hb hle
  obtain ⟨vb, vd, K, E⟩ := z
  dsimp only at ha hb hle
  have l1 := hr.lt
  have l2 := hx.lt
  go_enter Tryz.func21, Tryz.ntmps21
  go_wp2_with fail
  refine (ha _ (hr.alloc _)).mono ?_
  rintro r w1 ⟨rfl, h1, h2⟩
  have hx1 := (hx.alloc _).ch h2 (fun h => hbq h.symm)
  go_wp2_with fail
  refine (hb _ (hx1.alloc _)).mono ?_
  rintro r w2 ⟨rfl, h3, h4⟩
  have hr2 := (h1.alloc _).ch h4 hbq
  have l3 := hx1.lt
  have go1 : w2.heap[w1.heap.size]? = some (.cells #[.bool vb, .string vd] 76 (0, 0)) := (h4.block _ (by simp) (by omega)).trans (heap_new _ _)
  have g1 : w2.cell? ⟨w1.heap.size, 0, none⟩ = some (.bool vb) := (cell_of go1).trans rfl
  have g2 : w2.cell? ⟨w1.heap.size, 1, none⟩ = some (.string vd) := (cell_of go1).trans rfl
  have l4 := lt_of_heap go1
  have hc : Ch (fun i => i = b ∨ i = q) w w2 := ((((Ch.refl _ _).alloc _).trans (h2.mono (fun _ _ h => Or.inl h))).alloc _).trans (h4.mono (fun _ _ h => Or.inr h))
  clear go1 h2 h4
  go_wp2
  go_ret
  exact ⟨rfl, K, E, hle, hr2.alloc _, h3.alloc _, hc.alloc _⟩
set_option maxHeartbeats 2000000 in
set_option maxRecDepth 20000 in
theorem read12_any (b q : Nat) (s : ByteArray) (k e Kd N : Nat) (S : ByteArray) (w : World) (hr : Rd w b s k e) (hx : RX w q s k e) (_ : b ≠ q) (hk : k ≤ s.size) (hs : s.size ≤ 9223372036854775807) (hKd : Kd < 256) (hm : (Kd : Int) % 14 = 12) :
    Calls Tryz.prog 21 #[.pointer (some ⟨b, 0, none⟩), .pointer (some ⟨q, 0, none⟩), .agg #[.int .u8 Kd, .int .u64 N, .string S]] w (Both b q s w) := by
  have hd : dqx s k e = dq s k e := rfl
  have ha := fun w' h' => rdone_any b s k e w' h' hk hs
  have hb := fun w' h' => xdone_any q s k e w' h' hk hs
  rw [hd] at hb
  generalize dq s k e = E at ha hb
  clear hd
  go_enter Tryz.func21, Tryz.ntmps21
  go_wp2_with fail
  refine (ha _ (hr.alloc _)).mono ?_
  rintro r w1 ⟨rfl, n1, rfl⟩
  go_wp2_with fail
  refine (hb _ ((hx.alloc _).drewN _)).mono ?_
  rintro r w2 ⟨rfl, n2, rfl⟩
  go_wp2
  go_ret
  exact ⟨rfl, k, e, hk, ((hr.alloc _).drewN _), ((hx.alloc _).drewN _), ((Ch.refl _ _).alloc _).drewN _⟩
end Go.Proofs.YtpfaioncaolmjaaGreat
namespace Go.Proofs.YtpfaioncaolmjaaGreat
open Go.RowKit
set_option maxHeartbeats 2000000 in
set_option maxRecDepth 20000 in
theorem nread0_any (q Kd N : Nat) (S : ByteArray) (w : World) (hx : RX w q ⟨#[]⟩ 0 0) (hKd : Kd < 256) (hm : (Kd : Int) % 14 = 0) :
    Calls Tryz.prog 21 #[.pointer none, .pointer (some ⟨q, 0, none⟩), .agg #[.int .u8 Kd, .int .u64 N, .string S]] w (NRd q w) := by
  go_enter Tryz.func21, Tryz.ntmps21
  go_wp2_with fail
  refine (nnum0_any q _ (hx.alloc _)).mono ?_
  rintro r w1 ⟨rfl, h4⟩
  go_wp2
  go_ret
  exact ⟨rfl, (oldx_alloc _).trans h4⟩
set_option maxHeartbeats 2000000 in
set_option maxRecDepth 20000 in
theorem nread1_any (q Kd N : Nat) (S : ByteArray) (w : World) (hx : RX w q ⟨#[]⟩ 0 0) (hKd : Kd < 256) (hm : (Kd : Int) % 14 = 1) :
    Calls Tryz.prog 21 #[.pointer none, .pointer (some ⟨q, 0, none⟩), .agg #[.int .u8 Kd, .int .u64 N, .string S]] w (NRd q w) := by
  go_enter Tryz.func21, Tryz.ntmps21
  go_wp2_with fail
  refine (nnum1_any q _ (hx.alloc _)).mono ?_
  rintro r w1 ⟨rfl, h4⟩
  go_wp2
  go_ret
  exact ⟨rfl, (oldx_alloc _).trans h4⟩
set_option maxHeartbeats 2000000 in
set_option maxRecDepth 20000 in
theorem nread2_any (q Kd N : Nat) (S : ByteArray) (w : World) (hx : RX w q ⟨#[]⟩ 0 0) (hKd : Kd < 256) (hm : (Kd : Int) % 14 = 2) :
    Calls Tryz.prog 21 #[.pointer none, .pointer (some ⟨q, 0, none⟩), .agg #[.int .u8 Kd, .int .u64 N, .string S]] w (NRd q w) := by
  go_enter Tryz.func21, Tryz.ntmps21
  go_wp2_with fail
  refine (nnum2_any q _ (hx.alloc _)).mono ?_
  rintro r w1 ⟨rfl, h4⟩
  go_wp2
  go_ret
  exact ⟨rfl, (oldx_alloc _).trans h4⟩
set_option maxHeartbeats 2000000 in
set_option maxRecDepth 20000 in
theorem nread3_any (q Kd N : Nat) (S : ByteArray) (w : World) (hx : RX w q ⟨#[]⟩ 0 0) (hKd : Kd < 256) (hm : (Kd : Int) % 14 = 3) :
    Calls Tryz.prog 21 #[.pointer none, .pointer (some ⟨q, 0, none⟩), .agg #[.int .u8 Kd, .int .u64 N, .string S]] w (NRd q w) := by
  go_enter Tryz.func21, Tryz.ntmps21
  go_wp2_with fail
  refine (nnum3_any q _ (hx.alloc _)).mono ?_
  rintro r w1 ⟨rfl, h4⟩
  go_wp2
  go_ret
  exact ⟨rfl, (oldx_alloc _).trans h4⟩
set_option maxHeartbeats 2000000 in
set_option maxRecDepth 20000 in
theorem nread4_any (q Kd N : Nat) (S : ByteArray) (w : World) (hx : RX w q ⟨#[]⟩ 0 0) (hKd : Kd < 256) (hm : (Kd : Int) % 14 = 4) :
    Calls Tryz.prog 21 #[.pointer none, .pointer (some ⟨q, 0, none⟩), .agg #[.int .u8 Kd, .int .u64 N, .string S]] w (NRd q w) := by
  go_enter Tryz.func21, Tryz.ntmps21
  go_wp2_with fail
  refine (nnum4_any q _ (hx.alloc _)).mono ?_
  rintro r w1 ⟨rfl, h4⟩
  go_wp2
  go_ret
  exact ⟨rfl, (oldx_alloc _).trans h4⟩
set_option maxHeartbeats 2000000 in
set_option maxRecDepth 20000 in
theorem nread5_any (q Kd N : Nat) (S : ByteArray) (w : World) (hx : RX w q ⟨#[]⟩ 0 0) (hKd : Kd < 256) (hm : (Kd : Int) % 14 = 5) :
    Calls Tryz.prog 21 #[.pointer none, .pointer (some ⟨q, 0, none⟩), .agg #[.int .u8 Kd, .int .u64 N, .string S]] w (NRd q w) := by
  go_enter Tryz.func21, Tryz.ntmps21
  go_wp2_with fail
  refine (nnum5_any q _ (hx.alloc _)).mono ?_
  rintro r w1 ⟨rfl, h4⟩
  go_wp2
  go_ret
  exact ⟨rfl, (oldx_alloc _).trans h4⟩
set_option maxHeartbeats 2000000 in
set_option maxRecDepth 20000 in
theorem nread6_any (q Kd N : Nat) (S : ByteArray) (w : World) (hx : RX w q ⟨#[]⟩ 0 0) (hKd : Kd < 256) (hm : (Kd : Int) % 14 = 6) :
    Calls Tryz.prog 21 #[.pointer none, .pointer (some ⟨q, 0, none⟩), .agg #[.int .u8 Kd, .int .u64 N, .string S]] w (NRd q w) := by
  go_enter Tryz.func21, Tryz.ntmps21
  go_wp2_with fail
  refine (nnum6_any q _ (hx.alloc _)).mono ?_
  rintro r w1 ⟨rfl, h4⟩
  go_wp2
  go_ret
  exact ⟨rfl, (oldx_alloc _).trans h4⟩
set_option maxHeartbeats 2000000 in
set_option maxRecDepth 20000 in
theorem nread7_any (q Kd N : Nat) (S : ByteArray) (w : World) (hx : RX w q ⟨#[]⟩ 0 0) (hKd : Kd < 256) (hm : (Kd : Int) % 14 = 7) :
    Calls Tryz.prog 21 #[.pointer none, .pointer (some ⟨q, 0, none⟩), .agg #[.int .u8 Kd, .int .u64 N, .string S]] w (NRd q w) := by
  go_enter Tryz.func21, Tryz.ntmps21
  go_wp2_with fail
  refine (nnum7_any q _ (hx.alloc _)).mono ?_
  rintro r w1 ⟨rfl, h4⟩
  go_wp2
  go_ret
  exact ⟨rfl, (oldx_alloc _).trans h4⟩
set_option maxHeartbeats 2000000 in
set_option maxRecDepth 20000 in
theorem nread8_any (q Kd N : Nat) (S : ByteArray) (w : World) (hx : RX w q ⟨#[]⟩ 0 0) (hKd : Kd < 256) (hm : (Kd : Int) % 14 = 8) :
    Calls Tryz.prog 21 #[.pointer none, .pointer (some ⟨q, 0, none⟩), .agg #[.int .u8 Kd, .int .u64 N, .string S]] w (NRd q w) := by
  obtain ⟨hn1, hn2⟩ := w64 N
  have ha := fun w' => nilRaw_any (wrap64 (N : Int)) w'
  have hb := fun w' h' => xraw_any q ⟨#[]⟩ 0 0 (wrap64 (N : Int)) w' h' (Nat.zero_le _) nil_sz hn1 hn2
  generalize rq (wrap64 (N : Int)) ⟨#[]⟩ 0 0 = z at ha hb
  obtain ⟨v, K, E⟩ := z
  dsimp only at ha hb
  go_enter Tryz.func21, Tryz.ntmps21
  go_wp2_with fail
  refine (ha _).mono ?_
  rintro r w1 ⟨rfl, h2⟩
  have hx1 := (hx.alloc _).below h2 (hx.alloc _).lt
  go_wp2_with fail
  refine (hb _ hx1).mono ?_
  rintro r w2 ⟨rfl, h3, h4⟩
  go_wp2
  go_ret
  exact ⟨rfl, ((oldx_alloc _).trans (oldx_of h2)).trans (oldx_ch h4)⟩
set_option maxHeartbeats 2000000 in
set_option maxRecDepth 20000 in
theorem nread9_any (q Kd N : Nat) (S : ByteArray) (w : World) (hx : RX w q ⟨#[]⟩ 0 0) (hKd : Kd < 256) (hm : (Kd : Int) % 14 = 9) :
    Calls Tryz.prog 21 #[.pointer none, .pointer (some ⟨q, 0, none⟩), .agg #[.int .u8 Kd, .int .u64 N, .string S]] w (NRd q w) := by
  obtain ⟨hn1, hn2⟩ := w64 N
  have ha := fun w' => nilText_any (wrap64 (N : Int)) w'
  have hb := fun w' h' => xtext_any q ⟨#[]⟩ 0 0 (wrap64 (N : Int)) w' h' (Nat.zero_le _) nil_sz hn1 hn2
  generalize tq (wrap64 (N : Int)) ⟨#[]⟩ 0 0 = z at ha hb
  obtain ⟨v, K, E⟩ := z
  dsimp only at ha hb
  go_enter Tryz.func21, Tryz.ntmps21
  go_wp2_with fail
  refine (ha _).mono ?_
  rintro r w1 ⟨rfl, h2⟩
  have hx1 := (hx.alloc _).below h2 (hx.alloc _).lt
  go_wp2_with fail
  refine (hb _ hx1).mono ?_
  rintro r w2 ⟨rfl, h3, h4⟩
  go_wp2
  go_ret
  exact ⟨rfl, ((oldx_alloc _).trans (oldx_of h2)).trans (oldx_ch h4)⟩
set_option maxHeartbeats 2000000 in
set_option maxRecDepth 20000 in
theorem nread10_any (q Kd N : Nat) (S : ByteArray) (w : World) (hx : RX w q ⟨#[]⟩ 0 0) (hKd : Kd < 256) (hm : (Kd : Int) % 14 = 10) :
    Calls Tryz.prog 21 #[.pointer none, .pointer (some ⟨q, 0, none⟩), .agg #[.int .u8 Kd, .int .u64 N, .string S]] w (NRd q w) := by
  obtain ⟨hn1, hn2⟩ := w64 N
  have ha := fun w' => nilOpt_any (wrap64 (N : Int)) w'
  have hb := fun w' h' => xopt_any q ⟨#[]⟩ 0 0 (wrap64 (N : Int)) w' h' (Nat.zero_le _) nil_sz hn1 hn2
  generalize oq (wrap64 (N : Int)) ⟨#[]⟩ 0 0 = z at ha hb
  obtain ⟨vb, vd, K, E⟩ := z
  dsimp only at ha hb
  have l2 := hx.lt
  go_enter Tryz.func21, Tryz.ntmps21
  go_wp2_with fail
  refine (ha _).mono ?_
  rintro r w1 ⟨rfl, h2⟩
  have hx1 := (hx.alloc _).below h2 (hx.alloc _).lt
  go_wp2_with fail
  refine (hb _ (hx1.alloc _)).mono ?_
  rintro r w2 ⟨rfl, h3, h4⟩
  have l3 := hx1.lt
  have go1 : w2.heap[w1.heap.size]? = some (.cells #[.bool vb, .string vd] 76 (0, 0)) := (h4.block _ (by simp) (by omega)).trans (heap_new _ _)
  have g1 : w2.cell? ⟨w1.heap.size, 0, none⟩ = some (.bool vb) := (cell_of go1).trans rfl
  have g2 : w2.cell? ⟨w1.heap.size, 1, none⟩ = some (.string vd) := (cell_of go1).trans rfl
  have l4 := lt_of_heap go1
  have hc : OldX q w w2 := (((oldx_alloc _).trans (oldx_of h2)).trans (oldx_alloc _)).trans (oldx_ch h4)
  clear go1 h2 h4
  go_wp2
  go_ret
  exact ⟨rfl, hc.trans (oldx_alloc _)⟩
set_option maxHeartbeats 2000000 in
set_option maxRecDepth 20000 in
theorem nread11_any (q Kd N : Nat) (S : ByteArray) (w : World) (hx : RX w q ⟨#[]⟩ 0 0) (hKd : Kd < 256) (hm : (Kd : Int) % 14 = 11) :
    Calls Tryz.prog 21 #[.pointer none, .pointer (some ⟨q, 0, none⟩), .agg #[.int .u8 Kd, .int .u64 N, .string S]] w (NRd q w) := by
  obtain ⟨hn1, hn2⟩ := w64 N
  have ha := fun w' => nilOpt_any (wrap64 (N : Int)) w'
  have hb := fun w' h' => xopt_any q ⟨#[]⟩ 0 0 (wrap64 (N : Int)) w' h' (Nat.zero_le _) nil_sz hn1 hn2
  generalize oq (wrap64 (N : Int)) ⟨#[]⟩ 0 0 = z at ha hb
  obtain ⟨vb, vd, K, E⟩ := z
  dsimp only at ha hb
  have l2 := hx.lt
  go_enter Tryz.func21, Tryz.ntmps21
  go_wp2_with fail
  refine (ha _).mono ?_
  rintro r w1 ⟨rfl, h2⟩
  have hx1 := (hx.alloc _).below h2 (hx.alloc _).lt
  go_wp2_with fail
  refine (hb _ (hx1.alloc _)).mono ?_
  rintro r w2 ⟨rfl, h3, h4⟩
  have l3 := hx1.lt
  have go1 : w2.heap[w1.heap.size]? = some (.cells #[.bool vb, .string vd] 76 (0, 0)) := (h4.block _ (by simp) (by omega)).trans (heap_new _ _)
  have g1 : w2.cell? ⟨w1.heap.size, 0, none⟩ = some (.bool vb) := (cell_of go1).trans rfl
  have g2 : w2.cell? ⟨w1.heap.size, 1, none⟩ = some (.string vd) := (cell_of go1).trans rfl
  have l4 := lt_of_heap go1
  have hc : OldX q w w2 := (((oldx_alloc _).trans (oldx_of h2)).trans (oldx_alloc _)).trans (oldx_ch h4)
  clear go1 h2 h4
  go_wp2
  go_ret
  exact ⟨rfl, hc.trans (oldx_alloc _)⟩
set_option maxHeartbeats 2000000 in
set_option maxRecDepth 20000 in
theorem nread12_any (q Kd N : Nat) (S : ByteArray) (w : World) (hx : RX w q ⟨#[]⟩ 0 0) (hKd : Kd < 256) (hm : (Kd : Int) % 14 = 12) :
    Calls Tryz.prog 21 #[.pointer none, .pointer (some ⟨q, 0, none⟩), .agg #[.int .u8 Kd, .int .u64 N, .string S]] w (NRd q w) := by
  have hd : dqx ⟨#[]⟩ 0 0 = 0 := rfl
  have ha := fun w' => nilDone_any w'
  have hb := fun w' h' => xdone_any q ⟨#[]⟩ 0 0 w' h' (Nat.zero_le _) nil_sz
  rw [hd] at hb
  clear hd
  go_enter Tryz.func21, Tryz.ntmps21
  go_wp2_with fail
  refine (ha _).mono ?_
  rintro r w1 ⟨rfl, h2⟩
  have hx1 := (hx.alloc _).below h2 (hx.alloc _).lt
  go_wp2_with fail
  refine (hb _ hx1).mono ?_
  rintro r w2 ⟨rfl, n2, rfl⟩
  go_wp2
  go_ret
  exact ⟨rfl, ((oldx_alloc _).trans (oldx_of h2)).trans (oldx_drewN _)⟩
end Go.Proofs.YtpfaioncaolmjaaGreat
namespace Go.Proofs.YtpfaioncaolmjaaGreat
open Go.RowKit
theorem rq_size {n : Int} {s : ByteArray} {k e : Nat} : (rq n s k e).1.size ≤ s.size := by
  unfold rq; split
  · exact Nat.zero_le _
  · split
    · exact Nat.zero_le _
    · split
      · rw [ByteArray.size_extract]; omega
      · exact Nat.zero_le _
set_option maxHeartbeats 4000000 in
set_option maxRecDepth 20000 in
theorem read13_any (b q : Nat) (s : ByteArray) (k e Kd N : Nat) (S : ByteArray) (w : World) (hr : Rd w b s k e) (hx : RX w q s k e) (hbq : b ≠ q) (hk : k ≤ s.size) (hs : s.size ≤ 9223372036854775807) (hKd : Kd < 256) (hm : (Kd : Int) % 14 = 13) :
    Calls Tryz.prog 21 #[.pointer (some ⟨b, 0, none⟩), .pointer (some ⟨q, 0, none⟩), .agg #[.int .u8 Kd, .int .u64 N, .string S]] w (Both b q s w) := by
  obtain ⟨hn1, hn2⟩ := w64 N
  have l1 := hr.lt
  have l2 := hx.lt
  have hle := rq_le (n := wrap64 (N : Int)) (s := s) (k := k) (e := e) hk
  by_cases hE : (rq (wrap64 (N : Int)) s k e).2.2 = 0
  · have he : e = 0 := by
      by_cases he : e = 0
      · exact he
      · rw [rq_stale he] at hE; exact hE
    subst he
    have ha := fun w' h' => rpart_ok b s k (wrap64 (N : Int)) w' h' hs hn1 hn2 hE
    have hb := fun w' h' => xpart_ok q s k (wrap64 (N : Int)) w' h' hk hs hn1 hn2 hE
    have hts := rq_size (n := wrap64 (N : Int)) (s := s) (k := k) (e := 0)
    generalize (rq (wrap64 (N : Int)) s k 0).1 = t at *
    generalize (rq (wrap64 (N : Int)) s k 0).2.1 = K at *
    clear hE
    go_enter Tryz.func21, Tryz.ntmps21
    go_wp2_with fail
    refine (ha _ (hr.alloc _)).mono ?_
    rintro r w1 ⟨pb, hpb, rfl, hp1, h1, h2⟩
    have hx1 := (hx.alloc _).ch h2 (fun h => hbq h.symm)
    have l3 := hp1.lt
    go_wp2_with fail
    refine (hb _ hx1).mono ?_
    rintro r w2 ⟨qb, hqb, rfl, hq1, h3, h4⟩
    have hr2 := h1.ch h4 hbq
    have hpb2 : w.heap.size < pb := by simp at hpb; omega
    have hp2 := hp1.ch h4 (by omega)
    have hpq : pb ≠ qb := by omega
    have hc : Ch (fun i => i = b ∨ i = q) w w2 := (((Ch.refl _ _).alloc _).trans (h2.mono (fun _ _ h => Or.inl h))).trans (h4.mono (fun _ _ h => Or.inr h))
    have hw2 := hc.size
    have l5 := hq1.lt
    have l6 := hp2.lt
    clear h2 h4 hp1 hx1 h1 hpb ha hb
    go_wp2
    go_loopw [143] (fun i wr => ∃ j k' e' : Nat, j ≤ 4 ∧ i = .int .i64 j ∧ k' ≤ t.size ∧ Rd wr pb t k' e' ∧ RX wr qb t k' e' ∧ Rd wr b s K 0 ∧ RX wr q s K 0 ∧ wr.heap[w2.heap.size]? = some (.cells #[.int .u8 7, .int .u8 2, .int .u8 0, .int .u8 3] 5 (0, 0)) ∧ Ch (fun i => i = b ∨ i = q) w wr) (fun i _ => 4 - (intOf i).toNat)
    case atStart => exact ⟨0, 0, 0, by omega, rfl, by omega, hp2.alloc _, hq1.alloc _, hr2.alloc _, h3.alloc _, heap_new _ _, hc.alloc _⟩
    case round =>
      obtain ⟨j, k', e', hj, rfl, hk', hP, hQ, hB, hX, hL, hC⟩ := hrel
      have hts2 : t.size ≤ 9223372036854775807 := by omega
      rcases (show j = 0 ∨ j = 1 ∨ j = 2 ∨ j = 3 ∨ j = 4 by omega) with rfl | rfl | rfl | rfl | rfl
      · have cc : wr.cell? ⟨w2.heap.size, 0, none⟩ = some (.int .u8 7) := (cell_of hL).trans rfl
        go_wp2_with fail
        refine (num7_any pb qb t k' e' _ hP hQ hpq hk' hts2).mono ?_
        rintro r w3 ⟨rfl, k3, e3, hk3, hP3, hQ3, hC3⟩
        have hB3 := hB.ch hC3 (by omega)
        have hX3 := hX.ch hC3 (by omega)
        have hL3 := (hC3.block _ (lt_of_heap hL) (by omega)).trans hL
        have hCC : Ch (fun i => i = b ∨ i = q) w w3 := hC.then hC3 (fun i hi h => by omega)
        clear hP hQ hB hX hL hC hC3
        go_wp2_with (first
          | (go_at_call 15; refine (rat_any pb t k3 e3 _ hP3).mono ?_; rintro r w3 ⟨rfl, rfl⟩)
          | (go_at_call 74; refine (xat_any qb t k3 e3 _ hQ3).mono ?_; rintro r w3 ⟨rfl, rfl⟩)
          | (go_at_call 14; refine (rleft_any pb t k3 e3 _ hP3 hk3 hts2).mono ?_; rintro r w4 ⟨rfl, m1, rfl⟩)
          | (go_at_call 75; refine (xleft_any qb t k3 e3 _ (hQ3.drewN _) hk3 hts2).mono ?_; rintro r w4 ⟨rfl, m2, rfl⟩)
          | (go_at_call 16; refine (rerr_any pb t k3 e3 _ (hP3.drewN _)).mono ?_; rintro r w5 ⟨rfl, rfl⟩)
          | (go_at_call 22; refine (xerr_any qb t k3 e3 _ (hQ3.drewN _)).mono ?_; rintro r w5 ⟨rfl, rfl⟩))
        go_roundw
        case rel => exact ⟨1, k3, e3, by omega, rfl, hk3, hP3.drewN _, hQ3.drewN _, hB3.drewN _, hX3.drewN _, hL3, hCC.drewN _⟩
        case measure => simp [intOf]
      · have cc : wr.cell? ⟨w2.heap.size, 1, none⟩ = some (.int .u8 2) := (cell_of hL).trans rfl
        go_wp2_with fail
        refine (num2_any pb qb t k' e' _ hP hQ hpq hk' hts2).mono ?_
        rintro r w3 ⟨rfl, k3, e3, hk3, hP3, hQ3, hC3⟩
        have hB3 := hB.ch hC3 (by omega)
        have hX3 := hX.ch hC3 (by omega)
        have hL3 := (hC3.block _ (lt_of_heap hL) (by omega)).trans hL
        have hCC : Ch (fun i => i = b ∨ i = q) w w3 := hC.then hC3 (fun i hi h => by omega)
        clear hP hQ hB hX hL hC hC3
        go_wp2_with (first
          | (go_at_call 15; refine (rat_any pb t k3 e3 _ hP3).mono ?_; rintro r w3 ⟨rfl, rfl⟩)
          | (go_at_call 74; refine (xat_any qb t k3 e3 _ hQ3).mono ?_; rintro r w3 ⟨rfl, rfl⟩)
          | (go_at_call 14; refine (rleft_any pb t k3 e3 _ hP3 hk3 hts2).mono ?_; rintro r w4 ⟨rfl, m1, rfl⟩)
          | (go_at_call 75; refine (xleft_any qb t k3 e3 _ (hQ3.drewN _) hk3 hts2).mono ?_; rintro r w4 ⟨rfl, m2, rfl⟩)
          | (go_at_call 16; refine (rerr_any pb t k3 e3 _ (hP3.drewN _)).mono ?_; rintro r w5 ⟨rfl, rfl⟩)
          | (go_at_call 22; refine (xerr_any qb t k3 e3 _ (hQ3.drewN _)).mono ?_; rintro r w5 ⟨rfl, rfl⟩))
        go_roundw
        case rel => exact ⟨2, k3, e3, by omega, rfl, hk3, hP3.drewN _, hQ3.drewN _, hB3.drewN _, hX3.drewN _, hL3, hCC.drewN _⟩
        case measure => simp [intOf]
      · have cc : wr.cell? ⟨w2.heap.size, 2, none⟩ = some (.int .u8 0) := (cell_of hL).trans rfl
        go_wp2_with fail
        refine (num0_any pb qb t k' e' _ hP hQ hpq hk' hts2).mono ?_
        rintro r w3 ⟨rfl, k3, e3, hk3, hP3, hQ3, hC3⟩
        have hB3 := hB.ch hC3 (by omega)
        have hX3 := hX.ch hC3 (by omega)
        have hL3 := (hC3.block _ (lt_of_heap hL) (by omega)).trans hL
        have hCC : Ch (fun i => i = b ∨ i = q) w w3 := hC.then hC3 (fun i hi h => by omega)
        clear hP hQ hB hX hL hC hC3
        go_wp2_with (first
          | (go_at_call 15; refine (rat_any pb t k3 e3 _ hP3).mono ?_; rintro r w3 ⟨rfl, rfl⟩)
          | (go_at_call 74; refine (xat_any qb t k3 e3 _ hQ3).mono ?_; rintro r w3 ⟨rfl, rfl⟩)
          | (go_at_call 14; refine (rleft_any pb t k3 e3 _ hP3 hk3 hts2).mono ?_; rintro r w4 ⟨rfl, m1, rfl⟩)
          | (go_at_call 75; refine (xleft_any qb t k3 e3 _ (hQ3.drewN _) hk3 hts2).mono ?_; rintro r w4 ⟨rfl, m2, rfl⟩)
          | (go_at_call 16; refine (rerr_any pb t k3 e3 _ (hP3.drewN _)).mono ?_; rintro r w5 ⟨rfl, rfl⟩)
          | (go_at_call 22; refine (xerr_any qb t k3 e3 _ (hQ3.drewN _)).mono ?_; rintro r w5 ⟨rfl, rfl⟩))
        go_roundw
        case rel => exact ⟨3, k3, e3, by omega, rfl, hk3, hP3.drewN _, hQ3.drewN _, hB3.drewN _, hX3.drewN _, hL3, hCC.drewN _⟩
        case measure => simp [intOf]
      · have cc : wr.cell? ⟨w2.heap.size, 3, none⟩ = some (.int .u8 3) := (cell_of hL).trans rfl
        go_wp2_with fail
        refine (num3_any pb qb t k' e' _ hP hQ hpq hk' hts2).mono ?_
        rintro r w3 ⟨rfl, k3, e3, hk3, hP3, hQ3, hC3⟩
        have hB3 := hB.ch hC3 (by omega)
        have hX3 := hX.ch hC3 (by omega)
        have hL3 := (hC3.block _ (lt_of_heap hL) (by omega)).trans hL
        have hCC : Ch (fun i => i = b ∨ i = q) w w3 := hC.then hC3 (fun i hi h => by omega)
        clear hP hQ hB hX hL hC hC3
        go_wp2_with (first
          | (go_at_call 15; refine (rat_any pb t k3 e3 _ hP3).mono ?_; rintro r w3 ⟨rfl, rfl⟩)
          | (go_at_call 74; refine (xat_any qb t k3 e3 _ hQ3).mono ?_; rintro r w3 ⟨rfl, rfl⟩)
          | (go_at_call 14; refine (rleft_any pb t k3 e3 _ hP3 hk3 hts2).mono ?_; rintro r w4 ⟨rfl, m1, rfl⟩)
          | (go_at_call 75; refine (xleft_any qb t k3 e3 _ (hQ3.drewN _) hk3 hts2).mono ?_; rintro r w4 ⟨rfl, m2, rfl⟩)
          | (go_at_call 16; refine (rerr_any pb t k3 e3 _ (hP3.drewN _)).mono ?_; rintro r w5 ⟨rfl, rfl⟩)
          | (go_at_call 22; refine (xerr_any qb t k3 e3 _ (hQ3.drewN _)).mono ?_; rintro r w5 ⟨rfl, rfl⟩))
        go_roundw
        case rel => exact ⟨4, k3, e3, by omega, rfl, hk3, hP3.drewN _, hQ3.drewN _, hB3.drewN _, hX3.drewN _, hL3, hCC.drewN _⟩
        case measure => simp [intOf]
      · go_wp2
        go_ret
        exact ⟨rfl, K, 0, hle, hB, hX, hC⟩
  · have ha := fun w' h' => rpart_no b s k e (wrap64 (N : Int)) w' h' hk hs hn1 hn2 hE
    have hb := fun w' h' => xpart_no q s k e (wrap64 (N : Int)) w' h' hk hs hn1 hn2 hE
    generalize (rq (wrap64 (N : Int)) s k e).2.1 = K at *
    generalize (rq (wrap64 (N : Int)) s k e).2.2 = E at *
    clear hE
    go_enter Tryz.func21, Tryz.ntmps21
    go_wp2_with fail
    refine (ha _ (hr.alloc _)).mono ?_
    rintro r w1 ⟨rfl, h1, h2⟩
    have hx1 := (hx.alloc _).ch h2 (fun h => hbq h.symm)
    go_wp2_with fail
    refine (hb _ hx1).mono ?_
    rintro r w2 ⟨rfl, h3, h4⟩
    have hr2 := h1.ch h4 hbq
    go_wp2
    go_ret
    exact ⟨rfl, K, E, hle, hr2, h3, (((Ch.refl _ _).alloc _).trans (h2.mono (fun _ _ h => Or.inl h))).trans (h4.mono (fun _ _ h => Or.inr h))⟩
theorem readop_any (b q : Nat) (s : ByteArray) (k e Kd N : Nat) (S : ByteArray) (w : World) (hr : Rd w b s k e) (hx : RX w q s k e) (hbq : b ≠ q) (hk : k ≤ s.size) (hs : s.size ≤ 9223372036854775807) (hKd : Kd < 256) :
    Calls Tryz.prog 21 #[.pointer (some ⟨b, 0, none⟩), .pointer (some ⟨q, 0, none⟩), .agg #[.int .u8 Kd, .int .u64 N, .string S]] w (Both b q s w) := by
  rcases (show (Kd : Int) % 14 = 0 ∨ (Kd : Int) % 14 = 1 ∨ (Kd : Int) % 14 = 2 ∨ (Kd : Int) % 14 = 3 ∨ (Kd : Int) % 14 = 4 ∨ (Kd : Int) % 14 = 5 ∨ (Kd : Int) % 14 = 6 ∨ (Kd : Int) % 14 = 7 ∨ (Kd : Int) % 14 = 8 ∨ (Kd : Int) % 14 = 9 ∨ (Kd : Int) % 14 = 10 ∨ (Kd : Int) % 14 = 11 ∨ (Kd : Int) % 14 = 12 ∨ (Kd : Int) % 14 = 13 by omega) with h | h | h | h | h | h | h | h | h | h | h | h | h | h
  · exact read0_any b q s k e Kd N S w hr hx hbq hk hs hKd h
  · exact read1_any b q s k e Kd N S w hr hx hbq hk hs hKd h
  · exact read2_any b q s k e Kd N S w hr hx hbq hk hs hKd h
  · exact read3_any b q s k e Kd N S w hr hx hbq hk hs hKd h
  · exact read4_any b q s k e Kd N S w hr hx hbq hk hs hKd h
  · exact read5_any b q s k e Kd N S w hr hx hbq hk hs hKd h
  · exact read6_any b q s k e Kd N S w hr hx hbq hk hs hKd h
  · exact read7_any b q s k e Kd N S w hr hx hbq hk hs hKd h
  · exact read8_any b q s k e Kd N S w hr hx hbq hk hs hKd h
  · exact read9_any b q s k e Kd N S w hr hx hbq hk hs hKd h
  · exact read10_any b q s k e Kd N S w hr hx hbq hk hs hKd h
  · exact read11_any b q s k e Kd N S w hr hx hbq hk hs hKd h
  · exact read12_any b q s k e Kd N S w hr hx hbq hk hs hKd h
  · exact read13_any b q s k e Kd N S w hr hx hbq hk hs hKd h
end Go.Proofs.YtpfaioncaolmjaaGreat
namespace Go.Proofs.YtpfaioncaolmjaaGreat
open Go.RowKit
set_option maxHeartbeats 4000000 in
set_option maxRecDepth 20000 in
theorem nread13_any (q Kd N : Nat) (S : ByteArray) (w : World) (hx : RX w q ⟨#[]⟩ 0 0) (hKd : Kd < 256) (hm : (Kd : Int) % 14 = 13) :
    Calls Tryz.prog 21 #[.pointer none, .pointer (some ⟨q, 0, none⟩), .agg #[.int .u8 Kd, .int .u64 N, .string S]] w (NRd q w) := by
  obtain ⟨hn1, hn2⟩ := w64 N
  have l2 := hx.lt
  by_cases hn : wrap64 (N : Int) = 0
  · have hE : (rq (wrap64 (N : Int)) ⟨#[]⟩ 0 0).2.2 = 0 := by rw [hn]; rfl
    have hT : (rq (wrap64 (N : Int)) ⟨#[]⟩ 0 0).1 = ⟨#[]⟩ := by rw [hn]; rfl
    have ha : ∀ w', Calls Tryz.prog 72 #[.pointer none, .int .i64 (wrap64 (N : Int))] w' (fun e v' => ∃ q, w'.heap.size ≤ q ∧ e = .returned (.tuple #[.pointer (some ⟨q, 0, none⟩), .int .i64 0]) ∧ Rd v' q ⟨#[]⟩ 0 0 ∧ Below w'.heap.size w' v') := fun w' => by
      rw [hn]
      exact nilPartOk_any w'
    have hb := fun w' h' => xpart_ok q ⟨#[]⟩ 0 (wrap64 (N : Int)) w' h' (Nat.zero_le _) nil_sz hn1 hn2 hE
    rw [hT] at hb
    have hts := nil_sz
    generalize (rq (wrap64 (N : Int)) ⟨#[]⟩ 0 0).2.1 = K at *
    clear hE hT hn
    generalize (⟨#[]⟩ : ByteArray) = t at *
    go_enter Tryz.func21, Tryz.ntmps21
    go_wp2_with fail
    refine (ha _).mono ?_
    rintro r w1 ⟨pb, hpb, rfl, hp1, h2⟩
    have hx1 := (hx.alloc _).below h2 (hx.alloc _).lt
    have l3 := hp1.lt
    go_wp2_with fail
    refine (hb _ hx1).mono ?_
    rintro r w2 ⟨qb, hqb, rfl, hq1, h3, h4⟩
    have hpb2 : w.heap.size < pb := by simp at hpb; omega
    have hp2 := hp1.ch h4 (by omega)
    have hpq : pb ≠ qb := by omega
    have hc : OldX q w w2 := ((oldx_alloc _).trans (oldx_of h2)).trans (oldx_ch h4)
    have hz := h2.size
    have hqb2 : w.heap.size < qb := by simp at hz; omega
    have hw2' := hq1.lt
    have l5 := hq1.lt
    have l6 := hp2.lt
    clear h2 h4 hp1 hx1 hpb ha hb
    go_wp2
    go_loopw [143] (fun i wr => ∃ j k' e' : Nat, j ≤ 4 ∧ i = .int .i64 j ∧ k' ≤ t.size ∧ Rd wr pb t k' e' ∧ RX wr qb t k' e' ∧ wr.heap[w2.heap.size]? = some (.cells #[.int .u8 7, .int .u8 2, .int .u8 0, .int .u8 3] 5 (0, 0)) ∧ OldX q w wr) (fun i _ => 4 - (intOf i).toNat)
    case atStart => exact ⟨0, 0, 0, by omega, rfl, by omega, hp2.alloc _, hq1.alloc _, heap_new _ _, hc.trans (oldx_alloc _)⟩
    case round =>
      obtain ⟨j, k', e', hj, rfl, hk', hP, hQ, hL, hC⟩ := hrel
      have hts2 := hts
      rcases (show j = 0 ∨ j = 1 ∨ j = 2 ∨ j = 3 ∨ j = 4 by omega) with rfl | rfl | rfl | rfl | rfl
      · have cc : wr.cell? ⟨w2.heap.size, 0, none⟩ = some (.int .u8 7) := (cell_of hL).trans rfl
        go_wp2_with fail
        refine (num7_any pb qb t k' e' _ hP hQ hpq hk' hts2).mono ?_
        rintro r w3 ⟨rfl, k3, e3, hk3, hP3, hQ3, hC3⟩
        have hL3 := (hC3.block _ (lt_of_heap hL) (by omega)).trans hL
        have hCC : OldX q w w3 := fun H h1 h2 => (hC H h1 h2).trans (hC3.below (by have := (hC H h1 h2).size; omega) (fun i hi hs => by omega))
        clear hP hQ hL hC hC3
        go_wp2_with (first
          | (go_at_call 15; refine (rat_any pb t k3 e3 _ hP3).mono ?_; rintro r w3 ⟨rfl, rfl⟩)
          | (go_at_call 74; refine (xat_any qb t k3 e3 _ hQ3).mono ?_; rintro r w3 ⟨rfl, rfl⟩)
          | (go_at_call 14; refine (rleft_any pb t k3 e3 _ hP3 hk3 hts2).mono ?_; rintro r w4 ⟨rfl, m1, rfl⟩)
          | (go_at_call 75; refine (xleft_any qb t k3 e3 _ (hQ3.drewN _) hk3 hts2).mono ?_; rintro r w4 ⟨rfl, m2, rfl⟩)
          | (go_at_call 16; refine (rerr_any pb t k3 e3 _ (hP3.drewN _)).mono ?_; rintro r w5 ⟨rfl, rfl⟩)
          | (go_at_call 22; refine (xerr_any qb t k3 e3 _ (hQ3.drewN _)).mono ?_; rintro r w5 ⟨rfl, rfl⟩))
        go_roundw
        case rel => exact ⟨1, k3, e3, by omega, rfl, hk3, hP3.drewN _, hQ3.drewN _, hL3, hCC.trans (oldx_drewN _)⟩
        case measure => simp [intOf]
      · have cc : wr.cell? ⟨w2.heap.size, 1, none⟩ = some (.int .u8 2) := (cell_of hL).trans rfl
        go_wp2_with fail
        refine (num2_any pb qb t k' e' _ hP hQ hpq hk' hts2).mono ?_
        rintro r w3 ⟨rfl, k3, e3, hk3, hP3, hQ3, hC3⟩
        have hL3 := (hC3.block _ (lt_of_heap hL) (by omega)).trans hL
        have hCC : OldX q w w3 := fun H h1 h2 => (hC H h1 h2).trans (hC3.below (by have := (hC H h1 h2).size; omega) (fun i hi hs => by omega))
        clear hP hQ hL hC hC3
        go_wp2_with (first
          | (go_at_call 15; refine (rat_any pb t k3 e3 _ hP3).mono ?_; rintro r w3 ⟨rfl, rfl⟩)
          | (go_at_call 74; refine (xat_any qb t k3 e3 _ hQ3).mono ?_; rintro r w3 ⟨rfl, rfl⟩)
          | (go_at_call 14; refine (rleft_any pb t k3 e3 _ hP3 hk3 hts2).mono ?_; rintro r w4 ⟨rfl, m1, rfl⟩)
          | (go_at_call 75; refine (xleft_any qb t k3 e3 _ (hQ3.drewN _) hk3 hts2).mono ?_; rintro r w4 ⟨rfl, m2, rfl⟩)
          | (go_at_call 16; refine (rerr_any pb t k3 e3 _ (hP3.drewN _)).mono ?_; rintro r w5 ⟨rfl, rfl⟩)
          | (go_at_call 22; refine (xerr_any qb t k3 e3 _ (hQ3.drewN _)).mono ?_; rintro r w5 ⟨rfl, rfl⟩))
        go_roundw
        case rel => exact ⟨2, k3, e3, by omega, rfl, hk3, hP3.drewN _, hQ3.drewN _, hL3, hCC.trans (oldx_drewN _)⟩
        case measure => simp [intOf]
      · have cc : wr.cell? ⟨w2.heap.size, 2, none⟩ = some (.int .u8 0) := (cell_of hL).trans rfl
        go_wp2_with fail
        refine (num0_any pb qb t k' e' _ hP hQ hpq hk' hts2).mono ?_
        rintro r w3 ⟨rfl, k3, e3, hk3, hP3, hQ3, hC3⟩
        have hL3 := (hC3.block _ (lt_of_heap hL) (by omega)).trans hL
        have hCC : OldX q w w3 := fun H h1 h2 => (hC H h1 h2).trans (hC3.below (by have := (hC H h1 h2).size; omega) (fun i hi hs => by omega))
        clear hP hQ hL hC hC3
        go_wp2_with (first
          | (go_at_call 15; refine (rat_any pb t k3 e3 _ hP3).mono ?_; rintro r w3 ⟨rfl, rfl⟩)
          | (go_at_call 74; refine (xat_any qb t k3 e3 _ hQ3).mono ?_; rintro r w3 ⟨rfl, rfl⟩)
          | (go_at_call 14; refine (rleft_any pb t k3 e3 _ hP3 hk3 hts2).mono ?_; rintro r w4 ⟨rfl, m1, rfl⟩)
          | (go_at_call 75; refine (xleft_any qb t k3 e3 _ (hQ3.drewN _) hk3 hts2).mono ?_; rintro r w4 ⟨rfl, m2, rfl⟩)
          | (go_at_call 16; refine (rerr_any pb t k3 e3 _ (hP3.drewN _)).mono ?_; rintro r w5 ⟨rfl, rfl⟩)
          | (go_at_call 22; refine (xerr_any qb t k3 e3 _ (hQ3.drewN _)).mono ?_; rintro r w5 ⟨rfl, rfl⟩))
        go_roundw
        case rel => exact ⟨3, k3, e3, by omega, rfl, hk3, hP3.drewN _, hQ3.drewN _, hL3, hCC.trans (oldx_drewN _)⟩
        case measure => simp [intOf]
      · have cc : wr.cell? ⟨w2.heap.size, 3, none⟩ = some (.int .u8 3) := (cell_of hL).trans rfl
        go_wp2_with fail
        refine (num3_any pb qb t k' e' _ hP hQ hpq hk' hts2).mono ?_
        rintro r w3 ⟨rfl, k3, e3, hk3, hP3, hQ3, hC3⟩
        have hL3 := (hC3.block _ (lt_of_heap hL) (by omega)).trans hL
        have hCC : OldX q w w3 := fun H h1 h2 => (hC H h1 h2).trans (hC3.below (by have := (hC H h1 h2).size; omega) (fun i hi hs => by omega))
        clear hP hQ hL hC hC3
        go_wp2_with (first
          | (go_at_call 15; refine (rat_any pb t k3 e3 _ hP3).mono ?_; rintro r w3 ⟨rfl, rfl⟩)
          | (go_at_call 74; refine (xat_any qb t k3 e3 _ hQ3).mono ?_; rintro r w3 ⟨rfl, rfl⟩)
          | (go_at_call 14; refine (rleft_any pb t k3 e3 _ hP3 hk3 hts2).mono ?_; rintro r w4 ⟨rfl, m1, rfl⟩)
          | (go_at_call 75; refine (xleft_any qb t k3 e3 _ (hQ3.drewN _) hk3 hts2).mono ?_; rintro r w4 ⟨rfl, m2, rfl⟩)
          | (go_at_call 16; refine (rerr_any pb t k3 e3 _ (hP3.drewN _)).mono ?_; rintro r w5 ⟨rfl, rfl⟩)
          | (go_at_call 22; refine (xerr_any qb t k3 e3 _ (hQ3.drewN _)).mono ?_; rintro r w5 ⟨rfl, rfl⟩))
        go_roundw
        case rel => exact ⟨4, k3, e3, by omega, rfl, hk3, hP3.drewN _, hQ3.drewN _, hL3, hCC.trans (oldx_drewN _)⟩
        case measure => simp [intOf]
      · go_wp2
        go_ret
        exact ⟨rfl, hC⟩
  · have hne : (rq (wrap64 (N : Int)) ⟨#[]⟩ 0 0).2.2 ≠ 0 := by
      by_cases h0 : wrap64 (N : Int) < 0
      · rw [rq_range h0]; decide
      · obtain ⟨M, hM⟩ : ∃ M : Nat, wrap64 (N : Int) = (M : Int) := ⟨(wrap64 (N : Int)).toNat, by omega⟩
        rw [hM, rq_short (by show ¬ 0 + M ≤ 0; omega)]; decide
    have ha := fun w' => nilPart_any (wrap64 (N : Int)) w' hne
    have hb := fun w' h' => xpart_no q ⟨#[]⟩ 0 0 (wrap64 (N : Int)) w' h' (Nat.zero_le _) nil_sz hn1 hn2 hne
    generalize (rq (wrap64 (N : Int)) ⟨#[]⟩ 0 0).2.1 = K at *
    generalize (rq (wrap64 (N : Int)) ⟨#[]⟩ 0 0).2.2 = E at *
    clear hne hn
    go_enter Tryz.func21, Tryz.ntmps21
    go_wp2_with fail
    refine (ha _).mono ?_
    rintro r w1 ⟨rfl, h2⟩
    have hx1 := (hx.alloc _).below h2 (hx.alloc _).lt
    go_wp2_with fail
    refine (hb _ hx1).mono ?_
    rintro r w2 ⟨rfl, h3, h4⟩
    go_wp2
    go_ret
    exact ⟨rfl, ((oldx_alloc _).trans (oldx_of h2)).trans (oldx_ch h4)⟩
theorem nreadop_any (q Kd N : Nat) (S : ByteArray) (w : World) (hx : RX w q ⟨#[]⟩ 0 0) (hKd : Kd < 256) :
    Calls Tryz.prog 21 #[.pointer none, .pointer (some ⟨q, 0, none⟩), .agg #[.int .u8 Kd, .int .u64 N, .string S]] w (NRd q w) := by
  rcases (show (Kd : Int) % 14 = 0 ∨ (Kd : Int) % 14 = 1 ∨ (Kd : Int) % 14 = 2 ∨ (Kd : Int) % 14 = 3 ∨ (Kd : Int) % 14 = 4 ∨ (Kd : Int) % 14 = 5 ∨ (Kd : Int) % 14 = 6 ∨ (Kd : Int) % 14 = 7 ∨ (Kd : Int) % 14 = 8 ∨ (Kd : Int) % 14 = 9 ∨ (Kd : Int) % 14 = 10 ∨ (Kd : Int) % 14 = 11 ∨ (Kd : Int) % 14 = 12 ∨ (Kd : Int) % 14 = 13 by omega) with h | h | h | h | h | h | h | h | h | h | h | h | h | h
  · exact nread0_any q Kd N S w hx hKd h
  · exact nread1_any q Kd N S w hx hKd h
  · exact nread2_any q Kd N S w hx hKd h
  · exact nread3_any q Kd N S w hx hKd h
  · exact nread4_any q Kd N S w hx hKd h
  · exact nread5_any q Kd N S w hx hKd h
  · exact nread6_any q Kd N S w hx hKd h
  · exact nread7_any q Kd N S w hx hKd h
  · exact nread8_any q Kd N S w hx hKd h
  · exact nread9_any q Kd N S w hx hKd h
  · exact nread10_any q Kd N S w hx hKd h
  · exact nread11_any q Kd N S w hx hKd h
  · exact nread12_any q Kd N S w hx hKd h
  · exact nread13_any q Kd N S w hx hKd h
end Go.Proofs.YtpfaioncaolmjaaGreat
namespace Go.Proofs.YtpfaioncaolmjaaGreat
open Go.RowKit
theorem sheet_cells (w : World) : (w.alloc (.cells #[.int .i64 0, .slice none 0 0] 50)).cell? ⟨w.heap.size, 0, none⟩ = some (.int .i64 0) ∧ (w.alloc (.cells #[.int .i64 0, .slice none 0 0] 50)).cell? ⟨w.heap.size, 1, none⟩ = some (.slice none 0 0) := ⟨(cell_of (heap_new w _)).trans rfl, (cell_of (heap_new w _)).trans rfl⟩
set_option maxHeartbeats 1000000 in
set_option maxRecDepth 20000 in
theorem nilwAt_any (w : World) :
    Calls Tryz.prog 23 #[.pointer none] w fun e w' => e = .returned (.int .i64 0) ∧ Below w.heap.size w w' := by
  obtain ⟨c0, c1⟩ := sheet_cells w
  go_enter Tryz.func23, Tryz.ntmps23
  go_wp2_with (first
    | (go_at_call 49; refine (target_nil w).mono ?_; rintro e w' ⟨rfl, rfl⟩)
    | (go_at_call 60; refine (at_any w.heap.size 0 _ c0).mono ?_; rintro e w' ⟨rfl, rfl⟩))
  go_ret
  exact ⟨rfl, ((Below.refl w.heap.size w).alloc (Nat.le_refl _) _)⟩
set_option maxHeartbeats 1000000 in
set_option maxRecDepth 20000 in
theorem nilwBytes_any (w : World) :
    Calls Tryz.prog 10 #[.pointer none] w fun e w' => e = .returned (.string (bs [])) ∧ Below w.heap.size w w' := by
  obtain ⟨a, n, cap, T, g, ho, _, _, hb⟩ := sheet_new w
  have c1 : (w.alloc (.cells #[.int .i64 0, .slice none 0 0] 50)).cell? ⟨w.heap.size, 1, none⟩ = some (.slice a n cap) := (cell_of g).trans rfl
  have hcv := conv_own hb ho
  clear g ho hb
  go_enter Tryz.func10, Tryz.ntmps10
  go_wp2_with (go_at_call 49; refine (target_nil w).mono ?_; rintro e w' ⟨rfl, rfl⟩)
  go_ret
  exact ⟨rfl, ((Below.refl w.heap.size w).alloc (Nat.le_refl _) _)⟩
set_option maxHeartbeats 1000000 in
set_option maxRecDepth 20000 in
theorem nilwPut_any (w : World) :
    Calls Tryz.prog 24 #[.pointer none, .int .i64 0, .int .u32 7] w fun e w' => e = .returned (.bool false) ∧ Below w.heap.size w w' := by
  have C := hid (over_no w.heap.size (w.heap.size + 1) [] 0 7 _ (sheet_new w) (by simp) (by simp))
  go_enter Tryz.func24, Tryz.ntmps24
  go_wp2_with (first
    | (go_at_call 49; refine (target_nil w).mono ?_; rintro e w' ⟨rfl, rfl⟩)
    | (go_at_call 76; refine C.out.mono ?_; rintro e w' ⟨rfl, rfl⟩))
  go_ret
  exact ⟨rfl, ((Below.refl w.heap.size w).alloc (Nat.le_refl _) _)⟩
end Go.Proofs.YtpfaioncaolmjaaGreat
