/- The document's Read. -/
import Derived.Test.YtmhmohkeekmmgaaTOp
import Derived.Test.YtmhmohkeekmmgaaRX2
namespace Go.Proofs.Ytmhmohkeekmmgaa
open Go.RowKit
theorem rread_bad (s : ByteArray) (w : World) (h : s.size % 16 ≠ 0) (hs : s.size ≤ 140737488355328) : Calls Try.prog 21 #[.string s] w fun e w' => e = .returned (.tuple #[.pointer none, .int .i64 29]) ∧ w' = w := by
  have h1 : ¬ ((s.size : Int) % 16 = 0) := by omega
  have h2 : (((s.size : Int) % 16) != 0) = true := by simp; omega
  go_enter Try.func21, Try.ntmps21
  go_wp2_with fail
  go_ret2
  exact ⟨rfl, rfl⟩
/-- Under way: the document's index with the first entries, its reader behind them. -/
structure Rz (w wr : World) (X : Nat) (s : ByteArray) (k : Nat) (v : Value) (l : List En) : Prop where
  rx : RX wr (X + 1) s k 0
  iy : Ix 47 wr X v l
  lo : ∀ g, v.ownBlock = some g → X + 2 ≤ g
  bel : Below X w wr
  le : X + 2 ≤ wr.heap.size
theorem Rz.later {w wr wx : World} {X k : Nat} {s : ByteArray} {v : Value} {l : List En} (h : Rz w wr X s k v l) (hb : Below wr.heap.size wr wx) : Rz w wx X s k v l :=
  ⟨h.rx.below hb h.rx.lt, h.iy.below hb, h.lo, h.bel.trans (hb.mono (by have := h.le; omega)), Nat.le_trans h.le hb.size⟩
theorem Rz.next {w wr wx : World} {X k k' : Nat} {s : ByteArray} {v : Value} {l : List En} (h : Rz w wr X s k v l) (hr : RX wx (X + 1) s k' 0) (hc : Ch (fun i => i = X + 1) wr wx) : Rz w wx X s k' v l :=
  ⟨hr, h.iy.ch hc (fun i hi e => by rcases hi with rfl | hi; omega; have := h.lo i hi; omega), h.lo, h.bel.trans (hc.below (by have := h.le; omega) (fun i hi e => by omega)), Nat.le_trans h.le hc.size⟩
theorem Rz.app {w wr wx : World} {X k : Nat} {s : ByteArray} {v v' : Value} {l l' : List En} (h : Rz w wr X s k v l) (hy : Ix 47 wx X v' l') (hc : Ch (IS X v) wr wx) (hm : Moved wr v v') : Rz w wx X s k v' l' := by
  refine ⟨h.rx.ch hc ?_, hy, fun g hg => ?_, h.bel.trans (hc.below (by have := h.le; omega) (fun i hi hs => ?_)), Nat.le_trans h.le hc.size⟩
  · rintro (e | e)
    · omega
    · have := h.lo _ e; omega
  · rcases hm g hg with h1 | h1
    · exact h.lo g h1
    · exact Nat.le_trans h.le h1
  · rcases hs with rfl | hs
    · omega
    · have := h.lo i hs; omega
/-- What the document's Read answers of entries' bytes. -/
def RReadP (w : World) (L : List En) (e : Ending) (w' : World) : Prop := ((rdC [] L = 0 ∧ ∃ x v, e = .returned (.tuple #[.pointer (some ⟨x, 0, none⟩), .int .i64 0]) ∧ Ix 47 w' x v L ∧ w.heap.size ≤ x ∧ ∀ g, v.ownBlock = some g → w.heap.size ≤ g) ∨ ((rdC [] L = 1 ∨ rdC [] L = 30) ∧ e = .returned (.tuple #[.pointer none, .int .i64 (rdC [] L)]))) ∧ Below w.heap.size w w'
set_option maxRecDepth 20000 in
set_option maxHeartbeats 2000000 in
theorem rread_ok (s : ByteArray) (w : World) (h : s.size % 16 = 0) (hs : s.size ≤ 140737488355328) : Calls Try.prog 21 #[.string s] w (RReadP w (rdE (bl s))) := by
  obtain ⟨N, hN⟩ : ∃ N, s.size = N * 16 := ⟨s.size / 16, by omega⟩
  have hl : (rdE (bl s)).length = N := by rw [rdE_len, bl_len, hN]; omega
  have HAT : Hid (∀ j, j < N → (rdE (bl s)).getD j en0 = ⟨wrap64 (be (bl (s.extract (j * 16) (j * 16 + 8))) : Int), wrap64 (be (bl (s.extract (j * 16 + 8) (j * 16 + 16))) : Int)⟩) := fun j hj => by
    rw [rdE_at _ (by rw [bl_len, hN]; omega)]
    unfold enB b8
    rw [bl_ext, bl_ext, show j * 16 + 8 - j * 16 = 8 from by omega, show j * 16 + 16 - (j * 16 + 8) = 8 from by omega]
  have HI : Hid (∀ wx k, RX wx (w.heap.size + 1) s k 0 → k + 8 ≤ N * 16 → Calls Try.prog 43 #[.pointer (some ⟨w.heap.size + 1, 0, none⟩)] wx fun e w' => e = .returned (.tuple #[.int .i64 (wrap64 (be (bl (s.extract k (k + 8))) : Int)), .int .i64 0]) ∧ RX w' (w.heap.size + 1) s (k + 8) 0 ∧ Ch (fun i => i = w.heap.size + 1) wx w') := fun wx k hx hk => by
    have := xi64_any (w.heap.size + 1) s k 0 wx hx (by omega) (by omega)
    rw [fx_ok (show k + 8 ≤ s.size by omega)] at this
    exact this
  have HLf : Hid (∀ wx k, RX wx (w.heap.size + 1) s k 0 → k ≤ N * 16 → Calls Try.prog 42 #[.pointer (some ⟨w.heap.size + 1, 0, none⟩)] wx fun r w' => r = .returned (.int .i64 ((s.size : Int) - k)) ∧ ∃ n, w' = wx.drewN n) := fun wx k hx hk => xleft_any (w.heap.size + 1) s k 0 wx hx (by omega) (by omega)
  have HL := hid hl
  have h1 : ((s.size : Int) % 16 = 0) := by omega
  have HS0 : Hid (Rz w ((w.alloc (.cells #[.slice none 0 0] 47)).alloc (.cells #[.string s, .int .i64 0, .int .i64 0] 87)) w.heap.size s 0 (.slice none 0 0) []) := by
    have h2 := heap_new (w.alloc (.cells #[.slice none 0 0] 47)) (.cells #[.string s, .int .i64 0, .int .i64 0] 87 (0, 0))
    rw [show (w.alloc (.cells #[.slice none 0 0] 47)).heap.size = w.heap.size + 1 from by simp] at h2
    exact ⟨h2, (Ix.new _ _).alloc _, (fun g hg => by cases hg), ((Below.refl _ _).alloc (Nat.le_refl _) _).alloc (by simp) _, by simp⟩
  have hNb : N ≤ 8796093022208 := by omega
  have HNs := hid hN
  generalize rdE (bl s) = L at *
  clear hl h hN
  go_enter Try.func21, Try.ntmps21
  go_wp2_with (first | (go_at_call 11; refine (rnew_any _).mono ?_; rintro e w' ⟨rfl, rfl⟩) | (go_at_call 41; refine (xnew_any s _).mono ?_; rintro e w' ⟨rfl, rfl⟩))
  generalize (w.alloc (.cells #[.slice none 0 0] 47)).alloc (.cells #[.string s, .int .i64 0, .int .i64 0] 87) = ws at *
  go_loopg [6] N (fun k v6 wr => ∃ (j : Nat) (v : Value), j + k = N ∧ v6 = v6 ∧ Hid (Rz w wr w.heap.size s (j * 16) v (L.take j)) ∧ Hid (rdC [] L = rdC (L.take j) (L.drop j)))
  case atStart => exact ⟨0, _, by omega, rfl, HS0.out, by show _ = _; simp⟩
  case round =>
    clear HS0
    obtain ⟨j, v, hj, _, HZ, HF⟩ := hrel
    obtain ⟨D, hD⟩ : ∃ D : Int, (s.size : Int) - ((j * 16 : Nat) : Int) = D := ⟨_, rfl⟩
    have hDe : D = 16 * (N : Int) - 16 * (j : Int) := by have := HNs.out; omega
    have HLf1 : Hid (Calls Try.prog 42 #[.pointer (some ⟨w.heap.size + 1, 0, none⟩)] wr fun r w' => r = .returned (.int .i64 D) ∧ Rz w w' w.heap.size s (j * 16) v (L.take j)) := by
      have h2 := HLf.out wr (j * 16) HZ.out.rx (by omega)
      rw [hD] at h2
      exact h2.mono fun r w' ⟨h3, n, h4⟩ => ⟨h3, by rw [h4]; exact HZ.out.later ⟨rfl, rfl, rfl, Nat.le_refl _, fun _ _ => rfl⟩⟩
    by_cases hlt : j < N
    · obtain ⟨k', rfl⟩ : ∃ k', gk = k' + 1 := ⟨gk - 1, by omega⟩
      have hDp : (0 : Int) < D := by omega
      have hjL : j < L.length := by rw [HL.out]; exact hlt
      have HT : Hid (L.take (j + 1) = L.take j ++ [L.getD j en0]) := by
        show _ = _
        rw [List.take_succ_eq_append_getElem hjL, getD_of hjL]
      have HF1 := hid (rdC_step hjL)
      have HTl : Hid ((L.take j).length ≤ 8796093022207) := by show _ ≤ _; rw [List.length_take]; omega
      rw [HAT.out j hlt] at HT HF1
      have HI1 := hid (fun wx hx => HI.out wx (j * 16) hx (by omega))
      have HI2 := hid (fun wx hx => HI.out wx (j * 16 + 8) hx (by omega))
      rw [show j * 16 + 8 + 8 = j * 16 + 16 from by omega] at HI2
      generalize wrap64 (be (bl (s.extract (j * 16) (j * 16 + 8))) : Int) = K at *
      generalize wrap64 (be (bl (s.extract (j * 16 + 8) (j * 16 + 16))) : Int) = A at *
      have HAp : Hid (∀ wx, Rz w wx w.heap.size s (j * 16 + 16) v (L.take j) → Calls Try.prog 13 #[.pointer (some ⟨w.heap.size, 0, none⟩), .agg #[.int .i64 K, .int .i64 A]] wx fun r w' => r = .returned (.int .i64 (addC (L.take j) ⟨K, A⟩)) ∧ ∃ v', Rz w w' w.heap.size s (j * 16 + 16) v' (addE (L.take j) ⟨K, A⟩)) := fun wx hx => (rappend_any w.heap.size ⟨K, A⟩ v (L.take j) wx hx.iy HTl.out).mono fun r w' ⟨h1, v', h2, h3, h4⟩ => ⟨h1, v', hx.app h2 h3 h4⟩
      unfold addE at HAp
      have HJ := hid hj
      clear hj hjL hD hDe
      cases hfit : fitB (L.take j) ⟨K, A⟩ with
      | true =>
        rw [hfit] at HAp HF1
        rw [(fitB_C _ _).2 hfit] at HAp
        simp only [if_true] at HAp HF1
        clear hfit
        go_wp2_with (first | (go_at_call 42; refine HLf1.out.mono ?_; rintro r w2 ⟨rfl, hz2⟩; have HZ2 := hid hz2; clear hz2) | (go_at_call 43; (with_reducible refine (HI1.out _ HZ2.out.rx).mono ?_); rintro r w3 ⟨rfl, hr3, hc3⟩; have HZ3 := hid (HZ2.out.next hr3 hc3); clear hr3 hc3) | (go_at_call 43; (with_reducible refine (HI2.out _ HZ3.out.rx).mono ?_); rintro r w4 ⟨rfl, hr4, hc4⟩; have HZ4 := hid (HZ3.out.next hr4 hc4); clear hr4 hc4) | (go_at_call 13; refine (HAp.out _ HZ4.out).mono ?_; rintro r w5 ⟨rfl, v5, hz5⟩; have HZ5 := hid hz5; clear hz5))
        go_roundg k'
        case measure => omega
        case rel => exact ⟨j + 1, v5, by have := HJ.out; omega, by first | trivial | rfl, by rw [HT.out, show (j + 1) * 16 = j * 16 + 16 from by omega]; exact HZ5.out, by rw [HF.out]; exact HF1.out⟩
      | false =>
        rw [hfit] at HAp HF1
        simp only [Bool.false_eq_true, if_false] at HAp HF1
        rcases addC_ne hfit with h9 | h9
        all_goals
          rw [h9] at HAp HF1
          clear hfit h9
          have HRC : Hid (rdC [] L = _) := HF.out.trans HF1.out
          clear HF HF1
          go_wp2_with (first | (go_at_call 42; refine HLf1.out.mono ?_; rintro r w2 ⟨rfl, hz2⟩; have HZ2 := hid hz2; clear hz2) | (go_at_call 43; (with_reducible refine (HI1.out _ HZ2.out.rx).mono ?_); rintro r w3 ⟨rfl, hr3, hc3⟩; have HZ3 := hid (HZ2.out.next hr3 hc3); clear hr3 hc3) | (go_at_call 43; (with_reducible refine (HI2.out _ HZ3.out.rx).mono ?_); rintro r w4 ⟨rfl, hr4, hc4⟩; have HZ4 := hid (HZ3.out.next hr4 hc4); clear hr4 hc4) | (go_at_call 13; refine (HAp.out _ HZ4.out).mono ?_; rintro r w5 ⟨rfl, v5, hz5⟩; have HZ5 := hid hz5; clear hz5))
          go_ret2
          exact ⟨Or.inr ⟨by rw [HRC.out]; decide, by rw [HRC.out]; rfl⟩, HZ5.out.bel⟩
    · have hD0 : D = 0 := by omega
      subst hD0
      have hjN : j = L.length := by rw [HL.out]; omega
      have HF2 : Hid (rdC [] L = 0) := by show _ = _; rw [HF.out, hjN, List.drop_length]; rfl
      rw [show L.take j = L from by rw [hjN, List.take_length]] at HLf1
      clear hjN hD hDe
      go_wp2_with (go_at_call 42; refine HLf1.out.mono ?_; rintro r w2 ⟨rfl, hz2⟩; have HZ2 := hid hz2; clear hz2)
      go_ret2
      exact ⟨Or.inl ⟨HF2.out, _, v, rfl, HZ2.out.iy, Nat.le_refl _, fun g hg => by have := HZ2.out.lo g hg; omega⟩, HZ2.out.bel⟩
end Go.Proofs.Ytmhmohkeekmmgaa
