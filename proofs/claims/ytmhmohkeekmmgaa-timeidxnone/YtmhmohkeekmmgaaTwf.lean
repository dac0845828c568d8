/- The document's Form and Bytes. -/
import Derived.Test.YtmhmohkeekmmgaaTwx
import Derived.Test.YtmhmohkeekmmgaaTra
namespace Go.Proofs.Ytmhmohkeekmmgaa
open Go.RowKit
theorem WX.alloc {w : World} {p : Nat} {s : ByteArray} (h : WX w p s) (o : Obj) : WX (w.alloc o) p s := heap_alloc_at h
theorem WX.ch {S : Nat → Prop} {w w' : World} {p : Nat} {s : ByteArray} (h : WX w p s) (hc : Ch S w w') (hS : ¬ S p) : WX w' p s := (hc.block p h.lt hS).trans h
set_option maxRecDepth 20000 in
set_option maxHeartbeats 2000000 in
theorem rform_any (e : En) (w : World) : Calls Try.prog 23 #[enV e] w fun r w' => r = .returned (.string (bs (eb e))) ∧ Below w.heap.size w w' := by
  obtain ⟨sk, sa⟩ := e
  unfold enV
  simp only
  have HE0 : Hid (((w.alloc (.cells #[.int .i64 sk, .int .i64 sa] 29)).alloc (.cells #[.string ⟨#[]⟩] 92)).heap[w.heap.size]? = some (.cells #[.int .i64 sk, .int .i64 sa] 29 (0, 0))) := heap_alloc_at (heap_new _ _)
  have HW0 : Hid (WX ((w.alloc (.cells #[.int .i64 sk, .int .i64 sa] 29)).alloc (.cells #[.string ⟨#[]⟩] 92)) (w.heap.size + 1) ⟨#[]⟩) := by
    have := heap_new (w.alloc (.cells #[.int .i64 sk, .int .i64 sa] 29)) (.cells #[.string ⟨#[]⟩] 92 (0, 0))
    refine hid ?_
    unfold WX
    simpa using this
  have HB0 : Hid (Below w.heap.size w ((w.alloc (.cells #[.int .i64 sk, .int .i64 sa] 29)).alloc (.cells #[.string ⟨#[]⟩] 92))) := ((Below.refl _ _).alloc (Nat.le_refl _) _).alloc (by simp) _
  have HI1 : Hid (∀ wx, WX wx (w.heap.size + 1) ⟨#[]⟩ → Calls Try.prog 45 #[.pointer (some ⟨w.heap.size + 1, 0, none⟩), .int .i64 sk] wx fun e w' => e = .returned (.tuple #[]) ∧ WX w' (w.heap.size + 1) (bs (n8 sk)) ∧ Ch (fun i => i = w.heap.size + 1) wx w') := fun wx h => (xwi64_any _ _ sk wx h (by show 0 ≤ _; omega)).mono fun e w' ⟨h1, h2, h3⟩ => ⟨h1, by
    have e1 : (⟨#[]⟩ : ByteArray) ++ bs (n8 sk) = bs (n8 sk) := by
      have := bs_app9 [] (n8 sk)
      rw [List.nil_append] at this
      exact this.symm
    rw [e1] at h2
    exact h2, h3⟩
  have HI2 : Hid (∀ wx, WX wx (w.heap.size + 1) (bs (n8 sk)) → Calls Try.prog 45 #[.pointer (some ⟨w.heap.size + 1, 0, none⟩), .int .i64 sa] wx fun e w' => e = .returned (.tuple #[]) ∧ WX w' (w.heap.size + 1) (bs (eb ⟨sk, sa⟩)) ∧ Ch (fun i => i = w.heap.size + 1) wx w') := fun wx h => (xwi64_any _ _ sa wx h (by rw [bs_size, n8_len]; omega)).mono fun e w' ⟨h1, h2, h3⟩ => ⟨h1, by rw [← bs_app9] at h2; exact h2, h3⟩
  have HBy : Hid (∀ wx, WX wx (w.heap.size + 1) (bs (eb ⟨sk, sa⟩)) → Calls Try.prog 46 #[.pointer (some ⟨w.heap.size + 1, 0, none⟩)] wx fun e w' => e = .returned (.string (bs (eb ⟨sk, sa⟩))) ∧ w' = wx) := fun wx h => xwbytes_any _ _ wx h
  generalize bs (eb ⟨sk, sa⟩) = E at *
  generalize bs (n8 sk) = K at *
  go_enter Try.func23, Try.ntmps23
  go_wp2_with (first | (go_at_call 44; refine (xnewwriter_any _).mono ?_; rintro e w' ⟨rfl, rfl⟩) | (go_at_call 45; (with_reducible refine (HI1.out _ HW0.out).mono ?_); rintro e w2 ⟨rfl, h2, hc2⟩; have HW2 := hid h2; have HB2 := hid (HB0.out.trans (hc2.below HB0.out.size (fun i hi e => by omega))); obtain ⟨y0, y1, _⟩ := ecell3 ((hc2.block _ (lt_of_heap HE0.out) (by omega)).trans HE0.out); clear h2 hc2) | (go_at_call 45; (with_reducible refine (HI2.out _ HW2.out).mono ?_); rintro e w3 ⟨rfl, h3, hc3⟩; have HW3 := hid h3; have HB3 := hid (HB2.out.trans (hc3.below HB2.out.size (fun i hi e => by omega))); clear h3 hc3) | (go_at_call 46; refine (HBy.out _ HW3.out).mono ?_; rintro e w4 ⟨rfl, rfl⟩))
  go_ret
  exact ⟨rfl, HB3.out⟩
set_option maxRecDepth 20000 in
set_option maxHeartbeats 2000000 in
theorem rbytes_any (x : Nat) (v : Value) (l : List En) (w : World) (h : Ix 47 w x v l) (hn : l.length ≤ 8796093022000) : Calls Try.prog 37 #[.pointer (some ⟨x, 0, none⟩)] w fun e w' => e = .returned (.string (bs (eby l))) ∧ Below w.heap.size w w' := by
  have HX := hid h
  obtain ⟨N, a, cap, hN, rfl, hens⟩ := h.row.ensN
  have HEN := hid hens
  have HN := hid hN
  rw [← hN] at hn
  have HR : Hid (∀ wx, Below w.heap.size w wx → wx.cell? ⟨x, 0, none⟩ = some (.slice a N cap)) := fun wx hx => (HX.out.below hx).c0
  have HW0 : Hid (WX (w.alloc (.cells #[.string ⟨#[]⟩] 92)) w.heap.size ⟨#[]⟩) := heap_new _ _
  have HB0 : Hid (Below w.heap.size w (w.alloc (.cells #[.string ⟨#[]⟩] 92))) := (Below.refl _ _).alloc (Nat.le_refl _) _
  clear h hN hens
  go_enter Try.func37, Try.ntmps37
  go_wp2_with (go_at_call 44; refine (xnewwriter_any _).mono ?_; rintro e w' ⟨rfl, rfl⟩)
  go_loopg [4] N (fun k vi wr => ∃ j : Nat, j + k = N ∧ vi = .int .i64 j ∧ Hid (WX wr w.heap.size (bs (eby (l.take j)))) ∧ Hid (Below w.heap.size w wr))
  case atStart => exact ⟨0, by omega, rfl, HW0.out, HB0.out⟩
  case round =>
    clear HW0 HB0
    obtain ⟨j, hj, rfl, HW, HB⟩ := hrel
    have r0 := HR.out _ HB.out
    by_cases hlt : j < N
    · obtain ⟨k', rfl⟩ : ∃ k', gk = k' + 1 := ⟨gk - 1, by omega⟩
      have hltI : (j : Int) < N := by omega
      have hjl : j < l.length := by rw [← HN.out]; exact hlt
      rcases HEN.out with e | ⟨b1, off, rfl, hb1, hc⟩
      · rw [e] at hjl; cases hjl
      obtain ⟨p0, p1⟩ := hc j hjl
      have q0 := (HB.out.cell (p := ⟨b1, off + j * 2, none⟩) hb1).trans p0
      have q1 := (HB.out.cell (p := ⟨b1, off + j * 2 + 1, none⟩) hb1).trans p1
      have HT : Hid (bs (eby (l.take (j + 1))) = bs (eby (l.take j)) ++ bs (eb (l.getD j en0))) := by
        show _ = _
        rw [List.take_succ_eq_append_getElem hjl, eby_snoc, getD_of hjl, bs_app9]
      have hTz : (bs (eby (l.take j))).size = j * 16 := by rw [bs_size, eby_len, List.length_take]; congr 1; omega
      generalize l.getD j en0 = s at *
      obtain ⟨sk, sa⟩ := s
      simp only at q0 q1
      have HFo : Hid (∀ wx, Calls Try.prog 23 #[.agg #[.int .i64 sk, .int .i64 sa]] wx fun r w' => r = .returned (.string (bs (eb ⟨sk, sa⟩))) ∧ Below wx.heap.size wx w') := fun wx => rform_any ⟨sk, sa⟩ wx
      have hez : (bs (eb ⟨sk, sa⟩)).size = 16 := by rw [bs_size, eb_len]
      generalize bs (eb ⟨sk, sa⟩) = E at *
      generalize bs (eby (l.take j)) = T at *
      have HRa : Hid (∀ wx, WX wx w.heap.size T → Calls Try.prog 51 #[.pointer (some ⟨w.heap.size, 0, none⟩), .string E] wx (LaysX w.heap.size (T ++ E) wx)) := fun wx h => xwraw_any _ T E wx h (by omega)
      have HJ := hid hj
      clear hc p0 p1 hb1 hjl hj hTz hez
      go_wp2_with (first | (go_at_call 23; refine (HFo.out _).mono ?_; rintro r w2 ⟨rfl, hb2⟩; have HW2 := hid (HW.out.below hb2); have HB2 := hid (HB.out.trans (hb2.mono HB.out.size)); clear hb2) | (go_at_call 51; refine (HRa.out _ HW2.out).mono ?_; rintro r w3 ⟨rfl, h3, hc3⟩; have HW3 := hid h3; have HB3 := hid (HB2.out.trans (hc3.below HB2.out.size (fun i hi e => by omega))); clear h3 hc3))
      go_roundg k'
      case measure => omega
      case rel => exact ⟨j + 1, by have := HJ.out; omega, congrArg (Value.int .i64) (by omega), by rw [HT.out]; exact HW3.out, HB3.out⟩
    · have hltI : ¬ (j : Int) < N := by omega
      have e : l.take j = l := List.take_of_length_le (by rw [← HN.out]; omega)
      rw [e] at HW
      clear e
      go_wp2_with (go_at_call 46; refine (xwbytes_any _ _ _ HW.out).mono ?_; rintro e w4 ⟨rfl, rfl⟩)
      go_ret
      exact ⟨rfl, HB.out⟩
end Go.Proofs.Ytmhmohkeekmmgaa
