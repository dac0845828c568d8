/- The statement's 'agree': an index and the document's with the same entries are the same. -/
import Derived.Test.YtmhmohkeekmmgaaTwf
import Derived.Test.YtmhmohkeekmmgaaTrc
import Derived.Lib.MinMaxS
namespace Go.Proofs.Ytmhmohkeekmmgaa
open Go.RowKit
set_option maxRecDepth 20000 in
set_option maxHeartbeats 4000000 in
theorem agree_yes (x y : Nat) (v v' : Value) (l : List En) (w : World) (h : Ix 60 w x v l) (hy : Ix 47 w y v' l) (hn : l.length ≤ 8796093022000) : Calls Try.prog 18 #[.pointer (some ⟨x, 0, none⟩), .pointer (some ⟨y, 0, none⟩)] w fun e w' => e = .returned (.bool true) ∧ Below w.heap.size w w' := by
  have hip : Ip w (some ⟨x, 0, none⟩) v l := Or.inl ⟨x, rfl, h⟩
  have C1 : Hid (∀ wx, Below w.heap.size w wx → Calls Try.prog 25 #[.pointer (some ⟨x, 0, none⟩)] wx fun e w' => e = .returned (.int .i64 l.length) ∧ Below w.heap.size w w') := fun wx hx => (len_any _ v l wx (hip.below hx)).mono fun e w' ⟨h1, h2⟩ => ⟨h1, hx.trans (h2.mono hx.size)⟩
  have C2 : Hid (∀ wx, Below w.heap.size w wx → Calls Try.prog 35 #[.pointer (some ⟨y, 0, none⟩)] wx fun e w' => e = .returned (.int .i64 l.length) ∧ Below w.heap.size w w') := fun wx hx => (rlen_any y v' l wx (hy.below hx)).mono fun e w' ⟨h1, h2⟩ => ⟨h1, by rw [h2]; exact hx⟩
  have C3 : Hid (∀ wx, Below w.heap.size w wx → Calls Try.prog 20 #[.pointer (some ⟨x, 0, none⟩)] wx fun e w' => e = .returned (.string (bs (eby l))) ∧ Below w.heap.size w w') := fun wx hx => (ibytes_any _ v l wx (hip.below hx) hn).mono fun e w' ⟨h1, h2⟩ => ⟨h1, hx.trans (h2.mono hx.size)⟩
  have C4 : Hid (∀ wx, Below w.heap.size w wx → Calls Try.prog 37 #[.pointer (some ⟨y, 0, none⟩)] wx fun e w' => e = .returned (.string (bs (eby l))) ∧ Below w.heap.size w w') := fun wx hx => (rbytes_any y v' l wx (hy.below hx) hn).mono fun e w' ⟨h1, h2⟩ => ⟨h1, hx.trans (h2.mono hx.size)⟩
  have C5 : Hid (∀ wx i, Below w.heap.size w wx → Calls Try.prog 26 #[.pointer (some ⟨x, 0, none⟩), .int .i64 i] wx fun e w' => e = .returned (.tuple #[enV (atE l i).1, .bool (atE l i).2]) ∧ Below wx.heap.size wx w') := fun wx i hx => ientry_any _ i v l wx (hip.below hx)
  have C6 : Hid (∀ wx i, Below w.heap.size w wx → Calls Try.prog 38 #[.pointer (some ⟨y, 0, none⟩), .int .i64 i] wx fun e w' => e = .returned (.tuple #[enV (atE l i).1, .bool (atE l i).2]) ∧ Below wx.heap.size wx w') := fun wx i hx => rentry_any y i v' l wx (hy.below hx)
  have C7 : Hid (∀ wx, Below w.heap.size w wx → Calls Try.prog 27 #[.pointer (some ⟨x, 0, none⟩)] wx fun e w' => e = .returned (.tuple #[enV (atE l ((l.length : Int) - 1)).1, .bool (atE l ((l.length : Int) - 1)).2]) ∧ Below wx.heap.size wx w') := fun wx hx => ilast_any _ v l wx (hip.below hx) (by omega)
  have C8 : Hid (∀ wx, Below w.heap.size w wx → Calls Try.prog 30 #[.pointer (some ⟨y, 0, none⟩)] wx fun e w' => e = .returned (.tuple #[enV (atE l ((l.length : Int) - 1)).1, .bool (atE l ((l.length : Int) - 1)).2]) ∧ Below wx.heap.size wx w') := fun wx hx => rlast_any y v' l wx (hy.below hx) (by omega)
  generalize bs (eby l) = S at *
  obtain ⟨N, hN⟩ : ∃ N, l.length = N := ⟨_, rfl⟩
  rw [hN] at hn C1 C2 C7 C8
  clear hN
  clear h hy hip
  unfold enV at C5 C6 C7 C8
  go_enter Try.func18, Try.ntmps18
  go_wp2_with (first | (go_at_call 25; refine (C1.out _ (Below.refl _ _)).mono ?_; rintro e w1 ⟨rfl, hb1⟩; have HB1 := hid hb1; clear hb1) | (go_at_call 35; refine (C2.out _ HB1.out).mono ?_; rintro e w2 ⟨rfl, hb2⟩; have HB2 := hid hb2; clear hb2) | (go_at_call 20; refine (C3.out _ HB2.out).mono ?_; rintro e w3 ⟨rfl, hb3⟩; have HB3 := hid hb3; clear hb3) | (go_at_call 37; refine (C4.out _ HB3.out).mono ?_; rintro e w4 ⟨rfl, hb4⟩; have HB4 := hid hb4; clear hb4))
  clear C1 C3 C4 HB1 HB2 HB3
  by_cases hT : (N : Int) < 20
  · go_loopg [5] (N + 2) (fun k vi wr => vi = .int .i64 ((N : Int) + 1 - k) ∧ k ≤ N + 2 ∧ Hid (Below w.heap.size w wr))
    case atStart => exact ⟨by first | rfl | (congr 1; omega), Nat.le_refl _, HB4.out⟩
    case round =>
      obtain ⟨rfl, hk, HB⟩ := hrel
      obtain ⟨i, hi⟩ : ∃ i : Int, (N : Int) + 1 - gk = i := ⟨_, rfl⟩
      rw [hi]
      have hi1 : -1 ≤ i := by omega
      have hi2 : i ≤ 21 := by omega
      by_cases hle : i ≤ N
      · obtain ⟨k', rfl⟩ : ∃ k', gk = k' + 1 := ⟨gk - 1, by omega⟩
        have HE5 := hid (fun wx hx => C5.out wx i hx)
        have HE6 := hid (fun wx hx => C6.out wx i hx)
        generalize atE l i = R at *
        obtain ⟨⟨rk, ra⟩, rb⟩ := R
        simp only at HE5 HE6
        have HI := hid hi
        clear hi
        go_wp2_with (first | (go_at_call 35; refine (C2.out _ HB.out).mono ?_; rintro e w5 ⟨rfl, hb5⟩; have HB5 := hid hb5; clear hb5) | (go_at_call 26; refine (HE5.out _ HB5.out).mono ?_; rintro e w6 ⟨rfl, hb6⟩; have HB6 := hid ((HB5.out.trans (hb6.mono HB5.out.size)).alloc (Nat.le_trans HB5.out.size hb6.size) (.cells #[.int .i64 rk, .int .i64 ra] 29)); have HX6 : Hid ((w6.alloc (.cells #[.int .i64 rk, .int .i64 ra] 29)).heap[w6.heap.size]? = some (.cells #[.int .i64 rk, .int .i64 ra] 29 (0, 0))) := heap_new _ _; clear hb6) | (go_at_call 38; refine (HE6.out _ HB6.out).mono ?_; rintro e w7 ⟨rfl, hb7⟩; obtain ⟨a1, a2, a3, a4, a5⟩ := ecell3 ((hb7.block _ (lt_of_heap HX6.out)).trans HX6.out); have HB7 := hid ((HB6.out.trans (hb7.mono HB6.out.size)).alloc (Nat.le_trans HB6.out.size hb7.size) (.cells #[.int .i64 rk, .int .i64 ra] 29)); clear hb7))
        go_roundg k'
        case measure => omega
        case rel => exact ⟨congrArg (Value.int .i64) (by have := HI.out; omega), by omega, HB7.out⟩
      · have hle' : ¬ i ≤ (N : Int) := hle
        have HE7 := hid (fun wx hx => C7.out wx hx)
        have HE8 := hid (fun wx hx => C8.out wx hx)
        generalize atE l ((N : Int) - 1) = R at *
        obtain ⟨⟨rk, ra⟩, rb⟩ := R
        simp only at HE7 HE8
        clear hi
        go_wp2_with (first | (go_at_call 35; refine (C2.out _ HB.out).mono ?_; rintro e w5 ⟨rfl, hb5⟩; have HB5 := hid hb5; clear hb5) | (go_at_call 27; refine (HE7.out _ HB5.out).mono ?_; rintro e w6 ⟨rfl, hb6⟩; have HB6 := hid ((HB5.out.trans (hb6.mono HB5.out.size)).alloc (Nat.le_trans HB5.out.size hb6.size) (.cells #[.int .i64 rk, .int .i64 ra] 29)); have HX6 : Hid ((w6.alloc (.cells #[.int .i64 rk, .int .i64 ra] 29)).heap[w6.heap.size]? = some (.cells #[.int .i64 rk, .int .i64 ra] 29 (0, 0))) := heap_new _ _; clear hb6) | (go_at_call 30; refine (HE8.out _ HB6.out).mono ?_; rintro e w7 ⟨rfl, hb7⟩; obtain ⟨a1, a2, a3, a4, a5⟩ := ecell3 ((hb7.block _ (lt_of_heap HX6.out)).trans HX6.out); have HB7 := hid ((HB6.out.trans (hb7.mono HB6.out.size)).alloc (Nat.le_trans HB6.out.size hb7.size) (.cells #[.int .i64 rk, .int .i64 ra] 29)); clear hb7))
        go_ret
        exact ⟨rfl, HB7.out⟩
  · go_loopg [5] (20 + 2) (fun k vi wr => vi = .int .i64 ((20 : Int) + 1 - k) ∧ k ≤ 20 + 2 ∧ Hid (Below w.heap.size w wr))
    case atStart => exact ⟨by first | rfl | (congr 1; omega), Nat.le_refl _, HB4.out⟩
    case round =>
      obtain ⟨rfl, hk, HB⟩ := hrel
      obtain ⟨i, hi⟩ : ∃ i : Int, (20 : Int) + 1 - gk = i := ⟨_, rfl⟩
      rw [hi]
      have hi1 : -1 ≤ i := by omega
      have hi2 : i ≤ 21 := by omega
      by_cases hle : i ≤ 20
      · obtain ⟨k', rfl⟩ : ∃ k', gk = k' + 1 := ⟨gk - 1, by omega⟩
        have HE5 := hid (fun wx hx => C5.out wx i hx)
        have HE6 := hid (fun wx hx => C6.out wx i hx)
        generalize atE l i = R at *
        obtain ⟨⟨rk, ra⟩, rb⟩ := R
        simp only at HE5 HE6
        have HI := hid hi
        clear hi
        go_wp2_with (first | (go_at_call 35; refine (C2.out _ HB.out).mono ?_; rintro e w5 ⟨rfl, hb5⟩; have HB5 := hid hb5; clear hb5) | (go_at_call 26; refine (HE5.out _ HB5.out).mono ?_; rintro e w6 ⟨rfl, hb6⟩; have HB6 := hid ((HB5.out.trans (hb6.mono HB5.out.size)).alloc (Nat.le_trans HB5.out.size hb6.size) (.cells #[.int .i64 rk, .int .i64 ra] 29)); have HX6 : Hid ((w6.alloc (.cells #[.int .i64 rk, .int .i64 ra] 29)).heap[w6.heap.size]? = some (.cells #[.int .i64 rk, .int .i64 ra] 29 (0, 0))) := heap_new _ _; clear hb6) | (go_at_call 38; refine (HE6.out _ HB6.out).mono ?_; rintro e w7 ⟨rfl, hb7⟩; obtain ⟨a1, a2, a3, a4, a5⟩ := ecell3 ((hb7.block _ (lt_of_heap HX6.out)).trans HX6.out); have HB7 := hid ((HB6.out.trans (hb7.mono HB6.out.size)).alloc (Nat.le_trans HB6.out.size hb7.size) (.cells #[.int .i64 rk, .int .i64 ra] 29)); clear hb7))
        go_roundg k'
        case measure => omega
        case rel => exact ⟨congrArg (Value.int .i64) (by have := HI.out; omega), by omega, HB7.out⟩
      · have hle' : ¬ i ≤ (20 : Int) := hle
        have HE7 := hid (fun wx hx => C7.out wx hx)
        have HE8 := hid (fun wx hx => C8.out wx hx)
        generalize atE l ((N : Int) - 1) = R at *
        obtain ⟨⟨rk, ra⟩, rb⟩ := R
        simp only at HE7 HE8
        clear hi
        go_wp2_with (first | (go_at_call 35; refine (C2.out _ HB.out).mono ?_; rintro e w5 ⟨rfl, hb5⟩; have HB5 := hid hb5; clear hb5) | (go_at_call 27; refine (HE7.out _ HB5.out).mono ?_; rintro e w6 ⟨rfl, hb6⟩; have HB6 := hid ((HB5.out.trans (hb6.mono HB5.out.size)).alloc (Nat.le_trans HB5.out.size hb6.size) (.cells #[.int .i64 rk, .int .i64 ra] 29)); have HX6 : Hid ((w6.alloc (.cells #[.int .i64 rk, .int .i64 ra] 29)).heap[w6.heap.size]? = some (.cells #[.int .i64 rk, .int .i64 ra] 29 (0, 0))) := heap_new _ _; clear hb6) | (go_at_call 30; refine (HE8.out _ HB6.out).mono ?_; rintro e w7 ⟨rfl, hb7⟩; obtain ⟨a1, a2, a3, a4, a5⟩ := ecell3 ((hb7.block _ (lt_of_heap HX6.out)).trans HX6.out); have HB7 := hid ((HB6.out.trans (hb7.mono HB6.out.size)).alloc (Nat.le_trans HB6.out.size hb7.size) (.cells #[.int .i64 rk, .int .i64 ra] 29)); clear hb7))
        go_ret
        exact ⟨rfl, HB7.out⟩
end Go.Proofs.Ytmhmohkeekmmgaa
