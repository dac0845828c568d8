/- The statement's 'looks': an index and the document's with the same entries look alike. -/
import Derived.Test.YtldfbddccmnchaaOrp
namespace Go.Proofs.Ytldfbddccmnchaa
open Go.RowKit
set_option maxRecDepth 20000 in
set_option maxHeartbeats 4000000 in
theorem looks_yes (p : Option Addr) (y : Nat) (v v' : Value) (l : List En) (w : World) (h : Ip w p v l) (hy : Ix 68 w y v' l) (hn : l.length ≤ 8796093022000) : Calls Try.prog 12 #[.pointer p, .pointer (some ⟨y, 0, none⟩)] w fun e w' => e = .returned (.bool true) ∧ Below w.heap.size w w' := by
  have C1 : Hid (∀ wx, Below w.heap.size w wx → Calls Try.prog 29 #[.pointer p] wx fun e w' => e = .returned (.tuple #[enV (atE l ((l.length : Int) - 1)).1, .bool (atE l ((l.length : Int) - 1)).2]) ∧ Below wx.heap.size wx w') := fun wx hx => ilast_any p v l wx (h.below hx) (by omega)
  have C2 : Hid (∀ wx, Below w.heap.size w wx → Calls Try.prog 31 #[.pointer (some ⟨y, 0, none⟩)] wx fun e w' => e = .returned (.tuple #[enV (atE l ((l.length : Int) - 1)).1, .bool (atE l ((l.length : Int) - 1)).2]) ∧ Below wx.heap.size wx w') := fun wx hx => rlast_any y v' l wx (hy.below hx) (by omega)
  have C3 : Hid (∀ W wx, Below w.heap.size w W → Below W.heap.size W wx → Calls Try.prog 24 #[.pointer p] wx fun e w' => e = .returned (.int .i64 l.length) ∧ Below W.heap.size W w') := fun W wx hW hx => (len_any p v l wx ((h.below hW).below hx)).mono fun e w' ⟨h1, h2⟩ => ⟨h1, hx.trans (h2.mono hx.size)⟩
  have C4 : Hid (∀ W wx, Below w.heap.size w W → Below W.heap.size W wx → Calls Try.prog 32 #[.pointer (some ⟨y, 0, none⟩)] wx fun e w' => e = .returned (.int .i64 l.length) ∧ Below W.heap.size W w') := fun W wx hW hx => (rlen_any y v' l wx ((hy.below hW).below hx)).mono fun e w' ⟨h1, h2⟩ => ⟨h1, by rw [h2]; exact hx⟩
  have C5 : Hid (∀ W wx, Below w.heap.size w W → Below W.heap.size W wx → Calls Try.prog 27 #[.pointer p] wx fun e w' => (∃ a c, e = .returned (.slice a l.length c) ∧ ∀ wz, Below w'.heap.size w' wz → Ens wz a l) ∧ Below W.heap.size W w') := fun W wx hW hx => (entries_any p v l wx ((h.below hW).below hx) (by omega)).mono fun e w' ⟨⟨v', h1, h2⟩, h3⟩ => ⟨by obtain ⟨a, c, rfl, h5⟩ := h2.ens; exact ⟨a, c, h1, fun wz hz => h5.kept hz (Nat.le_refl _)⟩, hx.trans (h3.mono hx.size)⟩
  have C7 : Hid (∀ W wx, Below w.heap.size w W → Below W.heap.size W wx → Calls Try.prog 26 #[.pointer p] wx fun e w' => e = .returned (.string (bs (eby l))) ∧ Below W.heap.size W w') := fun W wx hW hx => (ibytes_any p v l wx ((h.below hW).below hx) hn).mono fun e w' ⟨h1, h2⟩ => ⟨h1, hx.trans (h2.mono hx.size)⟩
  have C8 : Hid (∀ W wx, Below w.heap.size w W → Below W.heap.size W wx → Calls Try.prog 33 #[.pointer (some ⟨y, 0, none⟩)] wx fun e w' => e = .returned (.string (bs (eby l))) ∧ Below W.heap.size W w') := fun W wx hW hx => (rbytes_any y v' l wx ((hy.below hW).below hx) hn).mono fun e w' ⟨h1, h2⟩ => ⟨h1, hx.trans (h2.mono hx.size)⟩
  obtain ⟨a', c', rfl, hens'⟩ := hy.row.ens
  have C6 : Hid (∀ W wx a c, Below w.heap.size w W → Below W.heap.size W wx → Ens wx a l → Calls Try.prog 18 #[.slice a l.length c, .slice a' l.length c'] wx fun e w' => e = .returned (.bool true) ∧ Below W.heap.size W w') := fun W wx a c hW hx he => (same_yes l a a' c c' wx he (hens'.kept (hW.trans (hx.mono hW.size)) (Nat.le_refl _)) (by omega)).mono fun e w' ⟨h1, h2⟩ => ⟨h1, hx.trans (h2.mono hx.size)⟩
  have CY : Hid (∀ wx, Below w.heap.size w wx → wx.cell? ⟨y, 0, none⟩ = some (.slice a' l.length c')) := fun wx hx => (hy.below hx).c0
  generalize atE l ((l.length : Int) - 1) = R at *
  obtain ⟨⟨rk, ra⟩, rb⟩ := R
  generalize bs (eby l) = S at *
  unfold enV at C1 C2
  simp only at C1 C2
  generalize hN : l.length = N at *
  clear h hy hens' hN
  go_enter Try.func12, Try.ntmps12
  go_wp2_with (first | (go_at_call 29; refine (C1.out _ (Below.refl _ _)).mono ?_; rintro e w1 ⟨rfl, hb1⟩; have HB1 := hid (hb1.alloc hb1.size (.cells #[.int .i64 rk, .int .i64 ra] 30)); have HE1 : Hid ((w1.alloc (.cells #[.int .i64 rk, .int .i64 ra] 30)).heap[w1.heap.size]? = some (.cells #[.int .i64 rk, .int .i64 ra] 30 (0, 0))) := heap_new _ _; clear hb1) | (go_at_call 31; refine (C2.out _ HB1.out).mono ?_; rintro e w2 ⟨rfl, hb2⟩; have HB2 := hid ((HB1.out.trans (hb2.mono HB1.out.size)).alloc (Nat.le_trans HB1.out.size hb2.size) (.cells #[.int .i64 rk, .int .i64 ra] 30)); have HE2 : Hid ((w2.alloc (.cells #[.int .i64 rk, .int .i64 ra] 30)).heap[w1.heap.size]? = some (.cells #[.int .i64 rk, .int .i64 ra] 30 (0, 0))) := heap_alloc_at ((hb2.block _ (lt_of_heap HE1.out)).trans HE1.out); have HE3 : Hid ((w2.alloc (.cells #[.int .i64 rk, .int .i64 ra] 30)).heap[w2.heap.size]? = some (.cells #[.int .i64 rk, .int .i64 ra] 30 (0, 0))) := heap_new _ _; clear hb2))
  generalize w2.alloc (.cells #[.int .i64 rk, .int .i64 ra] 30) = W at *
  have CC : Hid (∀ wx, Below W.heap.size W wx → wx.cell? ⟨y, 0, none⟩ = some (.slice a' N c') ∧ wx.cell? ⟨w1.heap.size, 0, none⟩ = some (.int .i64 rk) ∧ wx.cell? ⟨w1.heap.size, 1, none⟩ = some (.int .i64 ra) ∧ wx.cell? ⟨w2.heap.size, 0, none⟩ = some (.int .i64 rk) ∧ wx.cell? ⟨w2.heap.size, 1, none⟩ = some (.int .i64 ra)) := fun wx hx => by
    obtain ⟨x1, x2⟩ := ecell2 ((hx.block _ (lt_of_heap HE2.out)).trans HE2.out)
    obtain ⟨x3, x4⟩ := ecell2 ((hx.block _ (lt_of_heap HE3.out)).trans HE3.out)
    exact ⟨CY.out _ (HB2.out.trans (hx.mono HB2.out.size)), x1, x2, x3, x4⟩
  have D3 := hid (fun wx hx => C3.out W wx HB2.out hx)
  have D4 := hid (fun wx hx => C4.out W wx HB2.out hx)
  have D5 := hid (fun wx hx => C5.out W wx HB2.out hx)
  have D6 := hid (fun wx a c hx he => C6.out W wx a c HB2.out hx he)
  have D7 := hid (fun wx hx => C7.out W wx HB2.out hx)
  have D8 := hid (fun wx hx => C8.out W wx HB2.out hx)
  clear C1 C2 C3 C4 C5 C6 C7 C8 CY HB1 HE1 HE2 HE3
  generalize w1.heap.size = b1 at *
  generalize w2.heap.size = b2 at *
  obtain ⟨f0, f1, f2, f3, f4⟩ := CC.out W (Below.refl _ _)
  go_region_held3 (fun z => z.cell? ⟨y, 0, none⟩ = some (.slice a' N c') ∧ z.cell? ⟨b1, 0, none⟩ = some (.int .i64 rk) ∧ z.cell? ⟨b1, 1, none⟩ = some (.int .i64 ra) ∧ z.cell? ⟨b2, 0, none⟩ = some (.int .i64 rk) ∧ z.cell? ⟨b2, 1, none⟩ = some (.int .i64 ra)) ((first | exact ⟨by assumption, by assumption, by assumption, by assumption, by assumption⟩ | go_keep)) ((first | (go_at_call 24; refine (D3.out _ (by first | exact Below.refl _ _ | exact ⟨rfl, rfl, rfl, Nat.le_refl _, fun _ _ => rfl⟩)).mono ?_; rintro e w3 ⟨rfl, hb3⟩; obtain ⟨g0, g1, g2, g3, g4⟩ := CC.out _ hb3) | (go_at_call 32; refine (D4.out _ (by first | exact hb3 | exact hb3.trans ⟨rfl, rfl, rfl, Nat.le_refl _, fun _ _ => rfl⟩)).mono ?_; rintro e w4 ⟨rfl, hb4⟩; obtain ⟨g0, g1, g2, g3, g4⟩ := CC.out _ hb4) | (go_at_call 27; refine (D5.out _ (by first | exact hb4 | exact hb4.trans ⟨rfl, rfl, rfl, Nat.le_refl _, fun _ _ => rfl⟩)).mono ?_; rintro e w5 ⟨⟨a5, c5, rfl, he5⟩, hb5⟩; obtain ⟨g0, g1, g2, g3, g4⟩ := CC.out _ hb5) | (go_at_call 18; refine (D6.out _ a5 c5 (by first | exact hb5 | exact hb5.trans ⟨rfl, rfl, rfl, Nat.le_refl _, fun _ _ => rfl⟩) (he5 _ (by first | exact Below.refl _ _ | exact ⟨rfl, rfl, rfl, Nat.le_refl _, fun _ _ => rfl⟩))).mono ?_; rintro e w6 ⟨rfl, hb6⟩; obtain ⟨g0, g1, g2, g3, g4⟩ := CC.out _ hb6) | (go_at_call 26; refine (D7.out _ (by first | exact hb6 | exact hb6.trans ⟨rfl, rfl, rfl, Nat.le_refl _, fun _ _ => rfl⟩)).mono ?_; rintro e w7 ⟨rfl, hb7⟩; obtain ⟨g0, g1, g2, g3, g4⟩ := CC.out _ hb7) | (go_at_call 33; refine (D8.out _ (by first | exact hb7 | exact hb7.trans ⟨rfl, rfl, rfl, Nat.le_refl _, fun _ _ => rfl⟩)).mono ?_; rintro e w8 ⟨rfl, hb8⟩; obtain ⟨g0, g1, g2, g3, g4⟩ := CC.out _ hb8)))
  simp only [Exit.then]
  go_wp2_with fail
  go_ret
  exact ⟨rfl, HB2.out.trans (hb8.mono HB2.out.size)⟩
end Go.Proofs.Ytldfbddccmnchaa
