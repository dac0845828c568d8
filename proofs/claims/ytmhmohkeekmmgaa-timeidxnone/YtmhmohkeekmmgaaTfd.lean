/- The statement's 'found': an index and the document's with the same entries find the same. -/
import Derived.Test.YtmhmohkeekmmgaaTrc
namespace Go.Proofs.Ytmhmohkeekmmgaa
open Go.RowKit
theorem pr_most (l : List En) (t : Int) : pr l t ≤ mostP l.length := by
  have := pr_le l t
  unfold mostP
  split
  · rename_i h; rw [h, bits_zero] at this; exact this
  · omega
set_option maxRecDepth 20000 in
set_option maxHeartbeats 4000000 in
theorem found_yes (p : Option Addr) (y : Nat) (t : Int) (v v' : Value) (l : List En) (w : World) (h : Ip w p v l) (hy : Ix 47 w y v' l) (hO : Ord l) (hn : l.length ≤ 8796093022208) : Calls Try.prog 16 #[.pointer p, .pointer (some ⟨y, 0, none⟩), .int .i64 t] w fun e w' => e = .returned (.bool true) ∧ Below w.heap.size w w' := by
  have C1 : Hid (∀ wx, Below w.heap.size w wx → Calls Try.prog 24 #[.pointer p, .int .i64 t] wx fun r w' => r = .returned (findV l t) ∧ Below wx.heap.size wx w') := fun wx hx => find_any p t v l wx (h.below hx) hO hn
  have C2 : Hid (∀ wx, Below w.heap.size w wx → Calls Try.prog 33 #[.pointer (some ⟨y, 0, none⟩), .int .i64 t] wx fun e w' => e = .returned (.tuple #[enV (atE l ((cnt l t : Int) - 1)).1, .bool (atE l ((cnt l t : Int) - 1)).2]) ∧ Below wx.heap.size wx w') := fun wx hx => rfind_any y t v' l wx (hy.below hx) hO hn
  have C3 : Hid (∀ wx, Below w.heap.size w wx → Calls Try.prog 35 #[.pointer (some ⟨y, 0, none⟩)] wx fun e w' => e = .returned (.int .i64 l.length) ∧ w' = wx) := fun wx hx => rlen_any y v' l wx (hy.below hx)
  have C4 : Hid (∀ wx, Calls Try.prog 34 #[.int .i64 l.length] wx fun e w' => e = .returned (.int .i64 (mostP l.length)) ∧ w' = wx) := fun wx => rprobes_any l.length wx hn
  have hpm := pr_most l t
  unfold findV at C1
  generalize mostP l.length = MP at *
  generalize pr l t = P at *
  generalize atE l ((cnt l t : Int) - 1) = R at *
  obtain ⟨⟨rk, ra⟩, rb⟩ := R
  unfold enV at C1 C2
  simp only at C1 C2
  generalize hN : l.length = N at *
  have hP0 : ¬ (P : Int) < 0 := by omega
  have hP1 : (P : Int) ≤ MP := by omega
  have hP2 : (0 : Int) ≤ P := by omega
  clear h hy hN hO
  go_enter Try.func16, Try.ntmps16
  go_wp2_with (first | (go_at_call 24; (with_reducible refine (C1.out _ (Below.refl _ _)).mono ?_); rintro e w1 ⟨rfl, hb1⟩; have HB1 := hid (hb1.alloc hb1.size (.cells #[.int .i64 rk, .int .i64 ra] 29)); have HE1 : Hid ((w1.alloc (.cells #[.int .i64 rk, .int .i64 ra] 29)).heap[w1.heap.size]? = some (.cells #[.int .i64 rk, .int .i64 ra] 29 (0, 0))) := heap_new _ _; clear hb1) | (go_at_call 24; (with_reducible refine (C1.out _ HB1.out).mono ?_); rintro e w2 ⟨rfl, hb2⟩; have HB2 := hid ((HB1.out.trans (hb2.mono HB1.out.size)).alloc (Nat.le_trans HB1.out.size hb2.size) (.cells #[.int .i64 rk, .int .i64 ra] 29)); have HE2 : Hid ((w2.alloc (.cells #[.int .i64 rk, .int .i64 ra] 29)).heap[w1.heap.size]? = some (.cells #[.int .i64 rk, .int .i64 ra] 29 (0, 0))) := heap_alloc_at ((hb2.block _ (lt_of_heap HE1.out)).trans HE1.out); have HE3 : Hid ((w2.alloc (.cells #[.int .i64 rk, .int .i64 ra] 29)).heap[w2.heap.size]? = some (.cells #[.int .i64 rk, .int .i64 ra] 29 (0, 0))) := heap_new _ _; clear hb2) | (go_at_call 33; refine (C2.out _ HB2.out).mono ?_; rintro e w3 ⟨rfl, hb3⟩; have HB3 := hid ((HB2.out.trans (hb3.mono HB2.out.size)).alloc (Nat.le_trans HB2.out.size hb3.size) (.cells #[.int .i64 rk, .int .i64 ra] 29)); obtain ⟨a1, a2, a3, a4, a5⟩ := ecell3 ((hb3.block _ (lt_of_heap HE2.out)).trans HE2.out); obtain ⟨c1, c2, c3, c4, c5⟩ := ecell3 ((hb3.block _ (lt_of_heap HE3.out)).trans HE3.out); clear hb3) | (go_at_call 35; refine (C3.out _ HB3.out).mono ?_; rintro e w4 ⟨rfl, rfl⟩) | (go_at_call 34; refine (C4.out _).mono ?_; rintro e w5 ⟨rfl, rfl⟩))
  go_ret
  exact ⟨rfl, HB3.out⟩
end Go.Proofs.Ytmhmohkeekmmgaa
