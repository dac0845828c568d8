/- The statement's 'step': its walk. -/
import Derived.Test.YtldfbddccmnchaaOst
namespace Go.Proofs.Ytldfbddccmnchaa
open Go.RowKit
/-- A call of the script: its kind, its entry, its number. -/
structure Op4 where
  k : Int
  e : En
  n : Int
def op0 : Op4 := ⟨0, en0, 0⟩
def opV (o : Op4) : Value := .agg #[.int .i64 o.k, .int .i64 o.e.k, .int .i64 o.e.a, .int .i64 o.n]
def opC (o : Op4) : Array Value := #[.int .i64 o.k, .int .i64 o.e.k, .int .i64 o.e.a, .int .i64 o.n]
theorem box4 {w : World} {b : Nat} {k ek ea n : Int} {T : TypeId} (h : w.heap[b]? = some (.cells #[.int .i64 k, .int .i64 ek, .int .i64 ea, .int .i64 n] T (0, 0))) : w.cell? ⟨b, 0, none⟩ = some (.int .i64 k) ∧ w.cell? ⟨b, 1, none⟩ = some (.int .i64 ek) ∧ w.cell? ⟨b, 2, none⟩ = some (.int .i64 ea) ∧ w.cell? ⟨b, 3, none⟩ = some (.int .i64 n) ∧ b < w.heap.size := ⟨(cell_of h).trans rfl, (cell_of h).trans rfl, (cell_of h).trans rfl, (cell_of h).trans rfl, lt_of_heap h⟩
theorem left_box {w w' : World} {p : Option Addr} {v : Value} {l l' : List En} {b : Nat} {o : Obj} (hp : Ip w p v l) (hl : Left w w' p v l') (hb : w.heap[b]? = some o) (hn : ∀ i, FP p v i → i ≠ b) : w'.heap[b]? = some o := by
  rcases hl with ⟨x, v1, rfl, _, h2, _⟩ | ⟨rfl, h1⟩
  · exact (h2.block b (lt_of_heap hb) (fun hs => hn b ⟨x, rfl, hs⟩ rfl)).trans hb
  · exact (h1.block b (lt_of_heap hb)).trans hb
theorem addE_ord {l : List En} (h : Ord l) (e : En) : Ord (addE l e) := h.add e
theorem cutE_len (l : List En) (n : Int) : (cutE l n).length ≤ l.length := by
  unfold cutE
  split
  · rw [List.length_take]; omega
  · exact Nat.le_refl _
set_option maxRecDepth 20000 in
set_option maxHeartbeats 4000000 in
theorem step_any (o : Op4) (p : Option Addr) (y : Nat) (v v' : Value) (l : List En) (w : World) (h : Pp w p y v v' l) (hn : l.length ≤ 8796093022000) : Calls Try.prog 15 #[.pointer p, .pointer (some ⟨y, 0, none⟩), opV o] w fun e w' => e = .returned (.bool true) ∧ StepP w w' p y v v' l.length := by
  obtain ⟨k, ⟨ek, ea⟩, n⟩ := o
  unfold opV
  simp only
  obtain ⟨w0, hw0⟩ : ∃ w0, w.alloc (.cells #[.int .i64 k, .int .i64 ek, .int .i64 ea, .int .i64 n] 32) = w0 := ⟨_, rfl⟩
  have HB0 : Hid (Below w.heap.size w w0) := by rw [← hw0]; exact (Below.refl _ _).alloc (Nat.le_refl _) _
  have HX0 : Hid (w0.heap[w.heap.size]? = some (.cells #[.int .i64 k, .int .i64 ek, .int .i64 ea, .int .i64 n] 32 (0, 0))) := by rw [← hw0]; exact heap_new _ _
  have HP := hid h
  have HNQ : Hid (∀ i, FP p v i ∨ IS y v' i → i ≠ w.heap.size) := fun i hi => by have := h.lt i hi; omega
  obtain ⟨c0, c1, c2, c3, cl⟩ := box4 HX0.out
  clear h
  by_cases h1 : k = 1
  · subst h1
    have A1 : Hid (∀ wx, Below w0.heap.size w0 wx → Calls Try.prog 30 #[.pointer p, .agg #[.int .i64 ek, .int .i64 ea]] wx fun r w' => r = .returned (.int .i64 (addC l ⟨ek, ea⟩)) ∧ PA w w' p y v v' l (addE l ⟨ek, ea⟩) ∧ w'.heap[w.heap.size]? = some (.cells #[.int .i64 1, .int .i64 ek, .int .i64 ea, .int .i64 n] 32 (0, 0))) := fun wx hx => by
      have hb : Below w.heap.size w wx := HB0.out.trans (hx.mono HB0.out.size)
      refine (add_any p ⟨ek, ea⟩ v l wx (HP.out.ip.below hb) (by omega)).mono fun r w' ⟨h1, h2⟩ => ⟨h1, PA.of HP.out hb h2, left_box (HP.out.ip.below hb) h2 ((hx.block _ (lt_of_heap HX0.out)).trans HX0.out) (fun i hi => HNQ.out i (Or.inl hi))⟩
    have A2 : Hid (∀ wx, PA w wx p y v v' l (addE l ⟨ek, ea⟩) → wx.heap[w.heap.size]? = some (.cells #[.int .i64 1, .int .i64 ek, .int .i64 ea, .int .i64 n] 32 (0, 0)) → Calls Try.prog 36 #[.pointer (some ⟨y, 0, none⟩), .agg #[.int .i64 ek, .int .i64 ea]] wx fun r w' => r = .returned (.int .i64 (addC l ⟨ek, ea⟩)) ∧ StepP w w' p y v v' l.length ∧ w'.heap[w.heap.size]? = some (.cells #[.int .i64 1, .int .i64 ek, .int .i64 ea, .int .i64 n] 32 (0, 0))) := fun wx hx hb => by
      refine (radd_any y ⟨ek, ea⟩ v' l wx hx.1 HP.out.od (by omega)).mono fun r w' ⟨h1, v1, h2, h3, h4⟩ => ⟨h1, hx.step h2 (h3.mono fun i _ e => Or.inl e) h4 (HP.out.od.add _) (addE_len _ _), (h3.block _ (lt_of_heap hb) (fun e => HNQ.out _ (Or.inr (Or.inl rfl)) e.symm)).trans hb⟩
    generalize addC l ⟨ek, ea⟩ = C at *
    clear c3
    go_enter Try.func15, Try.ntmps15
    go_wp2_with fail
    go_region_held3 (fun z => z.cell? ⟨w.heap.size, 1, none⟩ = some (.int .i64 ek) ∧ z.cell? ⟨w.heap.size, 2, none⟩ = some (.int .i64 ea)) ((first | exact ⟨by assumption, by assumption⟩ | go_keep)) ((first | (go_at_call 30; refine (A1.out _ (by first | exact Below.refl _ _ | exact ⟨rfl, rfl, rfl, Nat.le_refl _, fun _ _ => rfl⟩)).mono ?_; rintro r w1 ⟨rfl, hpa, hbx⟩; obtain ⟨d0, d1, d2, _, _⟩ := box4 hbx) | (go_at_call 36; refine (A2.out _ (by first | exact hpa | exact hpa.below ⟨rfl, rfl, rfl, Nat.le_refl _, fun _ _ => rfl⟩) (by first | exact hbx | exact hbx)).mono ?_; rintro r w2 ⟨rfl, hst, hbx2⟩; obtain ⟨g0, g1, g2, _, _⟩ := box4 hbx2)))
    simp only [Exit.then]
    go_wp2_with fail
    go_ret
    exact ⟨rfl, hst⟩
  · by_cases h3 : k = 3
    · subst h3
      have A1 : Hid (∀ wx, Below w0.heap.size w0 wx → Calls Try.prog 28 #[.pointer p, .int .i64 n] wx fun r w' => r = .returned (.int .i64 (cutC l n)) ∧ PA w w' p y v v' l (cutE l n) ∧ w'.heap[w.heap.size]? = some (.cells #[.int .i64 3, .int .i64 ek, .int .i64 ea, .int .i64 n] 32 (0, 0))) := fun wx hx => by
        have hb : Below w.heap.size w wx := HB0.out.trans (hx.mono HB0.out.size)
        refine (cut_any p n v l wx (HP.out.ip.below hb)).mono fun r w' ⟨h1, h2⟩ => ⟨h1, PA.of HP.out hb h2, left_box (HP.out.ip.below hb) h2 ((hx.block _ (lt_of_heap HX0.out)).trans HX0.out) (fun i hi => HNQ.out i (Or.inl hi))⟩
      have A2 : Hid (∀ wx, PA w wx p y v v' l (cutE l n) → wx.heap[w.heap.size]? = some (.cells #[.int .i64 3, .int .i64 ek, .int .i64 ea, .int .i64 n] 32 (0, 0)) → Calls Try.prog 39 #[.pointer (some ⟨y, 0, none⟩), .int .i64 n] wx fun r w' => r = .returned (.int .i64 (cutC l n)) ∧ StepP w w' p y v v' l.length ∧ w'.heap[w.heap.size]? = some (.cells #[.int .i64 3, .int .i64 ek, .int .i64 ea, .int .i64 n] 32 (0, 0))) := fun wx hx hb => by
        refine (rcut_any y n v' l wx hx.1 (by decide)).mono fun r w' ⟨h1, v1, h2, h3, h4⟩ => ⟨h1, hx.step h2 h3 h4 (HP.out.od.cut _) (Nat.le_trans (cutE_len _ _) (by omega)), (h3.block _ (lt_of_heap hb) (fun e => HNQ.out _ (Or.inr e) rfl)).trans hb⟩
      generalize cutC l n = C at *
      clear c1 c2
      go_enter Try.func15, Try.ntmps15
      go_wp2_with fail
      go_region_held3 (fun z => z.cell? ⟨w.heap.size, 3, none⟩ = some (.int .i64 n)) ((first | assumption | go_keep)) ((first | (go_at_call 28; refine (A1.out _ (by first | exact Below.refl _ _ | exact ⟨rfl, rfl, rfl, Nat.le_refl _, fun _ _ => rfl⟩)).mono ?_; rintro r w1 ⟨rfl, hpa, hbx⟩; obtain ⟨d0, d1, d2, d3, _⟩ := box4 hbx) | (go_at_call 39; refine (A2.out _ (by first | exact hpa | exact hpa.below ⟨rfl, rfl, rfl, Nat.le_refl _, fun _ _ => rfl⟩) (by first | exact hbx | exact hbx)).mono ?_; rintro r w2 ⟨rfl, hst, hbx2⟩; obtain ⟨g0, g1, g2, g3, _⟩ := box4 hbx2)))
      simp only [Exit.then]
      go_wp2_with fail
      go_ret
      exact ⟨rfl, hst⟩
    · have HBX : Hid (∀ wx, Below w0.heap.size w0 wx → wx.cell? ⟨w.heap.size, 1, none⟩ = some (.int .i64 ek) ∧ wx.cell? ⟨w.heap.size, 3, none⟩ = some (.int .i64 n) ∧ w.heap.size < wx.heap.size) := fun wx hx => by
        obtain ⟨x0, x1, x2, x3, x4⟩ := box4 ((hx.block _ (lt_of_heap HX0.out)).trans HX0.out)
        exact ⟨x1, x3, x4⟩
      by_cases h4 : k = 4
      · subst h4
        have E1 : Hid (∀ wx, Below w0.heap.size w0 wx → Calls Try.prog 40 #[.pointer p, .int .i64 n] wx fun r w' => r = .returned (.tuple #[enV (atE l n).1, .bool (atE l n).2]) ∧ Below wx.heap.size wx w') := fun wx hx => ientry_any p n v l wx (HP.out.ip.below (HB0.out.trans (hx.mono HB0.out.size)))
        have E2 : Hid (∀ wx, Below w0.heap.size w0 wx → Calls Try.prog 41 #[.pointer (some ⟨y, 0, none⟩), .int .i64 n] wx fun r w' => r = .returned (.tuple #[enV (atE l n).1, .bool (atE l n).2]) ∧ Below wx.heap.size wx w') := fun wx hx => rentry_any y n v' l wx (HP.out.iy.below (HB0.out.trans (hx.mono HB0.out.size)))
        generalize atE l n = R at *
        obtain ⟨⟨rk, ra⟩, rb⟩ := R
        unfold enV at E1 E2
        simp only at E1 E2
        clear c1 c2
        go_enter Try.func15, Try.ntmps15
        go_wp2_with (first | (go_at_call 40; refine (E1.out _ (Below.refl _ _)).mono ?_; rintro e w1 ⟨rfl, hb1⟩; have HB1 := hid (hb1.alloc hb1.size (.cells #[.int .i64 rk, .int .i64 ra] 30)); have HE1 : Hid ((w1.alloc (.cells #[.int .i64 rk, .int .i64 ra] 30)).heap[w1.heap.size]? = some (.cells #[.int .i64 rk, .int .i64 ra] 30 (0, 0))) := heap_new _ _; obtain ⟨x1, x2, x3⟩ := HBX.out _ hb1; clear hb1) | (go_at_call 41; refine (E2.out _ HB1.out).mono ?_; rintro e w2 ⟨rfl, hb2⟩; have HB2 := hid ((HB1.out.trans (hb2.mono HB1.out.size)).alloc (Nat.le_trans HB1.out.size hb2.size) (.cells #[.int .i64 rk, .int .i64 ra] 30)); obtain ⟨z1, z2, z3, z4, z5⟩ := ecell3 ((hb2.block _ (lt_of_heap HE1.out)).trans HE1.out); clear hb2))
        go_ret
        exact ⟨by simp, StepP.same HP.out (HB0.out.trans (HB2.out.mono HB0.out.size)) (by omega)⟩
      · by_cases h2 : k = 2
        · subst h2
          have E1 : Hid (∀ wx, Below w0.heap.size w0 wx → Calls Try.prog 25 #[.pointer p, .int .i64 ek] wx fun r w' => FindP l ek r ∧ Below wx.heap.size wx w') := fun wx hx => find_any p ek v l wx (HP.out.ip.below (HB0.out.trans (hx.mono HB0.out.size))) HP.out.od (by omega)
          have E2 : Hid (∀ wx, Below w0.heap.size w0 wx → Calls Try.prog 37 #[.pointer (some ⟨y, 0, none⟩), .int .i64 ek] wx fun r w' => r = .returned (.tuple #[enV (atE l ((cnt l ek : Int) - 1)).1, .bool (atE l ((cnt l ek : Int) - 1)).2]) ∧ Below wx.heap.size wx w') := fun wx hx => rfind_any y ek v' l wx (HP.out.iy.below (HB0.out.trans (hx.mono HB0.out.size))) HP.out.od (by omega)
          have E3 : Hid (∀ wx, Below w0.heap.size w0 wx → Calls Try.prog 32 #[.pointer (some ⟨y, 0, none⟩)] wx fun r w' => r = .returned (.int .i64 l.length) ∧ w' = wx) := fun wx hx => rlen_any y v' l wx (HP.out.iy.below (HB0.out.trans (hx.mono HB0.out.size)))
          have E4 : Hid (∀ wx, Calls Try.prog 38 #[.int .i64 l.length] wx fun e w' => (∃ m : Nat, e = .returned (.int .i64 m) ∧ bits l.length ≤ m) ∧ w' = wx) := fun wx => rlooks_any l.length wx (by omega)
          unfold FindP at E1
          generalize atE l ((cnt l ek : Int) - 1) = R at *
          obtain ⟨⟨rk, ra⟩, rb⟩ := R
          unfold enV at E1 E2
          simp only at E1 E2
          generalize hN : l.length = N at *
          have HN := hid hN
          clear c2 c3 hN
          by_cases hN0 : N = 0
          · subst hN0
            go_enter Try.func15, Try.ntmps15
            go_wp2_with (first | (go_at_call 25; refine (E1.out _ (Below.refl _ _)).mono ?_; rintro e w1 ⟨⟨nn, rfl, hn1, hn2⟩, hb1⟩; obtain rfl : nn = 0 := (by have e0 : bits 0 = 0 := bits_zero; omega); have HB1 := hid (hb1.alloc hb1.size (.cells #[.int .i64 rk, .int .i64 ra] 30)); have HE1 : Hid ((w1.alloc (.cells #[.int .i64 rk, .int .i64 ra] 30)).heap[w1.heap.size]? = some (.cells #[.int .i64 rk, .int .i64 ra] 30 (0, 0))) := heap_new _ _; obtain ⟨x1, x2, x3⟩ := HBX.out _ hb1; clear hb1 hn1 hn2) | (go_at_call 37; refine (E2.out _ HB1.out).mono ?_; rintro e w2 ⟨rfl, hb2⟩; have HB2 := hid ((HB1.out.trans (hb2.mono HB1.out.size)).alloc (Nat.le_trans HB1.out.size hb2.size) (.cells #[.int .i64 rk, .int .i64 ra] 30)); obtain ⟨z1, z2, z3, z4, z5⟩ := ecell3 ((hb2.block _ (lt_of_heap HE1.out)).trans HE1.out); clear hb2) | (go_at_call 32; refine (E3.out _ HB2.out).mono ?_; rintro e w' ⟨rfl, rfl⟩) | (go_at_call 38; refine (E4.out _).mono ?_; rintro e w' ⟨⟨m, rfl, hm⟩, rfl⟩; have hmI : (0 : Int) ≤ m := (by omega); have hmd : decide ((0 : Int) ≤ m) = true := (by simp)))
            go_ret
            exact ⟨by simp, StepP.same HP.out (HB0.out.trans (HB2.out.mono HB0.out.size)) (by rw [HN.out]; omega)⟩
          · have hNp : (0 : Int) < N := by omega
            go_enter Try.func15, Try.ntmps15
            go_wp2_with (first | (go_at_call 25; refine (E1.out _ (Below.refl _ _)).mono ?_; rintro e w1 ⟨⟨nn, rfl, hn1, hn2⟩, hb1⟩; have hn3 : (1 : Int) ≤ nn := (by have := hn2 (by omega); omega); have HN1 := hid hn1; have HB1 := hid (hb1.alloc hb1.size (.cells #[.int .i64 rk, .int .i64 ra] 30)); have HE1 : Hid ((w1.alloc (.cells #[.int .i64 rk, .int .i64 ra] 30)).heap[w1.heap.size]? = some (.cells #[.int .i64 rk, .int .i64 ra] 30 (0, 0))) := heap_new _ _; obtain ⟨x1, x2, x3⟩ := HBX.out _ hb1; clear hb1 hn1 hn2) | (go_at_call 37; refine (E2.out _ HB1.out).mono ?_; rintro e w2 ⟨rfl, hb2⟩; have HB2 := hid ((HB1.out.trans (hb2.mono HB1.out.size)).alloc (Nat.le_trans HB1.out.size hb2.size) (.cells #[.int .i64 rk, .int .i64 ra] 30)); obtain ⟨z1, z2, z3, z4, z5⟩ := ecell3 ((hb2.block _ (lt_of_heap HE1.out)).trans HE1.out); clear hb2) | (go_at_call 32; refine (E3.out _ HB2.out).mono ?_; rintro e w' ⟨rfl, rfl⟩) | (go_at_call 38; refine (E4.out _).mono ?_; rintro e w' ⟨⟨m, rfl, hm⟩, rfl⟩; have hmI : (nn : Int) ≤ m := (by have := HN1.out; omega); have hmd : decide (nn ≤ m) = true := (by simp; omega)))
            go_ret
            exact ⟨by simp; omega, StepP.same HP.out (HB0.out.trans (HB2.out.mono HB0.out.size)) (by rw [HN.out]; omega)⟩
        · have b1 : (k == 1) = false := by simp [h1]
          have b2 : (k == 2) = false := by simp [h2]
          have b3 : (k == 3) = false := by simp [h3]
          have b4 : (k == 4) = false := by simp [h4]
          clear c1 c2 c3
          go_enter Try.func15, Try.ntmps15
          go_wp2_with fail
          go_ret
          exact ⟨rfl, StepP.same HP.out HB0.out (by omega)⟩
end Go.Proofs.Ytldfbddccmnchaa
