/- TimeidxReads: its walk. -/
import Derived.Test.YtmhmohkeekmmgaaTrr
namespace Go.Proofs.Ytmhmohkeekmmgaa
open Go.RowKit
set_option maxRecDepth 20000 in
set_option maxHeartbeats 4000000 in
theorem reads_walk (s : ByteArray) (e : En) (w : World) (hs : s.size ≤ 140737488351232) :
    Calls Try.prog 4 #[.string s, enV e] w fun r w' => r = .returned (.bool true) ∧ Below w.heap.size w w' := by
  obtain ⟨sk, sa⟩ := e
  have HE0 : Hid ((w.alloc (.cells #[.int .i64 sk, .int .i64 sa] 29)).heap[w.heap.size]? = some (.cells #[.int .i64 sk, .int .i64 sa] 29 (0, 0))) := heap_new _ _
  have HB0 : Hid (Below w.heap.size w (w.alloc (.cells #[.int .i64 sk, .int .i64 sa] 29))) := (Below.refl _ _).alloc (Nat.le_refl _) _
  have HF : Hid (∀ wx, Calls Try.prog 9 #[] wx fun r w' => r = .returned (.bool true) ∧ Below wx.heap.size wx w') := fun wx => finds_any wx
  have HF1 : Hid (∀ wx, Calls Try.prog 22 #[.agg #[.int .i64 sk, .int .i64 sa]] wx fun r w' => r = .returned (.string (bs (eb ⟨sk, sa⟩))) ∧ Below wx.heap.size wx w') := fun wx => form_any ⟨sk, sa⟩ wx
  have HF2 : Hid (∀ wx, Calls Try.prog 23 #[.agg #[.int .i64 sk, .int .i64 sa]] wx fun r w' => r = .returned (.string (bs (eb ⟨sk, sa⟩))) ∧ Below wx.heap.size wx w') := fun wx => rform_any ⟨sk, sa⟩ wx
  generalize bs (eb ⟨sk, sa⟩) = E at *
  unfold enV
  simp only
  by_cases h16 : s.size % 16 = 0
  · have hlen : (rdE (bl s)).length ≤ 8796093021952 := by rw [rdE_len, bl_len]; omega
    have HR1 := hid (fun wx => load_ok s wx h16 (by omega))
    have HR2 := hid (fun wx => rread_ok s wx h16 (by omega))
    generalize rdE (bl s) = L at *
    clear h16
    by_cases hc : rdC [] L = 0
    · have HO := hid (all_ord hc)
      have HR1' : Hid (∀ wx, Calls Try.prog 19 #[.string s] wx fun e w' => (∃ x v, e = .returned (.tuple #[.pointer (some ⟨x, 0, none⟩), .int .i64 0]) ∧ Ix 60 w' x v L) ∧ Below wx.heap.size wx w') := fun wx => (HR1.out wx).mono fun e w' ⟨h1, h2⟩ => ⟨(by
        rcases h1 with ⟨_, x, v, h3, h4⟩ | ⟨h3, _⟩
        · exact ⟨x, v, h3, h4.ix⟩
        · rw [hc] at h3; omega), h2⟩
      have HR2' : Hid (∀ wx, Calls Try.prog 21 #[.string s] wx fun e w' => (∃ x v, e = .returned (.tuple #[.pointer (some ⟨x, 0, none⟩), .int .i64 0]) ∧ Ix 47 w' x v L) ∧ Below wx.heap.size wx w') := fun wx => (HR2.out wx).mono fun e w' ⟨h1, h2⟩ => ⟨(by
        rcases h1 with ⟨_, x, v, h3, h4, _⟩ | ⟨h3, _⟩
        · exact ⟨x, v, h3, h4⟩
        · rw [hc] at h3; omega), h2⟩
      have HAg : Hid (∀ wx x y v v', Ix 60 wx x v L → Ix 47 wx y v' L → Calls Try.prog 18 #[.pointer (some ⟨x, 0, none⟩), .pointer (some ⟨y, 0, none⟩)] wx fun e w' => e = .returned (.bool true) ∧ Below wx.heap.size wx w') := fun wx x y v v' h1 h2 => agree_yes x y v v' L wx h1 h2 (by omega)
      have HFd : Hid (∀ wx x y v v', Ix 60 wx x v L → Ix 47 wx y v' L → Calls Try.prog 16 #[.pointer (some ⟨x, 0, none⟩), .pointer (some ⟨y, 0, none⟩), .int .i64 sk] wx fun e w' => e = .returned (.bool true) ∧ Below wx.heap.size wx w') := fun wx x y v v' h1 h2 => found_yes _ y sk v v' L wx (Or.inl ⟨x, rfl, h1⟩) h2 HO.out (by omega)
      clear hc HR1 HR2
      go_enter Try.func4, Try.ntmps4
      go_wp2_with (first | (go_at_call 9; refine (HF.out _).mono ?_; rintro r w1 ⟨rfl, hb1⟩; have HE1 := hid ((hb1.block _ (lt_of_heap HE0.out)).trans HE0.out); have HB1 := hid (HB0.out.trans (hb1.mono HB0.out.size)); clear hb1) | (go_at_call 19; refine (HR1'.out _).mono ?_; rintro r w2 ⟨⟨x, v, rfl, hx2⟩, hb2⟩; have HX2 := hid hx2; have HE2 := hid ((hb2.block _ (lt_of_heap HE1.out)).trans HE1.out); have HB2 := hid (HB1.out.trans (hb2.mono HB1.out.size)); clear hx2 hb2) | (go_at_call 21; refine (HR2'.out _).mono ?_; rintro r w3 ⟨⟨y, v', rfl, hy3⟩, hb3⟩; have HY3 := hid hy3; have HX3 := hid (HX2.out.below hb3); have HE3 := hid ((hb3.block _ (lt_of_heap HE2.out)).trans HE2.out); have HB3 := hid (HB2.out.trans (hb3.mono HB2.out.size)); clear hy3 hb3))
      have D1 := hid (fun wx (hx : Below w3.heap.size w3 wx) => (HF1.out wx).mono (fun e w' h => (⟨h.1, hx.trans (h.2.mono hx.size)⟩ : e = _ ∧ Below w3.heap.size w3 w')))
      have D2 := hid (fun wx (hx : Below w3.heap.size w3 wx) => (HF2.out wx).mono (fun e w' h => (⟨h.1, hx.trans (h.2.mono hx.size)⟩ : e = _ ∧ Below w3.heap.size w3 w')))
      have CC : Hid (∀ wx, Below w3.heap.size w3 wx → wx.cell? ⟨w.heap.size, 0, none⟩ = some (.int .i64 sk) ∧ wx.cell? ⟨w.heap.size, 1, none⟩ = some (.int .i64 sa)) := fun wx hx => by
        obtain ⟨x1, x2, _⟩ := ecell3 ((hx.block _ (lt_of_heap HE3.out)).trans HE3.out)
        exact ⟨x1, x2⟩
      obtain ⟨m0, m1⟩ := CC.out w3 (Below.refl _ _)
      go_region_held3 (fun z => z.cell? ⟨w.heap.size, 0, none⟩ = some (.int .i64 sk) ∧ z.cell? ⟨w.heap.size, 1, none⟩ = some (.int .i64 sa)) ((first | exact ⟨by assumption, by assumption⟩ | go_keep)) ((first | (go_at_call 22; refine (D1.out _ (by first | exact Below.refl _ _ | exact ⟨rfl, rfl, rfl, Nat.le_refl _, fun _ _ => rfl⟩)).mono ?_; rintro e wA ⟨rfl, hbA⟩; obtain ⟨n0, n1⟩ := CC.out _ hbA) | (go_at_call 23; refine (D2.out _ (by first | exact hbA | exact hbA.trans ⟨rfl, rfl, rfl, Nat.le_refl _, fun _ _ => rfl⟩)).mono ?_; rintro e wB ⟨rfl, hbB⟩; obtain ⟨o0, o1⟩ := CC.out _ hbB)))
      simp only [Exit.then]
      have HXB := hid (HX3.out.below hbB)
      have HYB := hid (HY3.out.below hbB)
      have HBB := hid (HB3.out.trans (hbB.mono HB3.out.size))
      have HEB := hid ((hbB.block _ (lt_of_heap HE3.out)).trans HE3.out)
      go_wp2_with (first | (go_at_call 18; refine (HAg.out _ _ _ _ _ HXB.out HYB.out).mono ?_; rintro r w5 ⟨rfl, hb5⟩; have HX5 := hid (HXB.out.below hb5); have HY5 := hid (HYB.out.below hb5); have HB5 := hid (HBB.out.trans (hb5.mono HBB.out.size)); obtain ⟨k0, k1, _⟩ := ecell3 ((hb5.block _ (lt_of_heap HEB.out)).trans HEB.out); clear hb5) | (go_at_call 16; refine (HFd.out _ _ _ _ _ HX5.out HY5.out).mono ?_; rintro r w6 ⟨rfl, hb6⟩; have HB6 := hid (HB5.out.trans (hb6.mono HB5.out.size)); clear hb6))
      go_ret
      exact ⟨rfl, HB6.out⟩
    · obtain ⟨c, hcc⟩ : ∃ c, rdC [] L = c := ⟨_, rfl⟩
      have HR1' : Hid (∀ wx, Calls Try.prog 19 #[.string s] wx fun e w' => e = .returned (.tuple #[.pointer none, .int .i64 c]) ∧ Below wx.heap.size wx w') := fun wx => (HR1.out wx).mono fun e w' ⟨h1, h2⟩ => ⟨(by
        rcases h1 with ⟨h3, _⟩ | ⟨_, h3⟩
        · exact absurd h3 hc
        · rw [hcc] at h3; exact h3), h2⟩
      have HR2' : Hid (∀ wx, Calls Try.prog 21 #[.string s] wx fun e w' => e = .returned (.tuple #[.pointer none, .int .i64 c]) ∧ Below wx.heap.size wx w') := fun wx => (HR2.out wx).mono fun e w' ⟨h1, h2⟩ => ⟨(by
        rcases h1 with ⟨h3, _⟩ | ⟨_, h3⟩
        · exact absurd h3 hc
        · rw [hcc] at h3; exact h3), h2⟩
      clear hc HR1 HR2 hcc
      go_enter Try.func4, Try.ntmps4
      go_wp2_with (first | (go_at_call 9; refine (HF.out _).mono ?_; rintro r w1 ⟨rfl, hb1⟩; have HE1 := hid ((hb1.block _ (lt_of_heap HE0.out)).trans HE0.out); have HB1 := hid (HB0.out.trans (hb1.mono HB0.out.size)); clear hb1) | (go_at_call 19; refine (HR1'.out _).mono ?_; rintro r w2 ⟨rfl, hb2⟩; have HE2 := hid ((hb2.block _ (lt_of_heap HE1.out)).trans HE1.out); have HB2 := hid (HB1.out.trans (hb2.mono HB1.out.size)); clear hb2) | (go_at_call 21; refine (HR2'.out _).mono ?_; rintro r w3 ⟨rfl, hb3⟩; have HE3 := hid ((hb3.block _ (lt_of_heap HE2.out)).trans HE2.out); have HB3 := hid (HB2.out.trans (hb3.mono HB2.out.size)); clear hb3))
      have D1 := hid (fun wx (hx : Below w3.heap.size w3 wx) => (HF1.out wx).mono (fun e w' h => (⟨h.1, hx.trans (h.2.mono hx.size)⟩ : e = _ ∧ Below w3.heap.size w3 w')))
      have D2 := hid (fun wx (hx : Below w3.heap.size w3 wx) => (HF2.out wx).mono (fun e w' h => (⟨h.1, hx.trans (h.2.mono hx.size)⟩ : e = _ ∧ Below w3.heap.size w3 w')))
      have CC : Hid (∀ wx, Below w3.heap.size w3 wx → wx.cell? ⟨w.heap.size, 0, none⟩ = some (.int .i64 sk) ∧ wx.cell? ⟨w.heap.size, 1, none⟩ = some (.int .i64 sa)) := fun wx hx => by
        obtain ⟨x1, x2, _⟩ := ecell3 ((hx.block _ (lt_of_heap HE3.out)).trans HE3.out)
        exact ⟨x1, x2⟩
      obtain ⟨m0, m1⟩ := CC.out w3 (Below.refl _ _)
      go_region_held3 (fun z => z.cell? ⟨w.heap.size, 0, none⟩ = some (.int .i64 sk) ∧ z.cell? ⟨w.heap.size, 1, none⟩ = some (.int .i64 sa)) ((first | exact ⟨by assumption, by assumption⟩ | go_keep)) ((first | (go_at_call 22; refine (D1.out _ (by first | exact Below.refl _ _ | exact ⟨rfl, rfl, rfl, Nat.le_refl _, fun _ _ => rfl⟩)).mono ?_; rintro e wA ⟨rfl, hbA⟩; obtain ⟨n0, n1⟩ := CC.out _ hbA) | (go_at_call 23; refine (D2.out _ (by first | exact hbA | exact hbA.trans ⟨rfl, rfl, rfl, Nat.le_refl _, fun _ _ => rfl⟩)).mono ?_; rintro e wB ⟨rfl, hbB⟩; obtain ⟨o0, o1⟩ := CC.out _ hbB)))
      simp only [Exit.then]
      go_wp2_with fail
      go_ret
      exact ⟨rfl, HB3.out.trans (hbB.mono HB3.out.size)⟩
  · have HR1 := hid (fun wx => load_bad s wx h16 (by omega))
    have HR2 := hid (fun wx => rread_bad s wx h16 (by omega))
    clear h16
    go_enter Try.func4, Try.ntmps4
    go_wp2_with (first | (go_at_call 9; refine (HF.out _).mono ?_; rintro r w1 ⟨rfl, hb1⟩; have HE1 := hid ((hb1.block _ (lt_of_heap HE0.out)).trans HE0.out); have HB1 := hid (HB0.out.trans (hb1.mono HB0.out.size)); clear hb1) | (go_at_call 19; refine (HR1.out _).mono ?_; rintro r w2 ⟨rfl, hw2⟩; subst w2) | (go_at_call 21; refine (HR2.out _).mono ?_; rintro r w3 ⟨rfl, hw3⟩; subst w3))
    have D1 := hid (fun wx (hx : Below w1.heap.size w1 wx) => (HF1.out wx).mono (fun e w' h => (⟨h.1, hx.trans (h.2.mono hx.size)⟩ : e = _ ∧ Below w1.heap.size w1 w')))
    have D2 := hid (fun wx (hx : Below w1.heap.size w1 wx) => (HF2.out wx).mono (fun e w' h => (⟨h.1, hx.trans (h.2.mono hx.size)⟩ : e = _ ∧ Below w1.heap.size w1 w')))
    have CC : Hid (∀ wx, Below w1.heap.size w1 wx → wx.cell? ⟨w.heap.size, 0, none⟩ = some (.int .i64 sk) ∧ wx.cell? ⟨w.heap.size, 1, none⟩ = some (.int .i64 sa)) := fun wx hx => by
      obtain ⟨x1, x2, _⟩ := ecell3 ((hx.block _ (lt_of_heap HE1.out)).trans HE1.out)
      exact ⟨x1, x2⟩
    obtain ⟨m0, m1⟩ := CC.out w1 (Below.refl _ _)
    go_region_held3 (fun z => z.cell? ⟨w.heap.size, 0, none⟩ = some (.int .i64 sk) ∧ z.cell? ⟨w.heap.size, 1, none⟩ = some (.int .i64 sa)) ((first | exact ⟨by assumption, by assumption⟩ | go_keep)) ((first | (go_at_call 22; refine (D1.out _ (by first | exact Below.refl _ _ | exact ⟨rfl, rfl, rfl, Nat.le_refl _, fun _ _ => rfl⟩)).mono ?_; rintro e wA ⟨rfl, hbA⟩; obtain ⟨n0, n1⟩ := CC.out _ hbA) | (go_at_call 23; refine (D2.out _ (by first | exact hbA | exact hbA.trans ⟨rfl, rfl, rfl, Nat.le_refl _, fun _ _ => rfl⟩)).mono ?_; rintro e wB ⟨rfl, hbB⟩; obtain ⟨o0, o1⟩ := CC.out _ hbB)))
    simp only [Exit.then]
    go_wp2_with fail
    go_ret
    exact ⟨rfl, HB1.out.trans (hbB.mono HB1.out.size)⟩
end Go.Proofs.Ytmhmohkeekmmgaa
