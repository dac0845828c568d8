/- The program's index: Append. -/
import Derived.Test.YtmhmohkeekmmgaaTxr
import Derived.Deep.RegionHeld3
namespace Go.Proofs.Ytmhmohkeekmmgaa
open Go.RowKit
theorem last_kinds (l : List En) : (∃ R m, atE l ((l.length : Int) - 1) = (m, true) ∧ l = R ++ [m]) ∨ (atE l ((l.length : Int) - 1) = (en0, false) ∧ l = []) := by
  rcases List.eq_nil_or_concat l with rfl | ⟨R, m, h⟩
  · exact Or.inr ⟨rfl, rfl⟩
  · rw [List.concat_eq_append] at h
    left
    refine ⟨R, m, ?_, h⟩
    have h0 := last_at l
    have h1 : (atE l ((l.length : Int) - 1)).1 = m := by rw [h0.2, h]; simp
    have h2 : (atE l ((l.length : Int) - 1)).2 = true := by rw [h0.1, h]; simp
    rw [← h1, ← h2]
theorem ecell3 {w : World} {sk sa : Int} {b : Nat} (hb : w.heap[b]? = some (.cells #[.int .i64 sk, .int .i64 sa] 29 (0, 0))) : w.cell? ⟨b, 0, none⟩ = some (.int .i64 sk) ∧ w.cell? ⟨b, 1, none⟩ = some (.int .i64 sa) ∧ b < w.heap.size ∧ b ≠ w.heap.size ∧ w.heap.size ≠ b := ⟨(cell_of hb).trans rfl, (cell_of hb).trans rfl, lt_of_heap hb, Nat.ne_of_lt (lt_of_heap hb), (Nat.ne_of_lt (lt_of_heap hb)).symm⟩
theorem append_none (e : En) (w : World) : Calls Try.prog 12 #[.pointer none, enV e] w fun r w' => r = .returned (.int .i64 (if e.a < 0 then 1 else 4)) ∧ Below w.heap.size w w' := by
  obtain ⟨sk, sa⟩ := e
  unfold enV
  simp only
  by_cases h : sa < 0
  · rw [if_pos h]
    go_enter Try.func12, Try.ntmps12
    go_wp2
    go_ret
    exact ⟨rfl, (Below.refl _ _).alloc (Nat.le_refl _) _⟩
  · rw [if_neg h]
    go_enter Try.func12, Try.ntmps12
    go_wp2
    go_ret
    exact ⟨rfl, (Below.refl _ _).alloc (Nat.le_refl _) _⟩
set_option maxRecDepth 20000 in
set_option maxHeartbeats 2000000 in
theorem append_any (x : Nat) (e : En) (v : Value) (l : List En) (w : World) (h : Ix 60 w x v l) (hn : l.length ≤ 8796093022207) : Calls Try.prog 12 #[.pointer (some ⟨x, 0, none⟩), enV e] w fun r w' => r = .returned (.int .i64 (addC l e)) ∧ ∃ v', Ix 60 w' x v' (addE l e) ∧ Ch (IS x v) w w' ∧ Moved w v v' := by
  obtain ⟨sk, sa⟩ := e
  have HX := hid (h.alloc (.cells #[.int .i64 sk, .int .i64 sa] 29))
  have HE0 : Hid ((w.alloc (.cells #[.int .i64 sk, .int .i64 sa] 29)).heap[w.heap.size]? = some (.cells #[.int .i64 sk, .int .i64 sa] 29 (0, 0))) := heap_new _ _
  have HCH : Hid (Ch (IS x v) w (w.alloc (.cells #[.int .i64 sk, .int .i64 sa] 29))) := (Ch.refl _ _).alloc _
  have HNB : Hid (¬ IS x v w.heap.size) := fun hi => absurd (h.lt _ hi) (by omega)
  have HL : Hid (∀ wx, Ix 60 wx x v l → Calls Try.prog 28 #[.pointer (some ⟨x, 0, none⟩)] wx fun e w' => e = .returned (.tuple #[enV (atE l ((l.length : Int) - 1)).1, .bool (atE l ((l.length : Int) - 1)).2]) ∧ Below wx.heap.size wx w') := fun wx hx => last_any x v l wx hx (by omega)
  have HP : Hid (∀ wx, Ix 60 wx x v l → Calls Try.prog 29 #[.pointer (some ⟨x, 0, none⟩), .agg #[.int .i64 sk, .int .i64 sa]] wx fun r w' => r = .returned (.tuple #[]) ∧ ∃ v', Ix 60 w' x v' (l ++ [(⟨sk, sa⟩ : En)]) ∧ Ch (IS x v) wx w' ∧ Moved wx v v') := fun wx hx => push_any x ⟨sk, sa⟩ v l wx hx (by decide) hn
  unfold addE addC fitB
  unfold enV at *
  simp only at HL ⊢
  have hk := last_kinds l
  clear h hn
  by_cases hs : sa < 0
  · have hs' : ¬ 0 ≤ sa := by omega
    rw [if_pos hs, if_neg (by simp [hs'])]
    clear hs'
    go_enter Try.func12, Try.ntmps12
    go_wp2_with fail
    go_ret
    exact ⟨rfl, v, HX.out, HCH.out, Moved.refl _ _⟩
  have hs' : 0 ≤ sa := by omega
  rw [if_neg hs]
  have hd0 : decide (0 ≤ sa) = true := by simp [hs']
  rw [hd0, Bool.true_and]
  clear hd0
  rcases hk with ⟨R, ⟨mk, ma⟩, h1, h2⟩ | ⟨h1, h2⟩
  · rw [h1] at HL
    simp only at HL
    have hf : ordB l ⟨sk, sa⟩ = (decide (ma < sa) && decide (mk ≤ sk)) := by rw [h2, ordB_snoc]
    rw [hf]
    clear hf h1 h2
    by_cases ha : sa ≤ ma
    · have ha' : ¬ (ma : Int) < sa := by omega
      rw [if_neg (by simp [ha']), if_neg (by simp [ha'])]
      clear ha'
      go_enter Try.func12, Try.ntmps12
      go_wp2_with (go_at_call 28; refine (HL.out _ HX.out).mono ?_; rintro e w2 ⟨rfl, hb2⟩; obtain ⟨z1, z2, z5, z6, z7⟩ := ecell3 ((hb2.block _ (lt_of_heap HE0.out)).trans HE0.out); have HB2 := hid hb2; clear hb2)
      go_ret
      exact ⟨rfl, v, (HX.out.below HB2.out).alloc _, (HCH.out.trans (Ch.of_below HB2.out)).alloc _, Moved.refl _ _⟩
    · have ha' : (ma : Int) < sa := by omega
      by_cases hk : sk < mk
      · have hk' : ¬ mk ≤ sk := by omega
        rw [if_neg (by simp [hk']), if_neg (by simp [hk'])]
        clear hk' ha'
        go_enter Try.func12, Try.ntmps12
        go_wp2_with (go_at_call 28; refine (HL.out _ HX.out).mono ?_; rintro e w2 ⟨rfl, hb2⟩; obtain ⟨z1, z2, z5, z6, z7⟩ := ecell3 ((hb2.block _ (lt_of_heap HE0.out)).trans HE0.out); have HB2 := hid hb2; clear hb2)
        go_ret
        exact ⟨rfl, v, (HX.out.below HB2.out).alloc _, (HCH.out.trans (Ch.of_below HB2.out)).alloc _, Moved.refl _ _⟩
      · have hk' : mk ≤ sk := by omega
        rw [if_pos (by simp [hk', ha']), if_pos (by simp [hk', ha'])]
        clear ha' hk'
        go_enter Try.func12, Try.ntmps12
        go_wp2_with (go_at_call 28; refine (HL.out _ HX.out).mono ?_; rintro e w2 ⟨rfl, hb2⟩; obtain ⟨z1, z2, z5, z6, z7⟩ := ecell3 ((hb2.block _ (lt_of_heap HE0.out)).trans HE0.out); have HB2 := hid hb2; clear hb2)
        have HX3 : Hid (Ix 60 (w2.alloc (Obj.cells #[.int .i64 mk, .int .i64 ma] 29)) x v l) := (HX.out.below HB2.out).alloc _
        have HC3 : Hid (Ch (IS x v) w (w2.alloc (Obj.cells #[.int .i64 mk, .int .i64 ma] 29))) := (HCH.out.trans (Ch.of_below HB2.out)).alloc _
        have HE3 : Hid ((w2.alloc (Obj.cells #[.int .i64 mk, .int .i64 ma] 29)).heap[w.heap.size]? = some (.cells #[.int .i64 sk, .int .i64 sa] 29 (0, 0))) := heap_alloc_at ((HB2.out.block _ (lt_of_heap HE0.out)).trans HE0.out)
        obtain ⟨y1, y2, _⟩ := ecell3 HE3.out
        generalize w2.alloc (Obj.cells #[.int .i64 mk, .int .i64 ma] 29) = w3 at *
        clear z1 z2 z5 z6 z7
        go_region_held3 (fun y => y.cell? ⟨w.heap.size, 0, none⟩ = some (.int .i64 sk) ∧ y.cell? ⟨w.heap.size, 1, none⟩ = some (.int .i64 sa)) ((first | exact ⟨by assumption, by assumption⟩ | go_keep)) ((go_at_call 29; refine (HP.out _ (by first | exact HX3.out | exact HX3.out.drew | exact HX3.out.drewN _)).mono ?_; rintro r w4 ⟨rfl, v', hx4, hc4, hm4⟩; obtain ⟨y3, y4, _⟩ := ecell3 ((hc4.block _ (by show _ < w3.heap.size; exact lt_of_heap HE3.out) HNB.out).trans HE3.out)))
        go_wp2_with fail
        go_ret
        exact ⟨rfl, v', hx4, HC3.out.trans (Ch.then (Ch.refl _ _).drew hc4 (fun _ _ h => h)), fun g hg => (hm4 g hg).imp_right (fun h => Nat.le_trans HC3.out.size h)⟩
  · rw [h1] at HL
    simp only [en0] at HL
    have hf : ordB l ⟨sk, sa⟩ = true := by rw [h2]; rfl
    rw [hf, if_pos rfl, if_pos rfl]
    clear hf h1 h2
    go_enter Try.func12, Try.ntmps12
    go_wp2_with (go_at_call 28; refine (HL.out _ HX.out).mono ?_; rintro e w2 ⟨rfl, hb2⟩; obtain ⟨z1, z2, z5, z6, z7⟩ := ecell3 ((hb2.block _ (lt_of_heap HE0.out)).trans HE0.out); have HB2 := hid hb2; clear hb2)
    have HX3 : Hid (Ix 60 (w2.alloc (Obj.cells #[.int .i64 0, .int .i64 0] 29)) x v l) := (HX.out.below HB2.out).alloc _
    have HC3 : Hid (Ch (IS x v) w (w2.alloc (Obj.cells #[.int .i64 0, .int .i64 0] 29))) := (HCH.out.trans (Ch.of_below HB2.out)).alloc _
    have HE3 : Hid ((w2.alloc (Obj.cells #[.int .i64 0, .int .i64 0] 29)).heap[w.heap.size]? = some (.cells #[.int .i64 sk, .int .i64 sa] 29 (0, 0))) := heap_alloc_at ((HB2.out.block _ (lt_of_heap HE0.out)).trans HE0.out)
    obtain ⟨y1, y2, _⟩ := ecell3 HE3.out
    generalize w2.alloc (Obj.cells #[.int .i64 0, .int .i64 0] 29) = w3 at *
    clear z1 z2 z5 z6 z7
    go_region_held3 (fun y => y.cell? ⟨w.heap.size, 0, none⟩ = some (.int .i64 sk) ∧ y.cell? ⟨w.heap.size, 1, none⟩ = some (.int .i64 sa)) ((first | exact ⟨by assumption, by assumption⟩ | go_keep)) ((go_at_call 29; refine (HP.out _ (by first | exact HX3.out | exact HX3.out.drew | exact HX3.out.drewN _)).mono ?_; rintro r w4 ⟨rfl, v', hx4, hc4, hm4⟩; obtain ⟨y3, y4, _⟩ := ecell3 ((hc4.block _ (by show _ < w3.heap.size; exact lt_of_heap HE3.out) HNB.out).trans HE3.out)))
    go_wp2_with fail
    go_ret
    exact ⟨rfl, v', hx4, HC3.out.trans (Ch.then (Ch.refl _ _).drew hc4 (fun _ _ h => h)), fun g hg => (hm4 g hg).imp_right (fun h => Nat.le_trans HC3.out.size h)⟩
end Go.Proofs.Ytmhmohkeekmmgaa
