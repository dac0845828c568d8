/- The program's index: Add. -/
import Derived.Test.YtldfbddccmnchaaOxr
import Derived.Deep.RegionHeld3
namespace Go.Proofs.Ytldfbddccmnchaa
open Go.RowKit
theorem last_kinds (l : List En) : (∃ m, atE l ((l.length : Int) - 1) = (m, true) ∧ lastE l = m) ∨ (atE l ((l.length : Int) - 1) = (en0, false) ∧ l = []) := by
  have h := last_at l
  cases hl : l with
  | nil => exact Or.inr ⟨rfl, rfl⟩
  | cons e r =>
    left
    rw [← hl]
    refine ⟨lastE l, ?_, rfl⟩
    have h1 : (atE l ((l.length : Int) - 1)).1 = lastE l := by
      rw [h.2]
      unfold lastE
      have : l.getLast? = some (l.getLast (by rw [hl]; simp)) := List.getLast?_eq_some_getLast _
      rw [this]
      rfl
    have h2 : (atE l ((l.length : Int) - 1)).2 = true := by
      rw [h.1, hl]
      rfl
    rw [← h1, ← h2]
theorem ecell3 {w : World} {sk sa : Int} {b : Nat} (hb : w.heap[b]? = some (.cells #[.int .i64 sk, .int .i64 sa] 30 (0, 0))) : w.cell? ⟨b, 0, none⟩ = some (.int .i64 sk) ∧ w.cell? ⟨b, 1, none⟩ = some (.int .i64 sa) ∧ b < w.heap.size ∧ b ≠ w.heap.size ∧ w.heap.size ≠ b := ⟨(cell_of hb).trans rfl, (cell_of hb).trans rfl, lt_of_heap hb, Nat.ne_of_lt (lt_of_heap hb), (Nat.ne_of_lt (lt_of_heap hb)).symm⟩
set_option maxRecDepth 20000 in
set_option maxHeartbeats 2000000 in
theorem add_any (p : Option Addr) (e : En) (v : Value) (l : List En) (w : World) (h : Ip w p v l) (hn : l.length ≤ 8796093022207) : Calls Try.prog 30 #[.pointer p, enV e] w fun r w' => r = .returned (.int .i64 (addC l e)) ∧ Left w w' p v (addE l e) := by
  obtain ⟨sk, sa⟩ := e
  have HB0 := hid ((Below.refl w.heap.size w).alloc (Nat.le_refl _) (.cells #[.int .i64 sk, .int .i64 sa] 30))
  have HS : Hid (Calls Try.prog 50 #[.pointer p] (w.alloc (.cells #[.int .i64 sk, .int .i64 sa] 30)) fun e w' => ∃ x, e = .returned (.pointer (some ⟨x, 0, none⟩)) ∧ Ix 63 w' x v l ∧ Iq (w.alloc (.cells #[.int .i64 sk, .int .i64 sa] 30)) w' p x v) := source_any p v l _ (h.below HB0.out)
  have HL : Hid (∀ wx x, Ix 63 wx x v l → Calls Try.prog 55 #[.pointer (some ⟨x, 0, none⟩)] wx fun e w' => e = .returned (.tuple #[enV (atE l ((l.length : Int) - 1)).1, .bool (atE l ((l.length : Int) - 1)).2]) ∧ Below wx.heap.size wx w') := fun wx x hx => last_any x v l wx hx (by omega)
  have HP : Hid (∀ wx x, Ix 63 wx x v l → Calls Try.prog 56 #[.pointer (some ⟨x, 0, none⟩), .agg #[.int .i64 sk, .int .i64 sa]] wx fun r w' => r = .returned (.tuple #[]) ∧ ∃ v', Ix 63 w' x v' (l ++ [(⟨sk, sa⟩ : En)]) ∧ Ch (IS x v) wx w' ∧ Moved wx v v') := fun wx x hx => push_any x ⟨sk, sa⟩ v l wx hx (by decide) hn
  have HBs : Hid (∀ w1 x, Iq (w.alloc (.cells #[.int .i64 sk, .int .i64 sa] 30)) w1 p x v → w1.heap[w.heap.size]? = some (.cells #[.int .i64 sk, .int .i64 sa] 30 (0, 0))) := fun w1 x hq => (hq.below.block _ (by simp)).trans (heap_new _ _)
  have HNB : Hid (∀ w1 x, Iq (w.alloc (.cells #[.int .i64 sk, .int .i64 sa] 30)) w1 p x v → ¬ IS x v w.heap.size) := fun w1 x hq hi => by
    rcases hq with ⟨rfl, rfl⟩ | ⟨rfl, rfl, rfl, rfl⟩
    · rcases h with ⟨x', h1, h2⟩ | ⟨h1, _⟩
      · cases h1
        exact absurd (h2.lt _ hi) (by omega)
      · cases h1
    · rcases hi with hi | hi
      · simp at hi
      · cases hi
  -- what becomes of it, from the world behind source on
  have HLf : Hid (∀ w1 w3 w4 x v' l', Iq (w.alloc (.cells #[.int .i64 sk, .int .i64 sa] 30)) w1 p x v → Below w1.heap.size w1 w3 → Ix 63 w4 x v' l' → Ch (IS x v) w3 w4 → Moved w3 v v' → Left w w4 p v l') := fun w1 w3 w4 x v' l' hq hb hx hc hm => by
    have h1 := left_of hq hx ((Ch.of_below hb).trans hc) (fun g hg => (hm g hg).imp_right (fun h => Nat.le_trans hb.size h))
    rcases h1 with ⟨x', v'', rfl, h2, h3, h4⟩ | ⟨rfl, h2⟩
    · exact Or.inl ⟨x', v'', rfl, h2, (Ch.of_below HB0.out).trans h3, fun g hg => (h4 g hg).imp_right (fun h => Nat.le_trans HB0.out.size h)⟩
    · exact Or.inr ⟨rfl, HB0.out.trans (h2.mono HB0.out.size)⟩
  unfold addE addC
  unfold enV at *
  simp only at HL ⊢
  have hk := last_kinds l
  clear h hn
  rcases hk with ⟨⟨mk, ma⟩, h1, h2⟩ | ⟨h1, h2⟩
  · rw [h1] at HL
    simp only at HL
    have hf : fitB l ⟨sk, sa⟩ = (decide (mk < sk) && decide (ma < sa)) := by unfold fitB; rw [h2]
    rw [hf]
    clear hf h1 h2
    by_cases hk : sk ≤ mk
    · have hk' : ¬ (mk : Int) < sk := by omega
      rw [if_neg (by simp [hk']), if_neg (by simp [hk'])]
      clear hk'
      go_enter Try.func30, Try.ntmps30
      go_wp2_with (first | (go_at_call 50; refine HS.out.mono ?_; rintro e w1 ⟨x, rfl, hx, hq⟩; have HX := hid hx; have HQ := hid hq; clear hx hq) | (go_at_call 55; refine (HL.out _ x HX.out).mono ?_; rintro e w2 ⟨rfl, hb2⟩; obtain ⟨z1, z2, z5, z6, z7⟩ := ecell3 ((hb2.block _ (lt_of_heap (HBs.out _ _ HQ.out))).trans (HBs.out _ _ HQ.out)); have HB2 := hid hb2; clear hb2))
      go_ret
      exact ⟨rfl, HLf.out _ _ _ x v l HQ.out (HB2.out.alloc HB2.out.size _) ((HX.out.below HB2.out).alloc _) (Ch.refl _ _) (Moved.refl _ _)⟩
    · have hk' : (mk : Int) < sk := by omega
      by_cases ha : sa ≤ ma
      · have ha' : ¬ (ma : Int) < sa := by omega
        rw [if_neg (by simp [ha']), if_neg (by simp [ha'])]
        clear ha'
        go_enter Try.func30, Try.ntmps30
        go_wp2_with (first | (go_at_call 50; refine HS.out.mono ?_; rintro e w1 ⟨x, rfl, hx, hq⟩; have HX := hid hx; have HQ := hid hq; clear hx hq) | (go_at_call 55; refine (HL.out _ x HX.out).mono ?_; rintro e w2 ⟨rfl, hb2⟩; obtain ⟨z1, z2, z5, z6, z7⟩ := ecell3 ((hb2.block _ (lt_of_heap (HBs.out _ _ HQ.out))).trans (HBs.out _ _ HQ.out)); have HB2 := hid hb2; clear hb2))
        go_ret
        exact ⟨rfl, HLf.out _ _ _ x v l HQ.out (HB2.out.alloc HB2.out.size _) ((HX.out.below HB2.out).alloc _) (Ch.refl _ _) (Moved.refl _ _)⟩
      · have ha' : (ma : Int) < sa := by omega
        rw [if_pos (by simp [hk', ha']), if_pos (by simp [hk', ha'])]
        go_enter Try.func30, Try.ntmps30
        go_wp2_with (first | (go_at_call 50; refine HS.out.mono ?_; rintro e w1 ⟨x, rfl, hx, hq⟩; have HX := hid hx; have HQ := hid hq; clear hx hq) | (go_at_call 55; refine (HL.out _ x HX.out).mono ?_; rintro e w2 ⟨rfl, hb2⟩; obtain ⟨z1, z2, z5, z6, z7⟩ := ecell3 ((hb2.block _ (lt_of_heap (HBs.out _ _ HQ.out))).trans (HBs.out _ _ HQ.out)); have HB2 := hid hb2; clear hb2))
        have HX3 : Hid (Ix 63 (w2.alloc (Obj.cells #[.int .i64 mk, .int .i64 ma] 30)) x v l) := (HX.out.below HB2.out).alloc _
        have HB3 : Hid (Below w1.heap.size w1 (w2.alloc (Obj.cells #[.int .i64 mk, .int .i64 ma] 30))) := HB2.out.alloc HB2.out.size _
        obtain ⟨y1, y2, _⟩ := ecell3 ((HB3.out.block _ (lt_of_heap (HBs.out _ _ HQ.out))).trans (HBs.out _ _ HQ.out))
        generalize w2.alloc (Obj.cells #[.int .i64 mk, .int .i64 ma] 30) = w3 at *
        clear z1 z2 z5 z6 z7
        go_region_held3 (fun y => y.cell? ⟨w.heap.size, 0, none⟩ = some (.int .i64 sk) ∧ y.cell? ⟨w.heap.size, 1, none⟩ = some (.int .i64 sa)) ((first | exact ⟨by assumption, by assumption⟩ | go_keep)) ((go_at_call 56; refine (HP.out _ x (by first | exact HX3.out | exact HX3.out.drew | exact HX3.out.drewN _)).mono ?_; rintro r w4 ⟨rfl, v', hx4, hc4, hm4⟩; obtain ⟨y3, y4, _⟩ := ecell3 ((hc4.block _ (by show _ < w3.heap.size; exact Nat.lt_of_lt_of_le (lt_of_heap (HBs.out _ _ HQ.out)) HB3.out.size) (HNB.out _ _ HQ.out)).trans ((HB3.out.block _ (lt_of_heap (HBs.out _ _ HQ.out))).trans (HBs.out _ _ HQ.out)))))
        go_wp2_with fail
        go_ret
        exact ⟨rfl, HLf.out w1 w3 w4 x v' _ HQ.out HB3.out hx4 (Ch.then (Ch.refl _ _).drew hc4 (fun _ _ h => h)) hm4⟩
  · rw [h1] at HL
    simp only [en0] at HL
    have hf : fitB l ⟨sk, sa⟩ = (decide (-1 < sk) && decide (-1 < sa)) := by rw [h2]; rfl
    rw [hf]
    clear hf h1 h2
    by_cases hk : sk ≤ (-1)
    · have hk' : ¬ ((-1) : Int) < sk := by omega
      rw [if_neg (by simp [hk']), if_neg (by simp [hk'])]
      clear hk'
      go_enter Try.func30, Try.ntmps30
      go_wp2_with (first | (go_at_call 50; refine HS.out.mono ?_; rintro e w1 ⟨x, rfl, hx, hq⟩; have HX := hid hx; have HQ := hid hq; clear hx hq) | (go_at_call 55; refine (HL.out _ x HX.out).mono ?_; rintro e w2 ⟨rfl, hb2⟩; obtain ⟨z1, z2, z5, z6, z7⟩ := ecell3 ((hb2.block _ (lt_of_heap (HBs.out _ _ HQ.out))).trans (HBs.out _ _ HQ.out)); have HB2 := hid hb2; clear hb2))
      go_ret
      exact ⟨rfl, HLf.out _ _ _ x v l HQ.out (HB2.out.alloc HB2.out.size _) ((HX.out.below HB2.out).alloc _) (Ch.refl _ _) (Moved.refl _ _)⟩
    · have hk' : ((-1) : Int) < sk := by omega
      by_cases ha : sa ≤ (-1)
      · have ha' : ¬ ((-1) : Int) < sa := by omega
        rw [if_neg (by simp [ha']), if_neg (by simp [ha'])]
        clear ha'
        go_enter Try.func30, Try.ntmps30
        go_wp2_with (first | (go_at_call 50; refine HS.out.mono ?_; rintro e w1 ⟨x, rfl, hx, hq⟩; have HX := hid hx; have HQ := hid hq; clear hx hq) | (go_at_call 55; refine (HL.out _ x HX.out).mono ?_; rintro e w2 ⟨rfl, hb2⟩; obtain ⟨z1, z2, z5, z6, z7⟩ := ecell3 ((hb2.block _ (lt_of_heap (HBs.out _ _ HQ.out))).trans (HBs.out _ _ HQ.out)); have HB2 := hid hb2; clear hb2))
        go_ret
        exact ⟨rfl, HLf.out _ _ _ x v l HQ.out (HB2.out.alloc HB2.out.size _) ((HX.out.below HB2.out).alloc _) (Ch.refl _ _) (Moved.refl _ _)⟩
      · have ha' : ((-1) : Int) < sa := by omega
        rw [if_pos (by simp [hk', ha']), if_pos (by simp [hk', ha'])]
        go_enter Try.func30, Try.ntmps30
        go_wp2_with (first | (go_at_call 50; refine HS.out.mono ?_; rintro e w1 ⟨x, rfl, hx, hq⟩; have HX := hid hx; have HQ := hid hq; clear hx hq) | (go_at_call 55; refine (HL.out _ x HX.out).mono ?_; rintro e w2 ⟨rfl, hb2⟩; obtain ⟨z1, z2, z5, z6, z7⟩ := ecell3 ((hb2.block _ (lt_of_heap (HBs.out _ _ HQ.out))).trans (HBs.out _ _ HQ.out)); have HB2 := hid hb2; clear hb2))
        have HX3 : Hid (Ix 63 (w2.alloc (Obj.cells #[.int .i64 (-1), .int .i64 (-1)] 30)) x v l) := (HX.out.below HB2.out).alloc _
        have HB3 : Hid (Below w1.heap.size w1 (w2.alloc (Obj.cells #[.int .i64 (-1), .int .i64 (-1)] 30))) := HB2.out.alloc HB2.out.size _
        obtain ⟨y1, y2, _⟩ := ecell3 ((HB3.out.block _ (lt_of_heap (HBs.out _ _ HQ.out))).trans (HBs.out _ _ HQ.out))
        generalize w2.alloc (Obj.cells #[.int .i64 (-1), .int .i64 (-1)] 30) = w3 at *
        clear z1 z2 z5 z6 z7
        go_region_held3 (fun y => y.cell? ⟨w.heap.size, 0, none⟩ = some (.int .i64 sk) ∧ y.cell? ⟨w.heap.size, 1, none⟩ = some (.int .i64 sa)) ((first | exact ⟨by assumption, by assumption⟩ | go_keep)) ((go_at_call 56; refine (HP.out _ x (by first | exact HX3.out | exact HX3.out.drew | exact HX3.out.drewN _)).mono ?_; rintro r w4 ⟨rfl, v', hx4, hc4, hm4⟩; obtain ⟨y3, y4, _⟩ := ecell3 ((hc4.block _ (by show _ < w3.heap.size; exact Nat.lt_of_lt_of_le (lt_of_heap (HBs.out _ _ HQ.out)) HB3.out.size) (HNB.out _ _ HQ.out)).trans ((HB3.out.block _ (lt_of_heap (HBs.out _ _ HQ.out))).trans (HBs.out _ _ HQ.out)))))
        go_wp2_with fail
        go_ret
        exact ⟨rfl, HLf.out w1 w3 w4 x v' _ HQ.out HB3.out hx4 (Ch.then (Ch.refl _ _).drew hc4 (fun _ _ h => h)) hm4⟩
end Go.Proofs.Ytldfbddccmnchaa
