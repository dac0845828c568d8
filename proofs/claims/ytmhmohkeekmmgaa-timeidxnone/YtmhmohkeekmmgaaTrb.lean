/- The document's index: Append and Find. -/
import Derived.Test.YtmhmohkeekmmgaaTra
namespace Go.Proofs.Ytmhmohkeekmmgaa
open Go.RowKit
set_option maxRecDepth 20000 in
set_option maxHeartbeats 2000000 in
theorem rappend_any (x : Nat) (e : En) (v : Value) (l : List En) (w : World) (h : Ix 47 w x v l) (hn : l.length ≤ 8796093022207) : Calls Try.prog 13 #[.pointer (some ⟨x, 0, none⟩), enV e] w fun r w' => r = .returned (.int .i64 (addC l e)) ∧ ∃ v', Ix 47 w' x v' (addE l e) ∧ Ch (IS x v) w w' ∧ Moved w v v' := by
  obtain ⟨sk, sa⟩ := e
  have HX := hid (h.alloc (.cells #[.int .i64 sk, .int .i64 sa] 29))
  have HE0 : Hid ((w.alloc (.cells #[.int .i64 sk, .int .i64 sa] 29)).heap[w.heap.size]? = some (.cells #[.int .i64 sk, .int .i64 sa] 29 (0, 0))) := heap_new _ _
  have HCH : Hid (Ch (IS x v) w (w.alloc (.cells #[.int .i64 sk, .int .i64 sa] 29))) := (Ch.refl _ _).alloc _
  have HL : Hid (∀ wx, Ix 47 wx x v l → Calls Try.prog 30 #[.pointer (some ⟨x, 0, none⟩)] wx fun e w' => e = .returned (.tuple #[enV (atE l ((l.length : Int) - 1)).1, .bool (atE l ((l.length : Int) - 1)).2]) ∧ Below wx.heap.size wx w') := fun wx hx => rlast_any x v l wx hx (by omega)
  have HN : Hid (l.length ≤ 8796093022207) := hn
  have HNE := hid (fun i hi => h.ne (by decide) (i := i) hi)
  unfold addE addC fitB
  unfold enV at *
  simp only at HL ⊢
  have hk := last_kinds l
  clear h hn
  by_cases hs : sa < 0
  · have hs' : ¬ 0 ≤ sa := by omega
    rw [if_pos hs, if_neg (by simp [hs'])]
    clear hs'
    go_enter Try.func13, Try.ntmps13
    go_wp2_with fail
    go_ret
    exact ⟨rfl, v, HX.out, HCH.out, Moved.refl _ _⟩
  have hs' : 0 ≤ sa := by omega
  rw [if_neg hs]
  have hd0 : decide (0 ≤ sa) = true := by simp [hs']
  rw [hd0, Bool.true_and]
  clear hd0
  rcases hk with ⟨R, ⟨mk, ma⟩, h1, h2⟩ | ⟨h1, h2⟩
  · rw [h1] at HL
    simp only at HL
    have hf : ordB l ⟨sk, sa⟩ = (decide (ma < sa) && decide (mk ≤ sk)) := by rw [h2, ordB_snoc]
    rw [hf]
    clear hf h1 h2
    by_cases ha : sa ≤ ma
    · have ha' : ¬ (ma : Int) < sa := by omega
      rw [if_neg (by simp [ha']), if_neg (by simp [ha'])]
      clear ha'
      go_enter Try.func13, Try.ntmps13
      go_wp2_with (go_at_call 30; refine (HL.out _ HX.out).mono ?_; rintro e w2 ⟨rfl, hb2⟩; obtain ⟨z1, z2, z5, z6, z7⟩ := ecell3 ((hb2.block _ (lt_of_heap HE0.out)).trans HE0.out); have HB2 := hid hb2; clear hb2)
      go_ret
      exact ⟨rfl, v, (HX.out.below HB2.out).alloc _, (HCH.out.trans (Ch.of_below HB2.out)).alloc _, Moved.refl _ _⟩
    · have ha' : (ma : Int) < sa := by omega
      by_cases hk : sk < mk
      · have hk' : ¬ mk ≤ sk := by omega
        rw [if_neg (by simp [hk']), if_neg (by simp [hk'])]
        clear hk' ha'
        go_enter Try.func13, Try.ntmps13
        go_wp2_with (go_at_call 30; refine (HL.out _ HX.out).mono ?_; rintro e w2 ⟨rfl, hb2⟩; obtain ⟨z1, z2, z5, z6, z7⟩ := ecell3 ((hb2.block _ (lt_of_heap HE0.out)).trans HE0.out); have HB2 := hid hb2; clear hb2)
        go_ret
        exact ⟨rfl, v, (HX.out.below HB2.out).alloc _, (HCH.out.trans (Ch.of_below HB2.out)).alloc _, Moved.refl _ _⟩
      · have hk' : mk ≤ sk := by omega
        rw [if_pos (by simp [hk', ha']), if_pos (by simp [hk', ha'])]
        clear ha' hk'
        go_enter Try.func13, Try.ntmps13
        go_wp2_with (go_at_call 30; refine (HL.out _ HX.out).mono ?_; rintro e w2 ⟨rfl, hb2⟩; obtain ⟨z1, z2, z5, z6, z7⟩ := ecell3 ((hb2.block _ (lt_of_heap HE0.out)).trans HE0.out); have HB2 := hid hb2; clear hb2)
        have HX3 : Hid (Ix 47 (w2.alloc (Obj.cells #[.int .i64 mk, .int .i64 ma] 29)) x v l) := (HX.out.below HB2.out).alloc _
        have HC3 : Hid (Ch (IS x v) w (w2.alloc (Obj.cells #[.int .i64 mk, .int .i64 ma] 29))) := (HCH.out.trans (Ch.of_below HB2.out)).alloc _
        have HE3 : Hid ((w2.alloc (Obj.cells #[.int .i64 mk, .int .i64 ma] 29)).heap[w.heap.size]? = some (.cells #[.int .i64 sk, .int .i64 sa] 29 (0, 0))) := heap_alloc_at ((HB2.out.block _ (lt_of_heap HE0.out)).trans HE0.out)
        obtain ⟨y1, y2, _⟩ := ecell3 HE3.out
        generalize w2.alloc (Obj.cells #[.int .i64 mk, .int .i64 ma] 29) = wa at *
        clear z1 z2 z5 z6 z7
        obtain ⟨i0, hi, hz0, hz1, hz2⟩ := info_parts Try.infoE
        obtain ⟨N, a, cap, hN, rfl, hens⟩ := HX3.out.row.ensN
        have d0 := HX3.out.c0
        have d1 := HX3.out.f0
        have HRO : Hid (wa.ownsRow 0 29 2 (.slice a N cap) N (ecs l)) := by
          have := HX3.out.row
          unfold OwE at this
          rw [← hN] at this
          exact this
        have hxa : x < wa.heap.size := lt_of_heap HX3.out.blk
        have hn : N ≤ 8796093022207 := by rw [hN]; exact HN.out
        have HNN := hid hN
        clear hN hens HL HX HE0 HB2
        go_region_law (refine step_append_lies _ rfl _ _ 45 rfl 0 29 i0 (.agg #[.int .i64 0, .int .i64 0]) 2 16 Try.underlying45 hi hz0 hz1 hz2 rfl (by decide) _ N (ecs l) (by simp [Act.eval]) (HRO.out.alloc _) ⟨wa.heap.size, 0, none⟩ 1 1 (enc ⟨sk, sa⟩) (by simp [Act.eval]) rfl (World.news_of_block (heap_new wa.drew _)) (enc_one _) (by omega) (by unfold maxLen; omega) (by omega) (Nat.zero_le _) _ rfl ?_; intro g2 cap2 w1 hown hgrow hat hlt2; have hf := hgrow.block x (by show x < (wa.alloc _).heap.size; simp; omega) (fun e => HNE.out x e.symm rfl); have gp : w1.heap[x]? = some (.cells #[.slice a N cap] 47 (0, 0)) := hf.trans (heap_alloc_at HX3.out.blk); have d4 : w1.cell? ⟨x, 0, none⟩ = some (.slice a N cap) := (cell_of gp).trans rfl; have d5 := froz_of (i := 0) gp; have HP := hid gp; have HGr := hid hgrow; have HOw := hid hown; have HAT := hid hat; clear hf gp hgrow hown hat)
        all_goals
          go_wp2_with fail
          go_ret
          have hch : Ch (IS x (.slice a N cap)) wa w1 := Ch.trans ((Ch.refl _ _).alloc _) ⟨HGr.out.os, HGr.out.tape, HGr.out.output, HGr.out.size, fun k hk hs => HGr.out.block k hk (fun e => hs (Or.inr e.symm))⟩
          refine ⟨rfl, .slice (some ⟨g2, 0, none⟩) (N + 1) cap2, Ix.put HP.out (by decide) ?_, (HC3.out.trans hch).setCell _ _ (fun _ => Or.inl rfl), ?_⟩
          · show World.ownsRow _ _ _ _ _ (l ++ [(⟨sk, sa⟩ : En)]).length _
            rw [List.length_append, ← HNN.out, ecs_snoc]
            exact HOw.out
          · intro g hg
            simp only [Value.ownBlock, Option.some.injEq] at hg
            subst hg
            rcases HAT.out with h | h
            · exact Or.inl h
            · right
              have h' : g2 = wa.heap.size + 1 := by simpa using h
              have := HC3.out.size
              omega
  · rw [h1] at HL
    simp only [en0] at HL
    have hf : ordB l ⟨sk, sa⟩ = true := by rw [h2]; rfl
    rw [hf, if_pos rfl, if_pos rfl]
    clear hf h1 h2
    go_enter Try.func13, Try.ntmps13
    go_wp2_with (go_at_call 30; refine (HL.out _ HX.out).mono ?_; rintro e w2 ⟨rfl, hb2⟩; obtain ⟨z1, z2, z5, z6, z7⟩ := ecell3 ((hb2.block _ (lt_of_heap HE0.out)).trans HE0.out); have HB2 := hid hb2; clear hb2)
    have HX3 : Hid (Ix 47 (w2.alloc (Obj.cells #[.int .i64 0, .int .i64 0] 29)) x v l) := (HX.out.below HB2.out).alloc _
    have HC3 : Hid (Ch (IS x v) w (w2.alloc (Obj.cells #[.int .i64 0, .int .i64 0] 29))) := (HCH.out.trans (Ch.of_below HB2.out)).alloc _
    have HE3 : Hid ((w2.alloc (Obj.cells #[.int .i64 0, .int .i64 0] 29)).heap[w.heap.size]? = some (.cells #[.int .i64 sk, .int .i64 sa] 29 (0, 0))) := heap_alloc_at ((HB2.out.block _ (lt_of_heap HE0.out)).trans HE0.out)
    obtain ⟨y1, y2, _⟩ := ecell3 HE3.out
    generalize w2.alloc (Obj.cells #[.int .i64 0, .int .i64 0] 29) = wa at *
    clear z1 z2 z5 z6 z7
    obtain ⟨i0, hi, hz0, hz1, hz2⟩ := info_parts Try.infoE
    obtain ⟨N, a, cap, hN, rfl, hens⟩ := HX3.out.row.ensN
    have d0 := HX3.out.c0
    have d1 := HX3.out.f0
    have HRO : Hid (wa.ownsRow 0 29 2 (.slice a N cap) N (ecs l)) := by
      have := HX3.out.row
      unfold OwE at this
      rw [← hN] at this
      exact this
    have hxa : x < wa.heap.size := lt_of_heap HX3.out.blk
    have hn : N ≤ 8796093022207 := by rw [hN]; exact HN.out
    have HNN := hid hN
    clear hN hens HL HX HE0 HB2
    go_region_law (refine step_append_lies _ rfl _ _ 45 rfl 0 29 i0 (.agg #[.int .i64 0, .int .i64 0]) 2 16 Try.underlying45 hi hz0 hz1 hz2 rfl (by decide) _ N (ecs l) (by simp [Act.eval]) (HRO.out.alloc _) ⟨wa.heap.size, 0, none⟩ 1 1 (enc ⟨sk, sa⟩) (by simp [Act.eval]) rfl (World.news_of_block (heap_new wa.drew _)) (enc_one _) (by omega) (by unfold maxLen; omega) (by omega) (Nat.zero_le _) _ rfl ?_; intro g2 cap2 w1 hown hgrow hat hlt2; have hf := hgrow.block x (by show x < (wa.alloc _).heap.size; simp; omega) (fun e => HNE.out x e.symm rfl); have gp : w1.heap[x]? = some (.cells #[.slice a N cap] 47 (0, 0)) := hf.trans (heap_alloc_at HX3.out.blk); have d4 : w1.cell? ⟨x, 0, none⟩ = some (.slice a N cap) := (cell_of gp).trans rfl; have d5 := froz_of (i := 0) gp; have HP := hid gp; have HGr := hid hgrow; have HOw := hid hown; have HAT := hid hat; clear hf gp hgrow hown hat)
    all_goals
      go_wp2_with fail
      go_ret
      have hch : Ch (IS x (.slice a N cap)) wa w1 := Ch.trans ((Ch.refl _ _).alloc _) ⟨HGr.out.os, HGr.out.tape, HGr.out.output, HGr.out.size, fun k hk hs => HGr.out.block k hk (fun e => hs (Or.inr e.symm))⟩
      refine ⟨rfl, .slice (some ⟨g2, 0, none⟩) (N + 1) cap2, Ix.put HP.out (by decide) ?_, (HC3.out.trans hch).setCell _ _ (fun _ => Or.inl rfl), ?_⟩
      · show World.ownsRow _ _ _ _ _ (l ++ [(⟨sk, sa⟩ : En)]).length _
        rw [List.length_append, ← HNN.out, ecs_snoc]
        exact HOw.out
      · intro g hg
        simp only [Value.ownBlock, Option.some.injEq] at hg
        subst hg
        rcases HAT.out with h | h
        · exact Or.inl h
        · right
          have h' : g2 = wa.heap.size + 1 := by simpa using h
          have := HC3.out.size
          omega
end Go.Proofs.Ytmhmohkeekmmgaa
