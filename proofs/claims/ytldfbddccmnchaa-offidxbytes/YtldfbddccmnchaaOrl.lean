/- The document's Load. -/
import Derived.Test.YtldfbddccmnchaaOrk
import Derived.Test.YtldfbddccmnchaaOld
import Derived.Test.YtldfbddccmnchaaOst
namespace Go.Proofs.Ytldfbddccmnchaa
open Go.RowKit
theorem rload_bad (s : ByteArray) (w : World) (h : s.size % 16 ≠ 0) (hs : s.size ≤ 140737488355328) : Calls Try.prog 22 #[.string s] w fun e w' => e = .returned (.tuple #[.pointer none, .int .i64 29]) ∧ w' = w := by
  have HR := hid (rread_bad s w h hs)
  clear h
  go_enter Try.func22, Try.ntmps22
  go_wp2_with (go_at_call 20; refine HR.out.mono ?_; rintro e w' ⟨rfl, rfl⟩)
  go_ret2
  exact ⟨rfl, rfl⟩
/-- What the document's Load answers of entries' bytes. -/
def RLoadP (w : World) (L : List En) (e : Ending) (w' : World) : Prop := ((allFit [] L = true ∧ ∃ y v, e = .returned (.tuple #[.pointer (some ⟨y, 0, none⟩), .int .i64 0]) ∧ Ix 68 w' y v L ∧ w.heap.size ≤ y ∧ ∀ g, v.ownBlock = some g → w.heap.size ≤ g) ∨ (allFit [] L = false ∧ e = .returned (.tuple #[.pointer none, .int .i64 30]))) ∧ Below w.heap.size w w'
/-- Under way: the index with the first entries at y, the row of all below it. -/
structure Lr (w wr : World) (y : Nat) (v : Value) (l L : List En) (a : Option Addr) : Prop where
  iy : Ix 68 wr y v l
  own : ∀ g, v.ownBlock = some g → y ≤ g
  ens : Ens wr a L
  ab : ∀ ad, a = some ad → ad.block < y
  bel : Below w.heap.size w wr
  le : w.heap.size ≤ y
theorem Lr.later {w wr wx : World} {y : Nat} {v : Value} {l L : List En} {a : Option Addr} (h : Lr w wr y v l L a) (hb : Below wr.heap.size wr wx) : Lr w wx y v l L a :=
  ⟨h.iy.below hb, h.own, h.ens.kept hb (Nat.le_refl _), h.ab, h.bel.trans (hb.mono h.bel.size), h.le⟩
/-- Behind the append and the store. -/
theorem Lr.push {w wr w1 : World} {y g cap : Nat} {v : Value} {l L : List En} {a : Option Addr} {e : En} (h : Lr w wr y v l L a) (hown : w1.ownsRow 0 30 2 (.slice (some ⟨g, 0, none⟩) (l.length + 1) cap) (l.length + 1) (ecs l ++ enc e)) (hgrow : wr.grownBy w1 v.ownBlock) (hat : v.ownBlock = some g ∨ g = wr.heap.size) : Lr w (w1.setCell ⟨y, 0, none⟩ (.slice (some ⟨g, 0, none⟩) (l.length + 1) cap)) y (.slice (some ⟨g, 0, none⟩) (l.length + 1) cap) (l ++ [e]) L a := by
  have hy := lt_of_heap h.iy.blk
  have hc : Ch (fun i => v.ownBlock = some i) wr w1 := ⟨hgrow.os, hgrow.tape, hgrow.output, hgrow.size, fun k hk hs => hgrow.block k hk (fun e => hs e.symm)⟩
  have hb1 : w1.heap[y]? = some (.cells #[v] 68 (0, 0)) := (hc.block y hy (fun hs => h.iy.ne (by decide) hs rfl)).trans h.iy.blk
  have hc2 : Ch (fun i => y ≤ i) wr (w1.setCell ⟨y, 0, none⟩ (.slice (some ⟨g, 0, none⟩) (l.length + 1) cap)) := (hc.mono (fun i _ hs => h.own i hs)).setCell _ _ (fun _ => Nat.le_refl _)
  refine ⟨Ix.put hb1 (by decide) ?_, fun g' hg' => ?_, h.ens.ch hc2 (fun ad e => by have := h.ab ad e; omega), h.ab, h.bel.trans (hc2.below h.bel.size (fun i hi hs => by have := h.le; omega)), h.le⟩
  · unfold OwE
    rw [List.length_append, ecs_snoc]
    exact hown
  · simp only [Value.ownBlock, Option.some.injEq] at hg'
    subst hg'
    rcases hat with h1 | h1
    · exact h.own _ h1
    · omega
set_option maxRecDepth 20000 in
set_option maxHeartbeats 4000000 in
theorem rload_ok (s : ByteArray) (w : World) (h : s.size % 16 = 0) (hs : s.size ≤ 140737488355328) : Calls Try.prog 22 #[.string s] w (RLoadP w (rdE (bl s))) := by
  obtain ⟨i0, hi, hz0, hz1, hz2⟩ := info_parts Try.infoE
  have HR := hid (rread_ok s w h hs)
  have hl : (rdE (bl s)).length ≤ 8796093022208 := by rw [rdE_len, bl_len]; omega
  generalize rdE (bl s) = L at *
  obtain ⟨N, hN⟩ : ∃ N, L.length = N := ⟨_, rfl⟩
  rw [hN] at hl
  have HN := hid hN
  clear h hN
  go_enter Try.func22, Try.ntmps22
  go_wp2_with (first | (go_at_call 20; refine HR.out.mono ?_; rintro e w1 ⟨⟨v1, rfl, ho⟩, hb1⟩; obtain ⟨n1, a1, c1, hn1, rfl, hens, _, hab⟩ := (show ∃ n1 a1 c1, n1 = N ∧ v1 = .slice a1 n1 c1 ∧ Ens w1 a1 L ∧ True ∧ (∀ ad, a1 = some ad → ad.block < w1.heap.size) from (by obtain ⟨a, c, h1, h2, _, h4⟩ := ho.ens4; exact ⟨_, a, c, HN.out, h1, h2, trivial, fun ad e => (ho.own (h4 ad e).1).2⟩)); obtain rfl := hn1; have HE := hid hens; have HAB := hid hab; have HB1 := hid hb1; clear ho hens hab hb1) | (go_at_call 11; refine (rnew_any _).mono ?_; rintro e w' ⟨rfl, rfl⟩))
  have HSt : Hid (Lr w (w1.alloc (.cells #[.slice none 0 0] 68)) w1.heap.size (.slice none 0 0) [] L a1) := ⟨Ix.new _ _, (fun g hg => by cases hg), HE.out.kept ((Below.refl w1.heap.size w1).alloc (Nat.le_refl _) _) (Nat.le_refl _), HAB.out, HB1.out.alloc HB1.out.size _, HB1.out.size⟩
  generalize w1.heap.size = Y at *
  go_loopg [7] n1 (fun k i wr => ∃ (j : Nat) (v : Value), j + k = n1 ∧ i = .int .i64 j ∧ Hid (Lr w wr Y v (L.take j) L a1) ∧ Hid (allFit [] L = allFit (L.take j) (L.drop j)) ∧ Hid (Ord (L.take j)))
  case atStart => exact ⟨0, _, by omega, rfl, HSt.out, by show _ = _; simp, Ord.nil⟩
  case round =>
    clear HSt HE HB1 HR
    obtain ⟨j, v, hj, rfl, HW, HF, HOd⟩ := hrel
    by_cases hlt : j < n1
    · obtain ⟨k', rfl⟩ : ∃ k', gk = k' + 1 := ⟨gk - 1, by omega⟩
      have hltI : (j : Int) < n1 := by omega
      have hjL : j < L.length := by rw [HN.out]; exact hlt
      have HCR : Hid (∃ b off, a1 = some ⟨b, off, none⟩ ∧ ∀ wx vx lx, Lr w wx Y vx lx L a1 → wx.cell? ⟨b, off + j * 2, none⟩ = some (.int .i64 (L.getD j en0).k) ∧ wx.cell? ⟨b, off + j * 2 + 1, none⟩ = some (.int .i64 (L.getD j en0).a)) := by
        rcases HW.out.ens with e | ⟨b, off, e, hb, hc⟩
        · rw [e] at hjL; cases hjL
        · refine ⟨b, off, e, fun wx vx lx hx => ?_⟩
          rcases hx.ens with e2 | ⟨b2, off2, e2, hb2, hc2⟩
          · rw [e2] at hjL; cases hjL
          · rw [e] at e2
            cases e2
            exact hc2 j hjL
      obtain ⟨b, off, rfl, hcr⟩ := HCR.out
      have HCC := hid hcr
      have HT : Hid (L.take (j + 1) = L.take j ++ [L.getD j en0]) := by
        show _ = _
        rw [List.take_succ_eq_append_getElem hjL, getD_of hjL]
      have HF1 := hid (allFit_step hjL)
      have HTl : Hid ((L.take j).length = j) := by show _ = _; rw [List.length_take]; omega
      generalize L.getD j en0 = q at *
      obtain ⟨sk, sa⟩ := q
      simp only at HCC
      clear HCR hcr
      obtain ⟨p0, p1⟩ := HCC.out _ _ _ HW.out
      obtain ⟨n9, x9, c9, hn9, rfl, _⟩ := HW.out.iy.row.ensN
      rw [HTl.out] at hn9
      subst hn9
      have c0 := HW.out.iy.c0
      have HFt : Hid (∀ wx, Below wr.heap.size wr wx → Calls Try.prog 49 #[.slice x9 n9 c9, .agg #[.int .i64 sk, .int .i64 sa]] wx fun r w' => r = .returned (.bool (fitB (L.take n9) ⟨sk, sa⟩)) ∧ Below wr.heap.size wr w') := fun wx hx => by
        have hz := HW.out.later hx
        obtain ⟨a', c', e1, e2⟩ := hz.iy.row.ens
        rw [HTl.out] at e1
        injection e1 with e1 _ e3
        subst e1
        have := rfits_any (L.take n9) x9 c9 ⟨sk, sa⟩ wx e2 HOd.out (by rw [HTl.out]; omega)
        rw [HTl.out] at this
        exact this.mono fun r w' ⟨h1, h2⟩ => ⟨h1, hx.trans (h2.mono hx.size)⟩
      have HCL : Hid (∀ wx, Below wr.heap.size wr wx → wx.cell? ⟨Y, 0, none⟩ = some (.slice x9 n9 c9) ∧ wx.frozen? ⟨Y, 0, none⟩ = false ∧ wx.cell? ⟨b, off + n9 * 2, none⟩ = some (.int .i64 sk) ∧ wx.cell? ⟨b, off + n9 * 2 + 1, none⟩ = some (.int .i64 sa)) := fun wx hx => by
        have hz := HW.out.later hx
        obtain ⟨e1, e2⟩ := HCC.out _ _ _ hz
        exact ⟨hz.iy.c0, hz.iy.f0, e1, e2⟩
      have HJ := hid hj
      have HBl := hid HW.out.bel
      clear hj hjL
      cases hfit : fitB (L.take n9) ⟨sk, sa⟩ with
      | false =>
        rw [hfit] at HFt HF1
        simp only [Bool.false_and] at HF1
        clear hfit
        go_wp2_with fail
        go_region_held3 (fun z => z.cell? ⟨Y, 0, none⟩ = some (.slice x9 n9 c9) ∧ z.cell? ⟨b, off + n9 * 2, none⟩ = some (.int .i64 sk) ∧ z.cell? ⟨b, off + n9 * 2 + 1, none⟩ = some (.int .i64 sa)) ((first | exact ⟨by assumption, by assumption, by assumption⟩ | go_keep)) ((go_at_call 49; refine (HFt.out _ (by first | exact Below.refl _ _ | exact ⟨rfl, rfl, rfl, Nat.le_refl _, fun _ _ => rfl⟩)).mono ?_; rintro r w2 ⟨rfl, hb2⟩; obtain ⟨g0, g1, g2, g3⟩ := HCL.out _ hb2))
        go_wp2_with fail
        go_ret2
        exact ⟨Or.inr ⟨by rw [HF.out]; exact HF1.out, rfl⟩, HBl.out.trans (hb2.mono HBl.out.size)⟩
      | true =>
        have HOd2 : Hid (Ord (L.take n9 ++ [(⟨sk, sa⟩ : En)])) := HOd.out.snoc hfit
        rw [hfit] at HFt HF1
        simp only [Bool.true_and] at HF1
        clear hfit
        go_wp2_with fail
        go_region_held3 (fun z => z.cell? ⟨Y, 0, none⟩ = some (.slice x9 n9 c9) ∧ z.cell? ⟨b, off + n9 * 2, none⟩ = some (.int .i64 sk) ∧ z.cell? ⟨b, off + n9 * 2 + 1, none⟩ = some (.int .i64 sa)) ((first | exact ⟨by assumption, by assumption, by assumption⟩ | go_keep)) ((go_at_call 49; refine (HFt.out _ (by first | exact Below.refl _ _ | exact ⟨rfl, rfl, rfl, Nat.le_refl _, fun _ _ => rfl⟩)).mono ?_; rintro r w2 ⟨rfl, hb2⟩; obtain ⟨g0, g1, g2, g3⟩ := HCL.out _ hb2))
        have HW2 := hid (HW.out.later hb2)
        have hY2 : Y < w2.heap.size := lt_of_heap HW2.out.iy.blk
        have hb2l : b < w2.heap.size := World.block_lt_of_cell? _ _ g2
        have HR2 : Hid (w2.ownsRow 0 30 2 (.slice x9 n9 c9) n9 (ecs (L.take n9))) := by
          have := HW2.out.iy.row
          unfold OwE at this
          rw [HTl.out] at this
          exact this
        have HNE2 : Hid (∀ i, (Value.slice x9 n9 c9).ownBlock = some i → i ≠ Y) := fun i hi => HW2.out.iy.ne (by decide) hi
        clear hb2 c0 p0 p1
        go_wp2_with fail
        go_region_law (refine step_append_lies _ rfl _ _ 35 rfl 0 30 i0 (.agg #[.int .i64 0, .int .i64 0]) 2 16 Try.underlying35 hi hz0 hz1 hz2 rfl (by decide) _ n9 (ecs (L.take n9)) (by simp [Act.eval]) (HR2.out.alloc _) ⟨w2.heap.size, 0, none⟩ 1 1 (enc ⟨sk, sa⟩) (by simp [Act.eval]) rfl (World.news_of_block (heap_new w2.drew _)) (enc_one _) (by omega) (by unfold maxLen; omega) (by omega) (Nat.zero_le _) _ rfl ?_; intro g5 cap5 w5 hown hgrow hat hlt5; have hf := hgrow.block Y (by show Y < (w2.alloc _).heap.size; simp; omega) (fun e => HNE2.out Y e.symm rfl); have gp : w5.heap[Y]? = some (.cells #[.slice x9 n9 c9] 68 (0, 0)) := hf.trans (heap_alloc_at HW2.out.iy.blk); have d4 : w5.cell? ⟨Y, 0, none⟩ = some (.slice x9 n9 c9) := (cell_of gp).trans rfl; have d5 := froz_of (i := 0) gp; have HGr := hid hgrow; have HOw := hid hown; have HAT := hid hat; clear hf gp hgrow hown hat)
        all_goals
          have HWd := hid (HW2.out.later (wx := w2.drew.alloc (.cells #[.int .i64 sk, .int .i64 sa] 30)) ((show Below w2.heap.size w2 w2.drew from ⟨rfl, rfl, rfl, Nat.le_refl _, fun _ _ => rfl⟩).alloc (Nat.le_refl _) _))
          have HW5 := hid (HWd.out.push (e := ⟨sk, sa⟩) (g := g5) (cap := cap5) (w1 := w5) (by rw [HTl.out]; exact HOw.out) HGr.out (by rcases HAT.out with h | h; exact Or.inl h; exact Or.inr (by rw [h]; simp)))
          rw [HTl.out] at HW5
          go_wp2_with fail
          go_roundg k'
          case measure => omega
          case rel => exact ⟨n9 + 1, _, by have := HJ.out; omega, congrArg (Value.int .i64) (by omega), by rw [HT.out]; exact HW5.out, by rw [HF.out]; exact HF1.out, by rw [HT.out]; exact HOd2.out⟩
    · have hltI : ¬ (j : Int) < n1 := by omega
      have hjN : j = L.length := by rw [HN.out]; omega
      have HF2 : Hid (allFit [] L = true) := by show _ = _; rw [HF.out, hjN, List.drop_length]; rfl
      rw [show L.take j = L from by rw [hjN, List.take_length]] at HW
      clear hjN
      go_wp2_with fail
      go_ret2
      exact ⟨Or.inl ⟨HF2.out, _, v, rfl, HW.out.iy, HW.out.le, fun g hg => Nat.le_trans HW.out.le (HW.out.own g hg)⟩, HW.out.bel⟩
end Go.Proofs.Ytldfbddccmnchaa
