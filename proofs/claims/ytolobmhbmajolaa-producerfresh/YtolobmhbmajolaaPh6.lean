/- The document's book: Forget, Clone. -/
import Derived.Test.YtolobmhbmajolaaPh5
import Derived.Deep.RegionLaw
namespace Go.Proofs.Ytolobmhbmajolaa
open Go.RowKit
def rfg (below : Int) (l : List Hd) : List Hd := l.filter (fun h => decide (below ≤ h.b))
theorem rfg_snoc (below : Int) (l : List Hd) (x : Hd) : rfg below (l ++ [x]) = if below ≤ x.b then rfg below l ++ [x] else rfg below l := by
  unfold rfg
  rw [List.filter_append]
  by_cases h : below ≤ x.b <;> simp [h]
theorem rfg_len (below : Int) (l : List Hd) : (rfg below l).length ≤ l.length := List.length_filter_le _ _
theorem rfg_rf (below : Int) (l : List Hd) (q : Int) : RF (rfg below l) q = fg below (RF l q) := by
  unfold RF rfg bt fg
  rw [List.filter_map, List.filter_filter, List.filter_filter]
  congr 1
  exact List.filter_congr fun x _ => Bool.and_comm _ _
theorem rfg_ok {l : List Hd} (h : RbOk l) (below : Int) : RbOk (rfg below l) := ⟨fun x hx => h.ok x (List.mem_filter.1 hx).1⟩
theorem Step.below {P : Res} (hP : Stab P) {S : Nat → Prop} {y z z' : World} (h : Step S y P z) (hb : Below z.heap.size z z') : Step S y P z' := by
  obtain ⟨S', h1, h2, h3⟩ := h
  exact ⟨S', hP.keep h1 (Ch.of_below hb : Ch (fun _ => False) z z') (fun _ _ e => e), h2.trans (Ch.of_below hb), h3⟩
set_option maxHeartbeats 4000000 in
set_option maxRecDepth 40000 in
theorem rforget_any (b : Nat) (l : List Hd) (below : Int) (y : World) (S : Nat → Prop) (h : RB b l y S) (ok : RbOk l) (hl : l.length ≤ 2199023255552) :
    Calls Try.prog 34 #[.pointer (some ⟨b, 0, none⟩), .int .i64 below] y fun e w' => ∃ ps ps' : List Int, e = .returned (.int .i64 ((ps.length : Int) - (ps'.length : Int))) ∧ Ids (RF l) ps ∧ Ids (RF (rfg below l)) ps' ∧ Step S y (RB b (rfg below l)) w' := by
  have HL1 := Hid.mk (rlen_any b l y S h ok hl)
  obtain ⟨v, hb, hr, hS⟩ := h
  obtain ⟨a, cap, rfl, hd, hc1, hc2⟩ := hr.hds
  have hbl := lt_of_heap hb
  have HBk := Hid.mk hb
  have HD := Hid.mk hd
  obtain ⟨i0, hi, hz0, hz1, hz2⟩ := info_parts Try.infoH
  have hcap : cap ≤ 9223372036854775807 := by unfold maxLen at hc2; omega
  have HSb : Hid (S b) := by rw [hS]; exact Or.inl rfl
  have HOK := Hid.mk ok
  clear hS hr hb hd hc2 ok
  go_enter Try.func34, Try.ntmps34
  go_wp2_with (go_at_call 29; with_reducible refine HL1.out.mono ?_; rintro e w2 ⟨ps, rfl, hps, hpn, hb2⟩; have HPS := Hid.mk hps; have HPN := Hid.mk hpn; have HB2 := Hid.mk hb2; clear hps hb2 hpn)
  clear HL1
  have hbw2 : b < w2.heap.size := by have := HB2.out.size; omega
  have HDw : Hid (Hds w2 a l) := HD.out.below HB2.out
  have HBw : Hid (w2.heap[b]? = some (.cells #[.slice a l.length cap] 65 (0, 0))) := (HB2.out.block b hbl).trans HBk.out
  clear HD HBk
  go_loopg [6, 7] l.length (fun k o i wr => ∃ (j : Nat), j + k = l.length ∧ i = .int .i64 j ∧ Hid (Oh w2 o (rfg below (l.take j)) wr))
  case atStart => exact ⟨0, by omega, rfl, Below.refl _ _, OwH.nil _ _⟩
  case round =>
    obtain ⟨j, hk, rfl, HO⟩ := hrel
    have c0 : wr.cell? ⟨b, 0, none⟩ = some (.slice a l.length cap) := (cell_of ((HO.out.bel.block b hbw2).trans HBw.out)).trans rfl
    by_cases hlt : j < l.length
    · obtain ⟨k, rfl⟩ : ∃ k, gk = k + 1 := ⟨gk - 1, by omega⟩
      rcases HDw.out.below HO.out.bel with rfl | ⟨g, off, rfl, hbg, hc⟩
      · simp at hlt
      obtain ⟨q0, q1, q2, q3, q4, q5, q6, q7⟩ := hc j hlt
      have HN := Hid.mk (take_next l hd0 hlt)
      have HLe : Hid ((rfg below (l.take j)).length ≤ j) := Nat.le_trans (rfg_len _ _) (by rw [List.length_take]; omega)
      generalize l.getD j hd0 = x at *
      have HS := Hid.mk (rfg_snoc below (l.take j) x)
      obtain ⟨L, hL⟩ : ∃ L, rfg below (l.take j) = L := ⟨_, rfl⟩
      rw [hL] at HO HS HLe
      obtain ⟨r0, r1, r2, r3, r4, r5, r6, r7⟩ := x
      dsimp only at q0 q1 q2 q3 q4 q5 q6 q7 HS
      have b1 : (0 : Int) ≤ (j : Int) := by omega
      have b2 : (j : Int) < (l.length : Int) := by omega
      have HK := Hid.mk hk
      clear hc hL hbg hk
      by_cases hp : below ≤ r0
      · rw [if_pos hp] at HS
        go_wp2_with (at_builtin; refine wpList_append_own _ rfl _ _ 35 rfl w2.heap.size 29 i0 hz8 8 64 Try.underlying35 hi hz0 hz1 hz2 rfl (by decide) _ L.length (hvs L) rfl ?c0 ⟨wr.heap.size, 0, none⟩ 1 1 (hv ⟨r0, r1, r2, r3, r4, r5, r6, r7⟩) rfl rfl ?c1 ?c2 ?c3 ?c4 ?c5 ?_)
        case c0 => exact (HO.out.alloc (.cells (hv ⟨r0, r1, r2, r3, r4, r5, r6, r7⟩).toArray 29)).row
        case c1 => exact World.news_of_block (heap_new _ _)
        case c2 => exact hv_one _
        case c3 => have := HLe.out; unfold maxLen; omega
        case c4 => have := HLe.out; omega
        case c5 => have := HO.out.bel.size; simp; omega
        intro v' w7 hown7 hgrow7 _
        have HP := Hid.mk ((HO.out.alloc (.cells (hv ⟨r0, r1, r2, r3, r4, r5, r6, r7⟩).toArray 29)).push hown7 hgrow7)
        clear hown7 hgrow7
        go_wp2_with fail
        go_roundg k
        case measure => omega
        case rel => exact ⟨j + 1, by have := HK.out; omega, by go_num, by show Oh _ _ _ _; rw [HN.out, HS.out]; exact HP.out⟩
      · rw [if_neg hp] at HS
        go_wp2_with fail
        go_roundg k
        case measure => omega
        case rel => exact ⟨j + 1, by have := HK.out; omega, by go_num, by show Oh _ _ _ _; rw [HN.out, HS.out]; exact HO.out⟩
    · have hlt' : ¬ (j : Int) < (l.length : Int) := by omega
      have hT : l.take j = l := List.take_of_length_le (by omega)
      rw [hT] at HO
      obtain ⟨a6, cap6, rfl, _⟩ := HO.out.row.hds
      have hbr := (HO.out.bel.block b hbw2).trans HBw.out
      have fz : wr.frozen? ⟨b, 0, none⟩ = false := froz_of hbr
      have HPut := Hid.mk (rb_put (S := S) HB2.out HO.out hbr hbl HSb.out)
      have HLn : Hid (Calls Try.prog 29 #[.pointer (some ⟨b, 0, none⟩)] (wr.setCell ⟨b, 0, none⟩ (.slice a6 (rfg below l).length cap6)) fun e w' => ∃ ps' : List Int, e = .returned (.int .i64 ps'.length) ∧ Ids (RF (rfg below l)) ps' ∧ ps'.length ≤ l.length ∧ Step S y (RB b (rfg below l)) w') := by
        obtain ⟨S', h1, h2⟩ := HPut.out
        refine (rlen_any b _ _ S' h1 (rfg_ok HOK.out below) (Nat.le_trans (rfg_len _ _) hl)).mono ?_
        rintro e w' ⟨ps', rfl, hi', hn', hb'⟩
        exact ⟨ps', rfl, hi', Nat.le_trans hn' (rfg_len _ _), Step.below (RB.stab _ _) HPut.out hb'⟩
      clear hk hT hbr
      have hpl : (ps.length : Int) ≤ 2199023255552 := by have := HPN.out; omega
      go_wp2_with (go_at_call 29; with_reducible refine HLn.out.mono ?_; rintro e w9 ⟨ps', rfl, hps', hpn', hst⟩; have hpl' : (ps'.length : Int) ≤ 2199023255552 := (by omega); have HPS' := Hid.mk hps'; have HST := Hid.mk hst; clear hps' hst hpn')
      go_ret
      exact ⟨_, _, rfl, HPS.out, HPS'.out, HST.out⟩
end Go.Proofs.Ytolobmhbmajolaa
