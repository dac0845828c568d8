/- NamesGroups: every Group. -/
import Derived.Test.YtgffipkbbenddaaDoorNgk
namespace Go.Proofs.YtgffipkbbenddaaDoor
open Go.RowKit Go.Lib
set_option maxRecDepth 20000 in
set_option maxHeartbeats 8000000 in
theorem groups_walk (l : List ByteArray) (a : Option Addr) (cap : Nat) (w : World) (G : Gd w) (hv : Txs w a l) (hn : l.length ≤ 8796093021952) (hz : ∀ y ∈ l, y.size ≤ 140737488355328) (hnil : a = none → cap = 0) :
    Calls Tryd.prog 5 #[.slice a l.length cap] w fun e w' => e = .returned (.bool true) ∧ Below w.heap.size w w' := by
  have HA := hid (awake_any w G)
  obtain ⟨T, hT⟩ : ∃ T, T = l.map fun s => s.data.toList := ⟨_, rfl⟩
  have hTl : T.length = l.length := by rw [hT, List.length_map]
  have hgl := grp_len (srt T)
  rw [(srt_perm T).length_eq, hTl] at hgl
  have HRG : Hid (∀ wx, Below w.heap.size w wx → Calls Tryd.prog 14 #[.slice a l.length cap] wx fun e w' => (∃ a3 c3 a4 c4, e = .returned (.tuple #[.slice a3 (grp (srt T)).1.length c3, .slice a4 (grp (srt T)).2.length c4]) ∧ Sgs w' a3 (grp (srt T)).1 ∧ Txs w' a4 ((grp (srt T)).2.map ba)) ∧ Below w.heap.size w w') := fun wx hx => by
    have := rgroup_any l a cap wx (hv.kept hx (Nat.le_refl _)) (by omega) hz
    rw [← hT, rgp_eq] at this
    refine this.mono ?_
    rintro e w' ⟨⟨v1, v2, rfl, h1, h2⟩, hb⟩
    obtain ⟨a1, c1, rfl, hs⟩ := h1.sgs
    obtain ⟨a2, c2, rfl, hx2⟩ := h2.txs
    exact ⟨⟨a1, c1, a2, c2, rfl, hs, hx2⟩, hx.trans (hb.mono hx.size)⟩
  have HGp : Hid (∀ a5 c5 wx, Below w.heap.size w wx → Txs wx a5 l → Calls Tryd.prog 15 #[.slice a5 l.length c5] wx fun e w' => (∃ b1 d1 b2 d2, e = .returned (.tuple #[.slice b1 (grp (srt T)).1.length d1, .slice b2 (grp (srt T)).2.length d2]) ∧ OwS 45 w' wx.heap.size (.slice b1 (grp (srt T)).1.length d1) (grp (srt T)).1 ∧ OwX w' wx.heap.size (.slice b2 (grp (srt T)).2.length d2) (grp (srt T)).2) ∧ Below wx.heap.size wx w') := fun a5 c5 wx hx h5 => by
    have := group_any l a5 c5 wx (G.kept hx (Nat.le_refl _)) h5 (by omega) hz
    rw [← hT] at this
    refine this.mono ?_
    rintro e w' ⟨⟨v1, v2, rfl, h1, h2⟩, hb⟩
    obtain ⟨a1, c1, rfl, hs⟩ := h1.sgs
    obtain ⟨a2, c2, rfl, hx2⟩ := h2.txs
    exact ⟨⟨a1, c1, a2, c2, rfl, h1, h2⟩, hb⟩
  generalize (grp (srt T)).1 = l1 at *
  generalize (grp (srt T)).2 = l2 at *
  have HSm : Hid (∀ wx a b ca cb, Sgs wx a l1 → Sgs wx b l1 → Calls Tryd.prog 16 #[.slice a l1.length ca, .slice b l1.length cb] wx fun e w' => e = .returned (.bool true) ∧ Below wx.heap.size wx w') := fun wx a b ca cb h1 h2 => same_yes l1 a b ca cb wx h1 h2 (by omega)
  have HSx : Hid (∀ wx a b ca cb, Txs wx a (l2.map ba) → Txs wx b (l2.map ba) → Calls Tryd.prog 17 #[.slice a l2.length ca, .slice b l2.length cb] wx fun e w' => e = .returned (.bool true) ∧ Below wx.heap.size wx w') := fun wx a b ca cb h1 h2 => by
    have := sameTexts_yes (l2.map ba) a b ca cb wx h1 h2 (by rw [List.length_map]; omega)
    rw [List.length_map] at this
    exact this
  have HSt : Hid (∀ wx a b ca cb, Txs wx a l → Txs wx b l → Calls Tryd.prog 17 #[.slice a l.length ca, .slice b l.length cb] wx fun e w' => e = .returned (.bool true) ∧ Below wx.heap.size wx w') := fun wx a b ca cb h1 h2 => sameTexts_yes l a b ca cb wx h1 h2 (by omega)
  have HV := hid hv
  have HNL := hid hnil
  obtain ⟨i1, ji, jz0, jz1, jz2⟩ := info_parts Tryd.infoStr
  obtain ⟨i0, hi, hz0, hz1, hz2⟩ := info_parts Tryd.infoS
  obtain ⟨N, hN⟩ : ∃ N, l.length = N := ⟨_, rfl⟩
  have HN := hid hN
  have HES : Hid (∀ wx B a c, OwS 45 wx B (.slice a l1.length c) l1 → Sgs wx a l1 ∧ (∀ ad, a = some ad → B ≤ ad.block ∧ ad.block < wx.heap.size)) := fun wx B a c h => by
    obtain ⟨a', c', h1, h2⟩ := h.sgs
    injection h1 with h1
    subst h1
    refine ⟨h2, fun ad e => ?_⟩
    subst e
    have h3 : (Value.slice (some ad) l1.length c).ownBlock = some ad.block := by
      rcases h.2 with ⟨h4, _⟩ | ⟨g, cap, cur, h4, _⟩
      · cases h4
      · cases h4; rfl
    exact World.ownsRow.lt h _ h3
  have HEX : Hid (∀ wx B a c, OwX wx B (.slice a l2.length c) l2 → Txs wx a (l2.map ba) ∧ (∀ ad, a = some ad → B ≤ ad.block ∧ ad.block < wx.heap.size)) := fun wx B a c h => by
    obtain ⟨a', c', h1, h2⟩ := h.txs
    injection h1 with h1
    subst h1
    refine ⟨h2, fun ad e => ?_⟩
    subst e
    have h3 : (Value.slice (some ad) l2.length c).ownBlock = some ad.block := by
      rcases h.2 with ⟨h4, _⟩ | ⟨g, cap, cur, h4, _⟩
      · cases h4
      · cases h4; rfl
    exact World.ownsRow.lt h _ h3
  obtain ⟨n1, hn1⟩ : ∃ n1, l1.length = n1 := ⟨_, rfl⟩
  obtain ⟨n2, hn2⟩ : ∃ n2, l2.length = n2 := ⟨_, rfl⟩
  have HN1 := hid hn1
  have HN2 := hid hn2
  rw [hN] at hn HRG HGp HSt hgl ⊢
  rw [hn1] at HRG HGp HSm HES hgl
  rw [hn2] at HRG HGp HSx HEX hgl
  have HRow : Hid (∀ (w5 : World) (B g c5 : Nat), w5.ownsRow B 9 1 (.slice (some ⟨g, 0, none⟩) (N + 2) c5) (N + 2) (l.map Value.string ++ [.string ⟨#[98, 101, 104, 105, 110, 100]⟩, .string ⟨#[48, 48, 48, 48, 48, 48, 48, 48, 48, 48, 48, 48, 48, 48, 48, 48, 48, 48, 48, 55, 46, 111, 102, 102]⟩]) → (N : Int) ≤ c5 ∧ Txs w5 (some ⟨g, 0, none⟩) l ∧ w5.cell? ⟨g, N, none⟩ = some (.string ⟨#[98, 101, 104, 105, 110, 100]⟩) ∧ w5.cell? ⟨g, N + 1, none⟩ = some (.string ⟨#[48, 48, 48, 48, 48, 48, 48, 48, 48, 48, 48, 48, 48, 48, 48, 48, 48, 48, 48, 55, 46, 111, 102, 102]⟩) ∧ B ≤ g ∧ g < w5.heap.size) := fun w5 B g c5 ho => by
    have h1 := row_cap ho
    have hl := HN.out
    refine ⟨by omega, row_txs ho (by omega), ?_, ?_, World.ownsRow.lt ho g rfl⟩
    · rw [ho.cellAt N (by omega), List.getElem?_append_right (by rw [List.length_map]; omega), List.length_map, hl, Nat.sub_self]
      rfl
    · rw [ho.cellAt (N + 1) (by omega), List.getElem?_append_right (by rw [List.length_map]; omega), List.length_map, hl, Nat.add_sub_cancel_left]
      rfl
  clear hT hTl hz G hv hnil hN hn1 hn2
  go_enter Tryd.func5, Tryd.ntmps5
  cases a with
  | none =>
    have hN0 : N = 0 := by rw [← HN.out]; rcases HV.out with h | ⟨b, off, h, _⟩; rw [h]; rfl; cases h
    have hc0 := HNL.out rfl
    subst hN0
    subst hc0
    go_wp2_with (first | (go_at_call 9; refine HA.out.mono ?_; rintro e w1 ⟨rfl, hb1⟩; have HB1 := hid hb1; clear hb1) | (go_at_call 14; refine (HRG.out _ HB1.out).mono ?_; rintro e w2 ⟨⟨a3, c3, a4, c4, rfl, hs3, hx4⟩, hb2⟩; have H3 := hid hs3; have H4 := hid hx4; have HB2 := hid hb2; clear hs3 hx4 hb2) | (at_builtin; refine wpList_append_own_none rfl _ _ 29 rfl w2.heap.size 9 i1 1 Tryd.underlying29 ji (.slice (some ⟨w2.heap.size, 0, none⟩) 0 0) 0 [] rfl (World.ownsRow_made w2 #[] 0 (Nat.le_refl _) (Nat.zero_le _) rfl) rfl ?_) | (at_builtin; refine wpList_append_lies _ rfl _ _ 29 rfl w2.heap.size 9 i1 (.string ⟨#[]⟩) 1 16 Tryd.underlying29 ji jz0 jz1 jz2 rfl (by decide) (.slice (some ⟨w2.heap.size, 0, none⟩) 0 0) 0 [] rfl ?sr0 ⟨w2.heap.size + 1, 0, none⟩ 2 2 [.string ⟨#[98, 101, 104, 105, 110, 100]⟩, .string ⟨#[48, 48, 48, 48, 48, 48, 48, 48, 48, 48, 48, 48, 48, 48, 48, 48, 48, 48, 48, 55, 46, 111, 102, 102]⟩] rfl rfl ?sr1 ?sr2 ?sr3 ?sr4 ?sr5 ?sr6 _ rfl ?_))
    case sr0 => exact (World.ownsRow_made w2 #[] 0 (Nat.le_refl _) (Nat.zero_le _) rfl).alloc _
    case sr1 => exact World.news_of_block (by have := heap_new (w2.alloc (.cells #[] 9)) (.cells #[.string ⟨#[98, 101, 104, 105, 110, 100]⟩, .string ⟨#[48, 48, 48, 48, 48, 48, 48, 48, 48, 48, 48, 48, 48, 48, 48, 48, 48, 48, 48, 55, 46, 111, 102, 102]⟩] 9 (0, 0)); simpa using this)
    case sr2 => exact (by intro u hu; simp only [List.mem_cons, List.not_mem_nil, or_false] at hu; rcases hu with rfl | rfl <;> rfl)
    case sr3 => omega
    case sr4 => unfold maxLen; omega
    case sr5 => omega
    case sr6 => simp; omega
    intro g6 c6 w6 hown6 hgrow6 hat6 hlt6
    have HL0 : Hid (l = []) := List.eq_nil_of_length_eq_zero HN.out
    have hown6 : w6.ownsRow w2.heap.size 9 1 (.slice (some ⟨g6, 0, none⟩) (0 + 2) c6) (0 + 2) (l.map Value.string ++ [.string ⟨#[98, 101, 104, 105, 110, 100]⟩, .string ⟨#[48, 48, 48, 48, 48, 48, 48, 48, 48, 48, 48, 48, 48, 48, 48, 48, 48, 48, 48, 55, 46, 111, 102, 102]⟩]) := by rw [HL0.out]; exact hown6
    have HK6 : Hid (Below w2.heap.size w2 w6) := (((Below.refl _ w2).alloc (Nat.le_refl _) _).alloc (by simp) _).grown hgrow6 (by simp; omega) (fun k hk => by simp [Value.ownBlock] at hk; omega)
    have HB6 : Hid (Below w.heap.size w w6) := HB2.out.trans (HK6.out.mono HB2.out.size)
    obtain ⟨hc6, hx6, hy6, hz6, hg6, hg6l⟩ := HRow.out _ _ _ _ hown6
    have HX6 := hid hx6
    have HC6 := hid (And.intro hy6 hz6)
    clear hown6 hgrow6 hat6 hlt6 hx6 hy6 hz6
    have HX7 : Hid (∀ wx, Below w6.heap.size w6 wx → Txs wx (some ⟨g6, 0, none⟩) l) := fun wx hx => HX6.out.kept hx (Nat.le_refl _)
    go_wp2_with (first | (go_at_call 15; with_reducible refine (HGp.out _ _ _ HB6.out HX6.out).mono ?_; rintro e w7 ⟨⟨b6, d6, b7, d7, rfl, ho6, ho7⟩, hb7⟩; have HO6 := hid ho6; have HO7 := hid ho7; have HB7 := hid hb7; have HBw7 := hid (HB6.out.trans (hb7.mono HB6.out.size)); have HX8 := hid (HX7.out _ hb7); clear ho6 ho7 hb7) | (go_at_call 15; with_reducible refine (HGp.out _ _ _ HBw7.out HX8.out).mono ?_; rintro e w8 ⟨⟨b8, d8, b9, d9, rfl, ho8, ho9⟩, hb8⟩; have HO8 := hid ho8; have HO9 := hid ho9; have HB8 := hid hb8; have hB68 := HB7.out.trans (hb8.mono HB7.out.size); have hB28 := HK6.out.trans (hB68.mono HK6.out.size); have HE6 := hid (HES.out _ _ _ _ HO6.out).1; have HE6b := hid (HE6.out.kept hb8 (Nat.le_refl _)); have HE3 := hid (H3.out.kept hB28 (Nat.le_refl _)); have HB68 := hid hB68; have HB28 := hid hB28; clear ho8 ho9 hb8 hB68 hB28) | (go_at_call 16; with_reducible refine (HSm.out _ _ _ _ _ HE6b.out HE3.out).mono ?_; rintro e w9 ⟨rfl, hb9⟩; have HB9 := hid hb9; have HE7 := hid ((HEX.out _ _ _ _ HO7.out).1.kept (HB8.out.trans (hb9.mono HB8.out.size)) (Nat.le_refl _)); have HE4 := hid (H4.out.kept (HB28.out.trans (hb9.mono HB28.out.size)) (Nat.le_refl _)); clear hb9) | (go_at_call 17; with_reducible refine (HSx.out _ _ _ _ _ HE7.out HE4.out).mono ?_; rintro e w10 ⟨rfl, hb10⟩; have HB10 := hid hb10; have HB610 := hid ((HB68.out.trans (HB9.out.mono HB68.out.size)).trans (hb10.mono (Nat.le_trans HB68.out.size HB9.out.size))); have HEi := hid (HX7.out _ HB610.out); have HEt := hid (HV.out.kept (HB6.out.trans (HB610.out.mono HB6.out.size)) (Nat.le_refl _)); clear hb10) | (go_at_call 17; with_reducible refine (HSt.out _ _ _ _ _ HEi.out HEt.out).mono ?_; rintro e w11 ⟨rfl, hb11⟩; have HB11 := hid hb11; have hB611 := HB610.out.trans (hb11.mono HB610.out.size); have y0 := (hB611.cell (p := ⟨g6, 0, none⟩) hg6l).trans HC6.out.1; have y1 := (hB611.cell (p := ⟨g6, 1, none⟩) hg6l).trans HC6.out.2; have HB611 := hid hB611; clear hb11 hB611))
    have sz : Hid (w2.heap.size ≤ w6.heap.size ∧ w6.heap.size ≤ w7.heap.size ∧ w7.heap.size ≤ w8.heap.size ∧ w8.heap.size ≤ w11.heap.size ∧ w.heap.size ≤ w2.heap.size) := ⟨HK6.out.size, HB7.out.size, HB8.out.size, Nat.le_trans HB9.out.size (Nat.le_trans HB10.out.size HB11.out.size), HB2.out.size⟩
    obtain ⟨S0, hS0⟩ : ∃ S0 : Nat → Prop, S0 = fun i => w6.heap.size ≤ i ∧ i < w7.heap.size := ⟨_, rfl⟩
    have HS0 : Hid (∀ i, S0 i ↔ w6.heap.size ≤ i ∧ i < w7.heap.size) := fun i => by rw [hS0]
    have HB8b : Hid (Below w8.heap.size w8 w11) := (HB9.out.trans (HB10.out.mono HB9.out.size)).trans (HB11.out.mono (Nat.le_trans HB9.out.size HB10.out.size))
    have HB7b : Hid (Below w7.heap.size w7 w11) := HB8.out.trans (HB8b.out.mono HB8.out.size)
    have HPr : Hid (∀ wx, Ch S0 w11 wx → Sgs wx a3 l1 ∧ Txs wx a4 (l2.map ba) ∧ Txs wx (some ⟨g6, 0, none⟩) l ∧ Txs wx none l ∧ Sgs wx b8 l1 ∧ Txs wx b9 (l2.map ba) ∧ Below w.heap.size w wx) := fun wx hx => by
      have hs := sz.out
      have k6 : Below w6.heap.size w6 wx := HB611.out.trans (hx.below HB611.out.size (fun i hi h => by have := (HS0.out i).1 h; omega))
      have k2 : Below w2.heap.size w2 wx := HK6.out.trans (k6.mono HK6.out.size)
      have k0 : Below w.heap.size w wx := HB2.out.trans (k2.mono HB2.out.size)
      have kb : ∀ g, w7.heap.size ≤ g → g < w8.heap.size → wx.heap[g]? = w8.heap[g]? := fun g h1 h2 => (hx.block g (by omega) (fun h => by have := (HS0.out g).1 h; omega)).trans (HB8b.out.block g h2)
      refine ⟨H3.out.kept k2 (Nat.le_refl _), H4.out.kept k2 (Nat.le_refl _), HX6.out.kept k6 (Nat.le_refl _), HV.out.kept k0 (Nat.le_refl _), (HES.out _ _ _ d8 (OwS.kept HO8.out (fun g hg h => kb g (OwS.own HO8.out hg) h))).1, (HEX.out _ _ _ d9 (OwX.kept HO9.out (fun g hg h => kb g (OwX.own HO9.out hg) h))).1, k0⟩
    have HK0 : Hid (Kg S0 w11 w11 (.slice b6 n1 d6) (.slice b7 n2 d7) n1 n2) := by
      have r6 : w11.ownsRow w6.heap.size 45 4 (.slice b6 n1 d6) l1.length (sgl l1) := OwS.kept HO6.out (fun g _ h => HB7b.out.block g h)
      have r7 : w11.ownsRow w6.heap.size 9 1 (.slice b7 n2 d7) l2.length (l2.map fun t => Value.string (ba t)) := OwX.kept HO7.out (fun g _ h => HB7b.out.block g h)
      rw [HN1.out] at r6
      rw [HN2.out] at r7
      refine ⟨⟨_, row_le9 r6 (Nat.zero_le _)⟩, ⟨_, row_le9 r7 (Nat.zero_le _)⟩, Ch.refl _ _, fun g hg => Or.inl ((HS0.out g).2 ?_), fun g hg => Or.inl ((HS0.out g).2 ?_)⟩
      · exact World.ownsRow.lt HO6.out g hg
      · exact World.ownsRow.lt HO7.out g hg
    clear sz HS0 hS0 HB8b HB7b HA HRG HGp HES HEX HRow HB1 H3 H4 HB2 HK6 HB6 HX6 HC6 HX7 HO6 HO7 HB7 HBw7 HX8 HO8 HO9 HB8 HE6 HE6b HE3 HB68 HB28 HB9 HE7 HE4 HB10 HB610 HEi HEt HB11 HB611 y0 y1 hg6 hg6l
    go_loopg [10] n1 (fun k i wr => ∃ j : Nat, j + k = n1 ∧ i = .int .i64 j ∧ Hid (Kg S0 w11 wr (.slice b6 n1 d6) (.slice b7 n2 d7) n1 n2))
    case atStart => exact ⟨0, by omega, rfl, HK0.out⟩
    case round =>
      clear HK0
      obtain ⟨j, hj, rfl, HK⟩ := hrel
      by_cases hlt : j < n1
      · exact absurd hlt (by omega)
      · have hltI : ¬ (j : Int) < n1 := by omega
        go_wp2_with fail
        go_loopg [11] n2 (fun k i wr => ∃ j : Nat, j + k = n2 ∧ i = .int .i64 j ∧ Hid (Kg S0 w11 wr (.slice b6 n1 d6) (.slice b7 n2 d7) n1 n2))
        case atStart => exact ⟨0, by omega, rfl, HK.out⟩
        case round =>
          clear HK
          obtain ⟨j2, hj2, rfl, HK⟩ := hrel
          by_cases hlt2 : j2 < n2
          · exact absurd hlt2 (by omega)
          · have hltI2 : ¬ (j2 : Int) < n2 := by omega
            go_wp2_with fail
            go_loopg [6, 7, 12] 9 (fun k va vx i wr => ∃ j : Nat, j + k = 9 ∧ i = .int .i64 j ∧ Hid (Kg S0 w11 wr va vx (n1 + j) (n2 + j)))
            case atStart => exact ⟨0, by omega, rfl, HK.out⟩
            case round =>
              clear HK
              obtain ⟨j3, hj3, rfl, HK⟩ := hrel
              by_cases hlt3 : j3 < 9
              · obtain ⟨k', rfl⟩ : ∃ k', gk = k' + 1 := ⟨gk - 1, by omega⟩
                have hltI3 : (j3 : Int) < 9 := by omega
                obtain ⟨xa, hoa⟩ := HK.out.a
                obtain ⟨aa, ca, rfl⟩ := HK.out.a.form
                obtain ⟨ax, cx, rfl⟩ := HK.out.x.form
                have HKa := hid (HK.out.later (bel_alloc wr (.cells #[.int .i64 0, .bool false, .bool false, .bool false] 45)))
                have HOa : Hid ((wr.alloc (.cells #[.int .i64 0, .bool false, .bool false, .bool false] 45)).ownsRow 0 45 4 (.slice aa (n1 + j3) ca) (n1 + j3) xa) := hoa.alloc _
                have HJ := hid hj3
                clear hoa hj3
                go_wp2_with (at_builtin; refine wpList_append_lies _ rfl _ _ 38 rfl 0 45 i0 (.agg #[.int .i64 0, .bool false, .bool false, .bool false]) 4 16 Tryd.underlying38 hi hz0 hz1 hz2 rfl (by decide) _ (n1 + j3) xa rfl HOa.out ⟨wr.heap.size, 0, none⟩ 1 1 (sgc sg0) rfl rfl ?na1 ?na2 ?na3 ?na4 ?na5 ?na6 _ rfl ?_)
                case na1 => exact World.news_of_block (heap_new wr _)
                case na2 => exact sgc_one _
                case na3 => omega
                case na4 => unfold maxLen; omega
                case na5 => omega
                case na6 => exact Nat.zero_le _
                intro gA capA wA hownA hgrowA hatA hltA
                have HK5 := hid (HKa.out.pushA hownA hgrowA (by rcases hatA with h | h; exact Or.inl h; exact Or.inr (by rw [h]; simp)))
                obtain ⟨xx, hox⟩ := HK5.out.x
                have HKb := hid (HK5.out.later (bel_alloc wA (.cells #[.string ⟨#[103, 114, 111, 119, 110]⟩] 9)))
                have HOx : Hid ((wA.alloc (.cells #[.string ⟨#[103, 114, 111, 119, 110]⟩] 9)).ownsRow 0 9 1 (.slice ax (n2 + j3) cx) (n2 + j3) xx) := hox.alloc _
                clear hox hownA hgrowA hatA hltA
                go_wp2_with (at_builtin; refine wpList_append_lies _ rfl _ _ 29 rfl 0 9 i1 (.string ⟨#[]⟩) 1 16 Tryd.underlying29 ji jz0 jz1 jz2 rfl (by decide) _ (n2 + j3) xx rfl HOx.out ⟨wA.heap.size, 0, none⟩ 1 1 [.string ⟨#[103, 114, 111, 119, 110]⟩] rfl rfl ?nx1 ?nx2 ?nx3 ?nx4 ?nx5 ?nx6 _ rfl ?_)
                case nx1 => exact World.news_of_block (heap_new wA _)
                case nx2 => intro u hu; rw [List.mem_singleton.1 hu]; rfl
                case nx3 => omega
                case nx4 => unfold maxLen; omega
                case nx5 => omega
                case nx6 => exact Nat.zero_le _
                intro gX capX wX hownX hgrowX hatX hltX
                have HK6b := hid (HKb.out.pushX hownX hgrowX (by rcases hatX with h | h; exact Or.inl h; exact Or.inr (by rw [h]; simp)))
                clear hownX hgrowX hatX hltX
                go_wp2_with fail
                go_roundg k'
                case measure => omega
                case rel => exact ⟨j3 + 1, by have := HJ.out; omega, congrArg (Value.int .i64) (by omega), HK6b.out⟩
              · have hltI3 : ¬ (j3 : Int) < 9 := by omega
                obtain ⟨p3, p4, p5, p6, p8, p9, _⟩ := HPr.out _ HK.out.ch
                have P3 := hid p3
                have P8 := hid p8
                clear p3 p4 p5 p6 p8 p9
                go_wp2_with (first | (go_at_call 16; refine (HSm.out _ _ _ _ _ P8.out P3.out).mono ?_; rintro e wa ⟨rfl, hba⟩; have HCa := hid (HK.out.ch.trans (Ch.of_below hba)); have P4 := hid (HPr.out _ HCa.out).2.1; have P9 := hid (HPr.out _ HCa.out).2.2.2.2.2.1; clear hba) | (go_at_call 17; with_reducible refine (HSx.out _ _ _ _ _ P9.out P4.out).mono ?_; rintro e wb ⟨rfl, hbb⟩; have HCb := hid (HCa.out.trans (Ch.of_below hbb)); have P5 := hid (HPr.out _ HCb.out).2.2.1; have P6 := hid (HPr.out _ HCb.out).2.2.2.1; clear hbb) | (go_at_call 17; with_reducible refine (HSt.out _ _ _ _ _ P5.out P6.out).mono ?_; rintro e wc ⟨rfl, hbc⟩; have HCc := hid (HCb.out.trans (Ch.of_below hbc)); clear hbc))
                go_ret
                exact ⟨rfl, (HPr.out _ HCc.out).2.2.2.2.2.2⟩
  | some ad =>
    go_wp2_with (first | (go_at_call 9; refine HA.out.mono ?_; rintro e w1 ⟨rfl, hb1⟩; have HB1 := hid hb1; clear hb1) | (go_at_call 14; refine (HRG.out _ HB1.out).mono ?_; rintro e w2 ⟨⟨a3, c3, a4, c4, rfl, hs3, hx4⟩, hb2⟩; have H3 := hid hs3; have H4 := hid hx4; have HB2 := hid hb2; clear hs3 hx4 hb2) | (at_builtin; refine wpList_append_own _ rfl _ _ 29 rfl w2.heap.size 9 i1 (.string ⟨#[]⟩) 1 16 Tryd.underlying29 ji jz0 jz1 jz2 rfl (by decide) _ 0 [] rfl ?q0 ad N cap (l.map Value.string) rfl ?q1 ?q2 ?q3 ?q4 ?q5 ?q6 ?_))
    case q0 => exact World.ownsRow_made w2 #[] 0 (Nat.le_refl _) (Nat.zero_le _) rfl
    case q1 => rw [List.length_map, HN.out, Nat.mul_one]
    case q2 => exact txs_cells HV.out _ (HB2.out.alloc HB2.out.size _)
    case q3 => exact strs_one l
    case q4 => unfold maxLen; omega
    case q5 => omega
    case q6 => simp
    intro v3 w3 hown hgrow hnil3
    have HK3 : Hid (Below w2.heap.size w2 w3) := ((Below.refl _ w2).alloc (Nat.le_refl _) _).grown hgrow (by simp) (by intro k hk; simp [Value.ownBlock] at hk; omega)
    have HO3 : Hid (w3.ownsRow w2.heap.size 9 1 v3 N (l.map Value.string)) := by refine hid ?_; simpa using hown
    clear hown hgrow hnil3
    obtain ⟨b3, d3, rfl⟩ : ∃ b3 d3, v3 = .slice b3 N d3 := by rcases HO3.out.2 with ⟨h1, h2⟩ | ⟨g, c, cur, h1, _⟩; exact ⟨none, 0, by rw [h1, h2]⟩; exact ⟨_, _, h1⟩
    go_wp2_with (at_builtin; refine wpList_append_lies _ rfl _ _ 29 rfl w2.heap.size 9 i1 (.string ⟨#[]⟩) 1 16 Tryd.underlying29 ji jz0 jz1 jz2 rfl (by decide) _ N (l.map Value.string) rfl ?qr0 ⟨w3.heap.size, 0, none⟩ 2 2 [.string ⟨#[98, 101, 104, 105, 110, 100]⟩, .string ⟨#[48, 48, 48, 48, 48, 48, 48, 48, 48, 48, 48, 48, 48, 48, 48, 48, 48, 48, 48, 55, 46, 111, 102, 102]⟩] rfl rfl ?qr1 ?qr2 ?qr3 ?qr4 ?qr5 ?qr6 _ rfl ?_)
    case qr0 => exact HO3.out.alloc _
    case qr1 => exact World.news_of_block (heap_new w3 _)
    case qr2 => exact (by intro u hu; simp only [List.mem_cons, List.not_mem_nil, or_false] at hu; rcases hu with rfl | rfl <;> rfl)
    case qr3 => omega
    case qr4 => unfold maxLen; omega
    case qr5 => omega
    case qr6 => have := HK3.out.size; simp; omega
    intro g6 c6 w6 hown6 hgrow6 hat6 hlt6
    have HK6 : Hid (Below w2.heap.size w2 w6) := (HK3.out.alloc HK3.out.size _).grown hgrow6 (by have := HK3.out.size; simp; omega) (fun k hk => (HO3.out.lt k hk).1)
    have HB6 : Hid (Below w.heap.size w w6) := HB2.out.trans (HK6.out.mono HB2.out.size)
    obtain ⟨hc6, hx6, hy6, hz6, hg6, hg6l⟩ := HRow.out _ _ _ _ hown6
    have HX6 := hid hx6
    have HC6 := hid (And.intro hy6 hz6)
    clear hown6 hgrow6 hat6 hlt6 hx6 hy6 hz6
    have HX7 : Hid (∀ wx, Below w6.heap.size w6 wx → Txs wx (some ⟨g6, 0, none⟩) l) := fun wx hx => HX6.out.kept hx (Nat.le_refl _)
    go_wp2_with (first | (go_at_call 15; with_reducible refine (HGp.out _ _ _ HB6.out HX6.out).mono ?_; rintro e w7 ⟨⟨b6, d6, b7, d7, rfl, ho6, ho7⟩, hb7⟩; have HO6 := hid ho6; have HO7 := hid ho7; have HB7 := hid hb7; have HBw7 := hid (HB6.out.trans (hb7.mono HB6.out.size)); have HX8 := hid (HX7.out _ hb7); clear ho6 ho7 hb7) | (go_at_call 15; with_reducible refine (HGp.out _ _ _ HBw7.out HX8.out).mono ?_; rintro e w8 ⟨⟨b8, d8, b9, d9, rfl, ho8, ho9⟩, hb8⟩; have HO8 := hid ho8; have HO9 := hid ho9; have HB8 := hid hb8; have hB68 := HB7.out.trans (hb8.mono HB7.out.size); have hB28 := HK6.out.trans (hB68.mono HK6.out.size); have HE6 := hid (HES.out _ _ _ _ HO6.out).1; have HE6b := hid (HE6.out.kept hb8 (Nat.le_refl _)); have HE3 := hid (H3.out.kept hB28 (Nat.le_refl _)); have HB68 := hid hB68; have HB28 := hid hB28; clear ho8 ho9 hb8 hB68 hB28) | (go_at_call 16; with_reducible refine (HSm.out _ _ _ _ _ HE6b.out HE3.out).mono ?_; rintro e w9 ⟨rfl, hb9⟩; have HB9 := hid hb9; have HE7 := hid ((HEX.out _ _ _ _ HO7.out).1.kept (HB8.out.trans (hb9.mono HB8.out.size)) (Nat.le_refl _)); have HE4 := hid (H4.out.kept (HB28.out.trans (hb9.mono HB28.out.size)) (Nat.le_refl _)); clear hb9) | (go_at_call 17; with_reducible refine (HSx.out _ _ _ _ _ HE7.out HE4.out).mono ?_; rintro e w10 ⟨rfl, hb10⟩; have HB10 := hid hb10; have HB610 := hid ((HB68.out.trans (HB9.out.mono HB68.out.size)).trans (hb10.mono (Nat.le_trans HB68.out.size HB9.out.size))); have HEi := hid (HX7.out _ HB610.out); have HEt := hid (HV.out.kept (HB6.out.trans (HB610.out.mono HB6.out.size)) (Nat.le_refl _)); clear hb10) | (go_at_call 17; with_reducible refine (HSt.out _ _ _ _ _ HEi.out HEt.out).mono ?_; rintro e w11 ⟨rfl, hb11⟩; have HB11 := hid hb11; have hB611 := HB610.out.trans (hb11.mono HB610.out.size); have y0 := (hB611.cell (p := ⟨g6, N, none⟩) hg6l).trans HC6.out.1; have y1 := (hB611.cell (p := ⟨g6, N + 1, none⟩) hg6l).trans HC6.out.2; have HB611 := hid hB611; clear hb11 hB611))
    have sz : Hid (w2.heap.size ≤ w6.heap.size ∧ w6.heap.size ≤ w7.heap.size ∧ w7.heap.size ≤ w8.heap.size ∧ w8.heap.size ≤ w11.heap.size ∧ w.heap.size ≤ w2.heap.size) := ⟨HK6.out.size, HB7.out.size, HB8.out.size, Nat.le_trans HB9.out.size (Nat.le_trans HB10.out.size HB11.out.size), HB2.out.size⟩
    obtain ⟨S0, hS0⟩ : ∃ S0 : Nat → Prop, S0 = fun i => w6.heap.size ≤ i ∧ i < w7.heap.size := ⟨_, rfl⟩
    have HS0 : Hid (∀ i, S0 i ↔ w6.heap.size ≤ i ∧ i < w7.heap.size) := fun i => by rw [hS0]
    have HB8b : Hid (Below w8.heap.size w8 w11) := (HB9.out.trans (HB10.out.mono HB9.out.size)).trans (HB11.out.mono (Nat.le_trans HB9.out.size HB10.out.size))
    have HB7b : Hid (Below w7.heap.size w7 w11) := HB8.out.trans (HB8b.out.mono HB8.out.size)
    have HPr : Hid (∀ wx, Ch S0 w11 wx → Sgs wx a3 l1 ∧ Txs wx a4 (l2.map ba) ∧ Txs wx (some ⟨g6, 0, none⟩) l ∧ Txs wx (some ad) l ∧ Sgs wx b8 l1 ∧ Txs wx b9 (l2.map ba) ∧ Below w.heap.size w wx) := fun wx hx => by
      have hs := sz.out
      have k6 : Below w6.heap.size w6 wx := HB611.out.trans (hx.below HB611.out.size (fun i hi h => by have := (HS0.out i).1 h; omega))
      have k2 : Below w2.heap.size w2 wx := HK6.out.trans (k6.mono HK6.out.size)
      have k0 : Below w.heap.size w wx := HB2.out.trans (k2.mono HB2.out.size)
      have kb : ∀ g, w7.heap.size ≤ g → g < w8.heap.size → wx.heap[g]? = w8.heap[g]? := fun g h1 h2 => (hx.block g (by omega) (fun h => by have := (HS0.out g).1 h; omega)).trans (HB8b.out.block g h2)
      refine ⟨H3.out.kept k2 (Nat.le_refl _), H4.out.kept k2 (Nat.le_refl _), HX6.out.kept k6 (Nat.le_refl _), HV.out.kept k0 (Nat.le_refl _), (HES.out _ _ _ d8 (OwS.kept HO8.out (fun g hg h => kb g (OwS.own HO8.out hg) h))).1, (HEX.out _ _ _ d9 (OwX.kept HO9.out (fun g hg h => kb g (OwX.own HO9.out hg) h))).1, k0⟩
    have HK0 : Hid (Kg S0 w11 w11 (.slice b6 n1 d6) (.slice b7 n2 d7) n1 n2) := by
      have r6 : w11.ownsRow w6.heap.size 45 4 (.slice b6 n1 d6) l1.length (sgl l1) := OwS.kept HO6.out (fun g _ h => HB7b.out.block g h)
      have r7 : w11.ownsRow w6.heap.size 9 1 (.slice b7 n2 d7) l2.length (l2.map fun t => Value.string (ba t)) := OwX.kept HO7.out (fun g _ h => HB7b.out.block g h)
      rw [HN1.out] at r6
      rw [HN2.out] at r7
      refine ⟨⟨_, row_le9 r6 (Nat.zero_le _)⟩, ⟨_, row_le9 r7 (Nat.zero_le _)⟩, Ch.refl _ _, fun g hg => Or.inl ((HS0.out g).2 ?_), fun g hg => Or.inl ((HS0.out g).2 ?_)⟩
      · exact World.ownsRow.lt HO6.out g hg
      · exact World.ownsRow.lt HO7.out g hg
    clear sz HS0 hS0 HB8b HB7b HA HRG HGp HES HEX HRow HB1 H3 H4 HB2 HK6 HB6 HX6 HC6 HX7 HO6 HO7 HB7 HBw7 HX8 HO8 HO9 HB8 HE6 HE6b HE3 HB68 HB28 HB9 HE7 HE4 HB10 HB610 HEi HEt HB11 HB611 y0 y1 hg6 hg6l
    go_loopg [10] n1 (fun k i wr => ∃ j : Nat, j + k = n1 ∧ i = .int .i64 j ∧ Hid (Kg S0 w11 wr (.slice b6 n1 d6) (.slice b7 n2 d7) n1 n2))
    case atStart => exact ⟨0, by omega, rfl, HK0.out⟩
    case round =>
      clear HK0
      obtain ⟨j, hj, rfl, HK⟩ := hrel
      by_cases hlt : j < n1
      · obtain ⟨k', rfl⟩ : ∃ k', gk = k' + 1 := ⟨gk - 1, by omega⟩
        have hltI : (j : Int) < n1 := by omega
        obtain ⟨g, c, hv, ho, hgl2, hcl⟩ := HK.out.a.cells (by omega)
        simp only [Value.slice.injEq, true_and] at hv
        obtain ⟨rfl, rfl⟩ := hv
        obtain ⟨⟨u0, q0⟩, f0⟩ := hcl (j * 4) (by omega)
        obtain ⟨⟨u1, q1⟩, f1⟩ := hcl (j * 4 + 1) (by omega)
        obtain ⟨⟨u2, q2⟩, f2⟩ := hcl (j * 4 + 2) (by omega)
        obtain ⟨⟨u3, q3⟩, f3⟩ := hcl (j * 4 + 3) (by omega)
        have HK2 := hid ((((HK.out.setA (j * 4) (.int .i64 (-7))).setA (j * 4 + 1) (.bool false)).setA (j * 4 + 2) (.bool false)).setA (j * 4 + 3) (.bool false))
        have HJ := hid hj
        clear hcl ho hj HK
        go_wp2_with fail
        go_roundg k'
        case measure => omega
        case rel => exact ⟨j + 1, by have := HJ.out; omega, congrArg (Value.int .i64) (by omega), HK2.out⟩
      · have hltI : ¬ (j : Int) < n1 := by omega
        go_wp2_with fail
        go_loopg [11] n2 (fun k i wr => ∃ j : Nat, j + k = n2 ∧ i = .int .i64 j ∧ Hid (Kg S0 w11 wr (.slice b6 n1 d6) (.slice b7 n2 d7) n1 n2))
        case atStart => exact ⟨0, by omega, rfl, HK.out⟩
        case round =>
          clear HK
          obtain ⟨j2, hj2, rfl, HK⟩ := hrel
          by_cases hlt2 : j2 < n2
          · obtain ⟨k', rfl⟩ : ∃ k', gk = k' + 1 := ⟨gk - 1, by omega⟩
            have hltI2 : (j2 : Int) < n2 := by omega
            obtain ⟨g, c, hv, ho, hgl2, hcl⟩ := HK.out.x.cells (by omega)
            simp only [Value.slice.injEq, true_and] at hv
            obtain ⟨rfl, rfl⟩ := hv
            obtain ⟨⟨u0, q0⟩, f0⟩ := hcl j2 (by omega)
            have HK2 := hid (HK.out.setX j2 (.string ⟨#[119, 114, 105, 116, 116, 101, 110, 32, 111, 118, 101, 114]⟩))
            have HJ := hid hj2
            clear hcl ho hj2 HK
            go_wp2_with fail
            go_roundg k'
            case measure => omega
            case rel => exact ⟨j2 + 1, by have := HJ.out; omega, congrArg (Value.int .i64) (by omega), HK2.out⟩
          · have hltI2 : ¬ (j2 : Int) < n2 := by omega
            go_wp2_with fail
            go_loopg [6, 7, 12] 9 (fun k va vx i wr => ∃ j : Nat, j + k = 9 ∧ i = .int .i64 j ∧ Hid (Kg S0 w11 wr va vx (n1 + j) (n2 + j)))
            case atStart => exact ⟨0, by omega, rfl, HK.out⟩
            case round =>
              clear HK
              obtain ⟨j3, hj3, rfl, HK⟩ := hrel
              by_cases hlt3 : j3 < 9
              · obtain ⟨k', rfl⟩ : ∃ k', gk = k' + 1 := ⟨gk - 1, by omega⟩
                have hltI3 : (j3 : Int) < 9 := by omega
                obtain ⟨xa, hoa⟩ := HK.out.a
                obtain ⟨aa, ca, rfl⟩ := HK.out.a.form
                obtain ⟨ax, cx, rfl⟩ := HK.out.x.form
                have HKa := hid (HK.out.later (bel_alloc wr (.cells #[.int .i64 0, .bool false, .bool false, .bool false] 45)))
                have HOa : Hid ((wr.alloc (.cells #[.int .i64 0, .bool false, .bool false, .bool false] 45)).ownsRow 0 45 4 (.slice aa (n1 + j3) ca) (n1 + j3) xa) := hoa.alloc _
                have HJ := hid hj3
                clear hoa hj3
                go_wp2_with (at_builtin; refine wpList_append_lies _ rfl _ _ 38 rfl 0 45 i0 (.agg #[.int .i64 0, .bool false, .bool false, .bool false]) 4 16 Tryd.underlying38 hi hz0 hz1 hz2 rfl (by decide) _ (n1 + j3) xa rfl HOa.out ⟨wr.heap.size, 0, none⟩ 1 1 (sgc sg0) rfl rfl ?ta1 ?ta2 ?ta3 ?ta4 ?ta5 ?ta6 _ rfl ?_)
                case ta1 => exact World.news_of_block (heap_new wr _)
                case ta2 => exact sgc_one _
                case ta3 => omega
                case ta4 => unfold maxLen; omega
                case ta5 => omega
                case ta6 => exact Nat.zero_le _
                intro gA capA wA hownA hgrowA hatA hltA
                have HK5 := hid (HKa.out.pushA hownA hgrowA (by rcases hatA with h | h; exact Or.inl h; exact Or.inr (by rw [h]; simp)))
                obtain ⟨xx, hox⟩ := HK5.out.x
                have HKb := hid (HK5.out.later (bel_alloc wA (.cells #[.string ⟨#[103, 114, 111, 119, 110]⟩] 9)))
                have HOx : Hid ((wA.alloc (.cells #[.string ⟨#[103, 114, 111, 119, 110]⟩] 9)).ownsRow 0 9 1 (.slice ax (n2 + j3) cx) (n2 + j3) xx) := hox.alloc _
                clear hox hownA hgrowA hatA hltA
                go_wp2_with (at_builtin; refine wpList_append_lies _ rfl _ _ 29 rfl 0 9 i1 (.string ⟨#[]⟩) 1 16 Tryd.underlying29 ji jz0 jz1 jz2 rfl (by decide) _ (n2 + j3) xx rfl HOx.out ⟨wA.heap.size, 0, none⟩ 1 1 [.string ⟨#[103, 114, 111, 119, 110]⟩] rfl rfl ?tx1 ?tx2 ?tx3 ?tx4 ?tx5 ?tx6 _ rfl ?_)
                case tx1 => exact World.news_of_block (heap_new wA _)
                case tx2 => intro u hu; rw [List.mem_singleton.1 hu]; rfl
                case tx3 => omega
                case tx4 => unfold maxLen; omega
                case tx5 => omega
                case tx6 => exact Nat.zero_le _
                intro gX capX wX hownX hgrowX hatX hltX
                have HK6b := hid (HKb.out.pushX hownX hgrowX (by rcases hatX with h | h; exact Or.inl h; exact Or.inr (by rw [h]; simp)))
                clear hownX hgrowX hatX hltX
                go_wp2_with fail
                go_roundg k'
                case measure => omega
                case rel => exact ⟨j3 + 1, by have := HJ.out; omega, congrArg (Value.int .i64) (by omega), HK6b.out⟩
              · have hltI3 : ¬ (j3 : Int) < 9 := by omega
                obtain ⟨p3, p4, p5, p6, p8, p9, _⟩ := HPr.out _ HK.out.ch
                have P3 := hid p3
                have P8 := hid p8
                clear p3 p4 p5 p6 p8 p9
                go_wp2_with (first | (go_at_call 16; refine (HSm.out _ _ _ _ _ P8.out P3.out).mono ?_; rintro e wa ⟨rfl, hba⟩; have HCa := hid (HK.out.ch.trans (Ch.of_below hba)); have P4 := hid (HPr.out _ HCa.out).2.1; have P9 := hid (HPr.out _ HCa.out).2.2.2.2.2.1; clear hba) | (go_at_call 17; with_reducible refine (HSx.out _ _ _ _ _ P9.out P4.out).mono ?_; rintro e wb ⟨rfl, hbb⟩; have HCb := hid (HCa.out.trans (Ch.of_below hbb)); have P5 := hid (HPr.out _ HCb.out).2.2.1; have P6 := hid (HPr.out _ HCb.out).2.2.2.1; clear hbb) | (go_at_call 17; with_reducible refine (HSt.out _ _ _ _ _ P5.out P6.out).mono ?_; rintro e wc ⟨rfl, hbc⟩; have HCc := hid (HCb.out.trans (Ch.of_below hbc)); clear hbc))
                go_ret
                exact ⟨rfl, (HPr.out _ HCc.out).2.2.2.2.2.2⟩
end Go.Proofs.YtgffipkbbenddaaDoor
