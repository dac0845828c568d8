/- OffidxKeeps: its walk. -/
import Derived.Test.YtldfbddccmnchaaKep
namespace Go.Proofs.Ytldfbddccmnchaa
open Go.RowKit
set_option maxRecDepth 20000 in
set_option maxHeartbeats 4000000 in
theorem keeps_walk (l0 : List En) (a : Option Addr) (cap : Nat) (w : World) (hv : Ens w a l0) (hn : l0.length ≤ 8796093021952) (hok : ∀ y ∈ l0, EnOk y) :
    Calls Try.prog 7 #[.slice a l0.length cap] w fun e w' => e = .returned (.bool true) ∧ Below w.heap.size w w' := by
  have HF := hid (fixed_any w)
  have HBu : Hid (∀ wx, Below w.heap.size w wx → Calls Try.prog 23 #[.slice a l0.length cap] wx (BuiltP wx (bld l0))) := fun wx hx => built_any l0 a cap wx (hv.kept hx (Nat.le_refl _)) (by omega)
  have hL : (bld l0).length ≤ 8796093021952 := Nat.le_trans (bld_len l0) hn
  have HOK := hid (bld_ok hok)
  generalize bld l0 = L at *
  generalize l0.length = N0 at *
  have HBy : Hid (∀ wx p v, Ip wx p v L → Calls Try.prog 26 #[.pointer p] wx fun e w' => e = .returned (.string (bs (eby L))) ∧ Below wx.heap.size wx w') := fun wx p v h => ibytes_any p v L wx h (by omega)
  have hbz : (bs (eby L)).size = L.length * 16 := by rw [bs_size, eby_len]
  have HRd : Hid (∀ wx, Calls Try.prog 19 #[.string (bs (eby L))] wx fun e w' => (∃ a c, e = .returned (.tuple #[.slice a L.length c, .int .i64 0]) ∧ OwE w' wx.heap.size (.slice a L.length c) L) ∧ Below wx.heap.size wx w') := fun wx => by
    have h1 := read_ok (bs (eby L)) wx (by omega) (by omega)
    rw [bl_bs _ (eby_byte _), rdE_eby L HOK.out] at h1
    exact h1.mono fun e w' ⟨⟨v', h1, h2⟩, h3⟩ => ⟨by obtain ⟨a, c, rfl, h5⟩ := h2.ens; exact ⟨a, c, h1, h2⟩, h3⟩
  have HEn : Hid (∀ wx p v, Ip wx p v L → Calls Try.prog 27 #[.pointer p] wx fun e w' => (∃ a c, e = .returned (.slice a L.length c) ∧ OwE w' wx.heap.size (.slice a L.length c) L) ∧ Below wx.heap.size wx w') := fun wx p v h => (entries_any p v L wx h (by omega)).mono fun e w' ⟨⟨v', h1, h2⟩, h3⟩ => ⟨by obtain ⟨a, c, rfl, h5⟩ := h2.ens; exact ⟨a, c, h1, h2⟩, h3⟩
  have HSm : Hid (∀ wx a b ca cb, Ens wx a L → Ens wx b L → Calls Try.prog 18 #[.slice a L.length ca, .slice b L.length cb] wx fun e w' => e = .returned (.bool true) ∧ Below wx.heap.size wx w') := fun wx a b ca cb h1 h2 => same_yes L a b ca cb wx h1 h2 (by omega)
  have HES : Hid (∀ wx B a c, OwE wx B (.slice a L.length c) L → Ens wx a L) := fun wx B a c h => by
    obtain ⟨a', c', h1, h2⟩ := h.ens
    injection h1 with h1
    rw [h1]
    exact h2
  obtain ⟨N, hN⟩ : ∃ N, L.length = N := ⟨_, rfl⟩
  have HN := hid hN
  rw [hN] at hL hbz HEn HSm HRd HES
  clear hv hok hN hbz
  generalize bs (eby L) = S at *
  obtain ⟨i0, hi, hz0, hz1, hz2⟩ := info_parts Try.infoE
  go_enter Try.func7, Try.ntmps7
  go_wp2_with (first | (go_at_call 9; refine HF.out.mono ?_; rintro e w1 ⟨rfl, hb1⟩; have HB1 := hid hb1; clear hb1) | (go_at_call 23; refine (HBu.out _ HB1.out).mono ?_; rintro e w2 ⟨x, v, vr, rfl, hbw⟩; obtain ⟨n9, x9, c9, hn9, rfl, hens⟩ := hbw.ro.ensN; obtain rfl : n9 = N := (by rw [hn9, HN.out]); have HW := hid hbw; have HP2 := hid hbw.io.ip; clear hn9 hbw hens) | (go_at_call 27; with_reducible refine (HEn.out _ _ _ HP2.out).mono ?_; rintro e w3 ⟨⟨a3, c3, rfl, ho3⟩, hb3⟩; have HO3 := hid ho3; have HB3 := hid hb3; have HP3 := hid (HP2.out.below hb3); clear ho3 hb3) | (go_at_call 27; with_reducible refine (HEn.out _ _ _ HP3.out).mono ?_; rintro e w4 ⟨⟨a4, c4, rfl, ho4⟩, hb4⟩; have HO4 := hid ho4; have HB4 := hid hb4; have HP4 := hid (HP3.out.below hb4); clear ho4 hb4) | (go_at_call 26; refine (HBy.out _ _ _ HP4.out).mono ?_; rintro e w5 ⟨rfl, hb5⟩; have HB5 := hid hb5; clear hb5) | (go_at_call 19; refine (HRd.out _).mono ?_; rintro e w6 ⟨⟨a6, c6, rfl, ho6⟩, hb6⟩; have HO6 := hid ho6; have HB6 := hid hb6; have HBx := hid ((HB4.out.trans (HB5.out.mono HB4.out.size)).trans (hb6.mono (Nat.le_trans HB4.out.size HB5.out.size))); have HE3 := hid (HES.out _ _ _ _ (HO3.out.keep fun g _ hg => HBx.out.block g hg)); have HEr := hid (HES.out _ _ _ _ (HW.out.ro.keep fun g _ hg => (HB3.out.trans (HBx.out.mono HB3.out.size)).block g hg)); have HE6 := hid (HES.out _ _ _ _ ho6); clear ho6 hb6) | (go_at_call 18; with_reducible refine (HSm.out _ _ _ _ _ HE3.out HEr.out).mono ?_; rintro e w7 ⟨rfl, hb7⟩; have HB7 := hid hb7; have HE6' := hid (HE6.out.kept hb7 (Nat.le_refl _)); have HEr' := hid (HEr.out.kept hb7 (Nat.le_refl _)); clear hb7) | (go_at_call 18; with_reducible refine (HSm.out _ _ _ _ _ HE6'.out HEr'.out).mono ?_; rintro e w8 ⟨rfl, hb8⟩; have HB8 := hid hb8; clear hb8))
  obtain ⟨S0, hS0⟩ : ∃ S0 : Nat → Prop, S0 = fun i => (Value.slice a3 n9 c3).ownBlock = some i ∨ (Value.slice a6 n9 c6).ownBlock = some i := ⟨_, rfl⟩
  have HS0 : Hid (∀ i, S0 i → (w2.heap.size ≤ i ∧ i < w3.heap.size) ∨ w5.heap.size ≤ i) := fun i hi => by
    rw [hS0] at hi
    rcases hi with h | h
    · exact Or.inl (HO3.out.own h)
    · exact Or.inr (HO6.out.own h).1
  have s34 : Hid (w3.heap.size ≤ w4.heap.size ∧ w4.heap.size ≤ w5.heap.size ∧ w5.heap.size ≤ w6.heap.size ∧ w6.heap.size ≤ w7.heap.size ∧ w7.heap.size ≤ w8.heap.size ∧ w2.heap.size ≤ w3.heap.size) := ⟨HB4.out.size, HB5.out.size, HB6.out.size, HB7.out.size, HB8.out.size, HB3.out.size⟩
  have HB68 : Hid (Below w6.heap.size w6 w8) := HB7.out.trans (HB8.out.mono HB7.out.size)
  have HB38 : Hid (Below w3.heap.size w3 w8) := HBx.out.trans (HB68.out.mono HBx.out.size)
  have HB28 : Hid (Below w2.heap.size w2 w8) := HB3.out.trans (HB38.out.mono HB3.out.size)
  have HB48 : Hid (Below w4.heap.size w4 w8) := (HB5.out.trans (HB6.out.mono HB5.out.size)).trans (HB68.out.mono (Nat.le_trans HB5.out.size HB6.out.size))
  have HBw2 : Hid (Below w.heap.size w w2) := HB1.out.trans (HW.out.bel.mono HB1.out.size)
  have HBw8 : Hid (Below w.heap.size w w8) := HBw2.out.trans (HB28.out.mono HBw2.out.size)
  have HO8 : Hid (OwE w8 w3.heap.size (.slice a4 n9 c4) L) := HO4.out.keep fun g _ hg => HB48.out.block g hg
  have HR8 : Hid (OwE w8 0 (.slice x9 n9 c9) L) := (HW.out.ro.low (Nat.zero_le _)).keep fun g _ hg => HB28.out.block g hg
  have HPr : Hid (∀ wx, Ch S0 w8 wx → Ens wx a4 L ∧ Ens wx x9 L ∧ Ip wx (some ⟨x, 0, none⟩) v L ∧ Below w.heap.size w wx) := fun wx hx => by
    have hs := s34.out
    refine ⟨HES.out _ _ _ c4 (HO8.out.ch hx fun i hi hs0 => ?_), HES.out _ _ _ c9 (HR8.out.ch hx fun i hi hs0 => ?_), Or.inl ⟨x, rfl, ((HW.out.io.ix.below HB28.out).ch hx fun i hi hs0 => ?_)⟩, HBw8.out.trans (hx.below HBw8.out.size fun i hi hs0 => ?_)⟩
    · have h1 := HO8.out.own hi
      have h2 : i < w4.heap.size := (HO4.out.own hi).2
      rcases HS0.out i hs0 with h | h <;> omega
    · have h1 := (HW.out.ro.own hi).2
      rcases HS0.out i hs0 with h | h <;> omega
    · have h1 := HW.out.io.ix.lt i hi
      rcases HS0.out i hs0 with h | h <;> omega
    · have := HBw2.out.size
      rcases HS0.out i hs0 with h | h <;> omega
  have HK0 : Hid (Kw S0 w8 w8 (.slice a3 n9 c3) (.slice a6 n9 c6) n9 n9) := by
    have hs := s34.out
    refine ⟨⟨L, HN.out, (HO3.out.low (Nat.zero_le _)).keep fun g _ hg => HB38.out.block g hg⟩, ⟨L, HN.out, (HO6.out.low (Nat.zero_le _)).keep fun g _ hg => HB68.out.block g hg⟩, fun g h1 h2 => ?_, Ch.refl _ _, fun g hg => Or.inl (by rw [hS0]; exact Or.inl hg), fun g hg => Or.inl (by rw [hS0]; exact Or.inr hg)⟩
    have h3 := (HO3.out.own h1).2
    have h4 := (HO6.out.own h2).1
    omega
  have HEn9 : Hid (∀ wx, Ch S0 w8 wx → Calls Try.prog 27 #[.pointer (some ⟨x, 0, none⟩)] wx fun e w' => (∃ a c, e = .returned (.slice a n9 c) ∧ Ens w' a L) ∧ Below wx.heap.size wx w') := fun wx hx => (HEn.out wx _ v (HPr.out wx hx).2.2.1).mono fun e w' ⟨⟨a, c, h1, h2⟩, h3⟩ => ⟨⟨a, c, h1, HES.out _ _ _ _ h2⟩, h3⟩
  clear HS0 s34 HB68 HB38 HB28 HB48 HBw2 HBw8 HO8 HR8 hS0 HF HBu HBy HRd HEn HES HW HP2 HO3 HB3 HP3 HO4 HB4 HP4 HB5 HO6 HB6 HBx HE3 HEr HE6 HB7 HE6' HEr' HB8 HOK HB1
  go_loopg [10] n9 (fun k i wr => ∃ j : Nat, j + k = n9 ∧ i = .int .i64 j ∧ Hid (Kw S0 w8 wr (.slice a3 n9 c3) (.slice a6 n9 c6) n9 n9))
  case atStart => exact ⟨0, by omega, rfl, HK0.out⟩
  case round =>
    clear HK0
    obtain ⟨j, hj, rfl, HK⟩ := hrel
    by_cases hlt : j < n9
    · obtain ⟨k', rfl⟩ : ∃ k', gk = k' + 1 := ⟨gk - 1, by omega⟩
      have hltI : (j : Int) < n9 := by omega
      obtain ⟨ga, ca, e1, ⟨p1, q1, y1, y2⟩, y3, y4, y5, hK1⟩ := HK.out.set hlt
      obtain ⟨gm, cm, e2, ⟨p2, q2, z1, z2⟩, z3, z4, z5, _⟩ := HK.out.swap.set hlt
      obtain ⟨gm', cm', e3, _, _, _, _, hK2⟩ := (hK1 (-1) 0).swap.set hlt
      have hne : ga ≠ gm := fun e => HK.out.ap ga (by rw [e1]; rfl) (by rw [e2, e]; rfl)
      have hne' : gm ≠ ga := fun e => hne e.symm
      simp only [Value.slice.injEq, true_and] at e1 e2 e3
      obtain ⟨rfl, rfl⟩ := e1
      obtain ⟨rfl, rfl⟩ := e2
      obtain ⟨e3, _⟩ := e3
      simp only [Option.some.injEq, Addr.mk.injEq, and_true] at e3
      subst e3
      have HK2 := hid (hK2 (-2) 0).swap
      have HJ := hid hj
      clear hK1 hK2 hj HK
      go_wp2_with fail
      go_roundg k'
      case measure => omega
      case rel => exact ⟨j + 1, by have := HJ.out; omega, congrArg (Value.int .i64) (by omega), HK2.out⟩
    · have hltI : ¬ (j : Int) < n9 := by omega
      go_wp2_with fail
      go_loopg [6, 8, 11] 16 (fun k va vm i wr => ∃ j : Nat, j + k = 16 ∧ i = .int .i64 j ∧ Hid (Kw S0 w8 wr va vm (n9 + j) (n9 + j)))
      case atStart => exact ⟨0, by omega, rfl, HK.out⟩
      case round =>
        clear HK
        obtain ⟨j2, hj2, rfl, HK⟩ := hrel
        by_cases hlt2 : j2 < 16
        · obtain ⟨k', rfl⟩ : ∃ k', gk = k' + 1 := ⟨gk - 1, by omega⟩
          have hltI2 : (j2 : Int) < 16 := by omega
          obtain ⟨la, hla, hoa⟩ := HK.out.a
          obtain ⟨aa, ca, rfl⟩ := HK.out.a.form
          obtain ⟨am, cm, rfl⟩ := HK.out.m.form
          have HKa := hid (HK.out.later ((Below.refl _ _).alloc (Nat.le_refl _) (.cells #[.int .i64 (-3), .int .i64 0] 30)))
          have HOa : Hid ((wr.alloc (.cells #[.int .i64 (-3), .int .i64 0] 30)).ownsRow 0 30 2 (.slice aa (n9 + j2) ca) (n9 + j2) (ecs la)) := by
            have := hoa.keep (w' := wr.alloc (.cells #[.int .i64 (-3), .int .i64 0] 30)) fun g _ hg => Below.heap_alloc _ _ g hg
            unfold OwE at this
            rw [hla] at this
            exact this
          have HLA := hid hla
          have HJ := hid hj2
          clear hla hoa hj2
          go_wp2_with (at_builtin; refine wpList_append_lies _ rfl _ _ 35 rfl 0 30 i0 (.agg #[.int .i64 0, .int .i64 0]) 2 16 Try.underlying35 hi hz0 hz1 hz2 rfl (by decide) _ (n9 + j2) (ecs la) rfl HOa.out ⟨wr.heap.size, 0, none⟩ 1 1 (enc ⟨-3, 0⟩) rfl rfl ?c1 ?c2 ?c3 ?c4 ?c5 ?c6 _ rfl ?_)
          case c1 => exact World.news_of_block (heap_new wr _)
          case c2 => exact enc_one _
          case c3 => omega
          case c4 => unfold maxLen; omega
          case c5 => omega
          case c6 => exact Nat.zero_le _
          intro g cap3 w5 hown hgrow hat hlt5
          have HK5 := hid (HKa.out.push (e := ⟨-3, 0⟩) HLA.out hown hgrow (by rcases hat with h | h; exact Or.inl h; exact Or.inr (by rw [h]; simp)))
          obtain ⟨lm, hlm, hom⟩ := HK5.out.m
          have HKb := hid (HK5.out.later ((Below.refl _ _).alloc (Nat.le_refl _) (.cells #[.int .i64 (-4), .int .i64 0] 30)))
          have HOm : Hid ((w5.alloc (.cells #[.int .i64 (-4), .int .i64 0] 30)).ownsRow 0 30 2 (.slice am (n9 + j2) cm) (n9 + j2) (ecs lm)) := by
            have := hom.keep (w' := w5.alloc (.cells #[.int .i64 (-4), .int .i64 0] 30)) fun g _ hg => Below.heap_alloc _ _ g hg
            unfold OwE at this
            rw [hlm] at this
            exact this
          have HLM := hid hlm
          clear hlm hom hown hgrow hat hlt5
          go_wp2_with (at_builtin; refine wpList_append_lies _ rfl _ _ 35 rfl 0 30 i0 (.agg #[.int .i64 0, .int .i64 0]) 2 16 Try.underlying35 hi hz0 hz1 hz2 rfl (by decide) _ (n9 + j2) (ecs lm) rfl HOm.out ⟨w5.heap.size, 0, none⟩ 1 1 (enc ⟨-4, 0⟩) rfl rfl ?c1 ?c2 ?c3 ?c4 ?c5 ?c6 _ rfl ?_)
          case c1 => exact World.news_of_block (heap_new w5 _)
          case c2 => exact enc_one _
          case c3 => omega
          case c4 => unfold maxLen; omega
          case c5 => omega
          case c6 => exact Nat.zero_le _
          intro g4 cap4 w6 hown hgrow hat hlt5
          have HK6 := hid (HKb.out.swap.push (e := ⟨-4, 0⟩) HLM.out hown hgrow (by rcases hat with h | h; exact Or.inl h; exact Or.inr (by rw [h]; simp))).swap
          clear hown hgrow hat hlt5
          go_wp2_with fail
          go_roundg k'
          case measure => omega
          case rel => exact ⟨j2 + 1, by have := HJ.out; omega, congrArg (Value.int .i64) (by omega), HK6.out⟩
        · have hltI2 : ¬ (j2 : Int) < 16 := by omega
          obtain ⟨hE4, hEx, _, _⟩ := HPr.out _ HK.out.ch
          have HE4 := hid hE4
          have HEx := hid hEx
          clear hE4 hEx
          go_wp2_with (first | (go_at_call 18; with_reducible refine (HSm.out _ _ _ _ _ HE4.out HEx.out).mono ?_; rintro e wa ⟨rfl, hba⟩; have HCa := hid (HK.out.ch.trans (Ch.of_below hba)); clear hba) | (go_at_call 27; refine (HEn9.out _ HCa.out).mono ?_; rintro e wb ⟨⟨ab, cb, rfl, heb⟩, hbb⟩; have HEb := hid heb; have HCb := hid (HCa.out.trans (Ch.of_below hbb)); have HEx2 := hid (HPr.out _ HCb.out).2.1; clear heb hbb) | (go_at_call 18; with_reducible refine (HSm.out _ _ _ _ _ HEb.out HEx2.out).mono ?_; rintro e wc ⟨rfl, hbc⟩; have HCc := hid (HCb.out.trans (Ch.of_below hbc)); clear hbc))
          go_ret
          exact ⟨rfl, (HPr.out _ HCc.out).2.2.2⟩
end Go.Proofs.Ytldfbddccmnchaa
