/- OffidxBytes: its walk. -/
import Derived.Test.YtldfbddccmnchaaOrl
import Derived.Test.YtldfbddccmnchaaEOpen
namespace Go.Proofs.Ytldfbddccmnchaa
open Go.RowKit
/-- A row of texts where it lies. -/
def Txs (w : World) (a : Option Addr) (l : List ByteArray) : Prop := l = [] ∨ ∃ b off, a = some ⟨b, off, none⟩ ∧ b < w.heap.size ∧ ∀ j, j < l.length → w.cell? ⟨b, off + j, none⟩ = some (.string (l.getD j ByteArray.empty))
theorem getD_txt {l : List ByteArray} {j : Nat} (h : j < l.length) : l.getD j ByteArray.empty ∈ l := by
  rw [List.getD_eq_getElem?_getD, List.getElem?_eq_getElem h]
  exact List.getElem_mem _
/-- What the four calls answer of a text. -/
theorem gRead (t : ByteArray) (h : t.size % 16 = 0) (hs : t.size ≤ 140737488351232) (wx : World) : Calls Try.prog 19 #[.string t] wx fun e w' => (∃ a c, e = .returned (.tuple #[.slice a (rdE (bl t)).length c, .int .i64 0]) ∧ Ens w' a (rdE (bl t))) ∧ Below wx.heap.size wx w' := (read_ok t wx h (by omega)).mono fun e w' ⟨⟨v', h1, h2⟩, h3⟩ => ⟨by obtain ⟨a, c, rfl, h5⟩ := h2.ens; exact ⟨a, c, h1, h5⟩, h3⟩
theorem gRRead (t : ByteArray) (h : t.size % 16 = 0) (hs : t.size ≤ 140737488351232) (wx : World) : Calls Try.prog 20 #[.string t] wx fun e w' => (∃ a c, e = .returned (.tuple #[.slice a (rdE (bl t)).length c, .int .i64 0]) ∧ Ens w' a (rdE (bl t))) ∧ Below wx.heap.size wx w' := (rread_ok t wx h (by omega)).mono fun e w' ⟨⟨v', h1, h2⟩, h3⟩ => ⟨by obtain ⟨a, c, rfl, h5⟩ := h2.ens; exact ⟨a, c, h1, h5⟩, h3⟩
theorem gLoadT (t : ByteArray) (h : t.size % 16 = 0) (hs : t.size ≤ 140737488351232) (hf : allFit [] (rdE (bl t)) = true) (wx : World) : Calls Try.prog 21 #[.string t] wx fun e w' => (∃ x v, e = .returned (.tuple #[.pointer (some ⟨x, 0, none⟩), .int .i64 0]) ∧ Ip w' (some ⟨x, 0, none⟩) v (rdE (bl t))) ∧ Below wx.heap.size wx w' := (load_ok t wx h (by omega)).mono fun e w' ⟨h2, h3⟩ => ⟨(by rcases h2 with ⟨_, x, v, h4, h5⟩ | ⟨h4, _⟩; exact ⟨x, v, h4, h5.ip⟩; rw [hf] at h4; cases h4), h3⟩
theorem gLoadF (t : ByteArray) (h : t.size % 16 = 0) (hs : t.size ≤ 140737488351232) (hf : allFit [] (rdE (bl t)) = false) (wx : World) : Calls Try.prog 21 #[.string t] wx fun e w' => e = .returned (.tuple #[.pointer none, .int .i64 30]) ∧ Below wx.heap.size wx w' := (load_ok t wx h (by omega)).mono fun e w' ⟨h2, h3⟩ => ⟨(by rcases h2 with ⟨h4, _⟩ | ⟨_, h4⟩; rw [hf] at h4; cases h4; exact h4), h3⟩
theorem gRLoadT (t : ByteArray) (h : t.size % 16 = 0) (hs : t.size ≤ 140737488351232) (hf : allFit [] (rdE (bl t)) = true) (wx : World) : Calls Try.prog 22 #[.string t] wx fun e w' => (∃ y v, e = .returned (.tuple #[.pointer (some ⟨y, 0, none⟩), .int .i64 0]) ∧ Ix 68 w' y v (rdE (bl t))) ∧ Below wx.heap.size wx w' := (rload_ok t wx h (by omega)).mono fun e w' ⟨h2, h3⟩ => ⟨(by rcases h2 with ⟨_, y, v, h4, h5, _⟩ | ⟨h4, _⟩; exact ⟨y, v, h4, h5⟩; rw [hf] at h4; cases h4), h3⟩
theorem gRLoadF (t : ByteArray) (h : t.size % 16 = 0) (hs : t.size ≤ 140737488351232) (hf : allFit [] (rdE (bl t)) = false) (wx : World) : Calls Try.prog 22 #[.string t] wx fun e w' => e = .returned (.tuple #[.pointer none, .int .i64 30]) ∧ Below wx.heap.size wx w' := (rload_ok t wx h (by omega)).mono fun e w' ⟨h2, h3⟩ => ⟨(by rcases h2 with ⟨h4, _⟩ | ⟨_, h4⟩; rw [hf] at h4; cases h4; exact h4), h3⟩
theorem nilSame (wx : World) : Calls Try.prog 18 #[.slice none 0 0, .slice none 0 0] wx fun e w' => e = .returned (.bool true) ∧ Below wx.heap.size wx w' := same_yes [] none none 0 0 wx (Or.inl rfl) (Or.inl rfl) (by simp)
set_option maxRecDepth 20000 in
set_option maxHeartbeats 8000000 in
theorem bytes_walk (l0 : List En) (a : Option Addr) (cap : Nat) (ts : List ByteArray) (ta : Option Addr) (tc : Nat) (w : World) (hv : Ens w a l0) (hn : l0.length ≤ 8796093021952) (hnil : a = none → cap = 0) (ht : Txs w ta ts) (htn : ts.length ≤ 9223372036854775806) (htz : ∀ t ∈ ts, t.size ≤ 140737488351232) :
    Calls Try.prog 4 #[.slice a l0.length cap, .slice ta ts.length tc] w fun e w' => e = .returned (.bool true) ∧ Below w.heap.size w w' := by
  obtain ⟨i0, hi, hz0, hz1, hz2⟩ := info_parts Try.infoE
  have HF := hid (fixed_any w)
  have HV := hid hv
  have HT := hid ht
  have HTZ := hid htz
  have HNL := hid hnil
  have HP1 : Hid (∀ wx a c, Ens wx a l0 → Calls Try.prog 16 #[.slice a l0.length c] wx fun e w' => e = .returned (.string (bs (eby l0))) ∧ Below wx.heap.size wx w') := fun wx a c h => put_any l0 a c wx h (by omega)
  have HP2 : Hid (∀ wx a c, Ens wx a l0 → Calls Try.prog 17 #[.slice a l0.length c] wx fun e w' => e = .returned (.string (bs (eby l0))) ∧ Below wx.heap.size wx w') := fun wx a c h => rput_any l0 a c wx h (by omega)
  have HSm : Hid (∀ wx a b ca cb, Ens wx a l0 → Ens wx b l0 → Calls Try.prog 18 #[.slice a l0.length ca, .slice b l0.length cb] wx fun e w' => e = .returned (.bool true) ∧ Below wx.heap.size wx w') := fun wx a b ca cb h1 h2 => same_yes l0 a b ca cb wx h1 h2 (by omega)
  have HSS : Hid ((bs (eby l0)).size % 16 = 0 ∧ (bs (eby l0)).size ≤ 140737488351232) := by
    have : (bs (eby l0)).size = l0.length * 16 := by rw [bs_size, eby_len]
    show _ ∧ _
    omega
  generalize bs (eby l0) = S at *
  obtain ⟨N, hN⟩ : ∃ N, l0.length = N := ⟨_, rfl⟩
  have HN := hid hN
  obtain ⟨M, hM⟩ : ∃ M, ts.length = M := ⟨_, rfl⟩
  have HM := hid hM
  rw [hN] at hn HP1 HP2 HSm ⊢
  rw [hM] at htn ⊢
  -- the round's calls, for a text of the given kind
  have HRow : Hid (∀ (w5 : World) (g c5 : Nat), w5.ownsRow w.heap.size 30 2 (.slice (some ⟨g, 0, none⟩) (N + 1) c5) (N + 1) (ecs l0 ++ enc ⟨-7, 0⟩) → (N : Int) ≤ c5 ∧ (∀ wx, Below w5.heap.size w5 wx → Ens wx (some ⟨g, 0, none⟩) l0) ∧ (∀ wx, Below w5.heap.size w5 wx → wx.cell? ⟨g, N * 2, none⟩ = some (.int .i64 (-7)))) := fun w5 g c5 ho => by
    have ho' : OwE w5 w.heap.size (.slice (some ⟨g, 0, none⟩) (l0 ++ [(⟨-7, 0⟩ : En)]).length c5) (l0 ++ [(⟨-7, 0⟩ : En)]) := by
      unfold OwE
      rw [List.length_append, ecs_snoc, HN.out]
      exact ho
    refine ⟨?_, fun wx hx => ?_, fun wx hx => ?_⟩
    · rcases ho.2 with ⟨h1, _⟩ | ⟨g', cap', cur, hv', _, _, h5, _⟩
      · cases h1
      · cases hv'; omega
    · have h1 := ho'.cut (n := l0.length) (by simp)
      rw [List.take_left] at h1
      obtain ⟨a', c', e, h2⟩ := h1.ens
      injection e with e
      rw [e]
      exact h2.kept hx (Nat.le_refl _)
    · have h1 := ho.cellAt (N * 2) (by omega)
      rw [List.getElem?_append_right (by rw [ecs_len, HN.out]; omega), ecs_len, HN.out, Nat.sub_self] at h1
      exact (hx.cell (p := ⟨g, N * 2, none⟩) (World.block_lt_of_cell? _ _ h1)).trans h1
  clear hv ht htz hnil hN hM
  go_enter Try.func4, Try.ntmps4
  cases a with
  | none =>
    have hN0 : N = 0 := by rw [← HN.out]; rcases HV.out with h | ⟨b, off, h, _⟩; rw [h]; rfl; cases h
    have hc0 := HNL.out rfl
    subst hN0
    subst hc0
    go_wp2_with (first | (go_at_call 9; refine HF.out.mono ?_; rintro e w1 ⟨rfl, hb1⟩; have HB1 := hid hb1; clear hb1) | (at_builtin; refine wpList_append_own_none rfl _ _ 35 rfl w.heap.size 30 i0 2 Try.underlying35 hi (.slice (some ⟨w1.heap.size, 0, none⟩) 0 0) 0 [] rfl (World.ownsRow_made w1 #[] 0 HB1.out.size (Nat.zero_le _) rfl) rfl ?_) | (at_builtin; refine wpList_append_lies _ rfl _ _ 35 rfl w.heap.size 30 i0 (.agg #[.int .i64 0, .int .i64 0]) 2 16 Try.underlying35 hi hz0 hz1 hz2 rfl (by decide) (.slice (some ⟨w1.heap.size, 0, none⟩) 0 0) 0 [] rfl ?s0 ⟨w1.heap.size + 1, 0, none⟩ 1 1 (enc ⟨-7, 0⟩) rfl rfl ?s1 ?s2 ?s3 ?s4 ?s5 ?s6 _ rfl ?_))
    case s0 => exact (World.ownsRow_made w1 #[] 0 HB1.out.size (Nat.zero_le _) rfl).alloc _
    case s1 => exact World.news_of_block (by have := heap_new (w1.alloc (.cells #[] 30)) (.cells #[.int .i64 (-7), .int .i64 0] 30 (0, 0)); simpa using this)
    case s2 => exact enc_one _
    case s3 => omega
    case s4 => unfold maxLen; omega
    case s5 => omega
    case s6 => have := HB1.out.size; simp; omega
    intro g5 c5 w5 hown5 hgrow5 hat5 hlt5
    have HL0 : Hid (l0 = []) := List.eq_nil_of_length_eq_zero HN.out
    have hown5 : w5.ownsRow w.heap.size 30 2 (.slice (some ⟨g5, 0, none⟩) (0 + 1) c5) (0 + 1) (ecs l0 ++ enc ⟨-7, 0⟩) := by rw [HL0.out]; exact hown5
    have HB5 : Hid (Below w.heap.size w w5) := ((HB1.out.alloc HB1.out.size _).alloc (by have := HB1.out.size; simp; omega) _).grown hgrow5 (by have := HB1.out.size; simp; omega) (fun k hk => by simp [Value.ownBlock] at hk; have := HB1.out.size; omega)
    have HO5 := hid hown5
    clear hown5 hgrow5 hat5 hlt5
    obtain ⟨hc5, hE5, hC5⟩ := HRow.out _ _ _ HO5.out
    have HE5 := hid hE5
    have HC5 := hid hC5
    have hg5 : g5 < w5.heap.size := (HO5.out.lt g5 rfl).2
    have HV5 : Hid (∀ wx, Below w5.heap.size w5 wx → Ens wx none l0) := fun wx hx => HV.out.kept (HB5.out.trans (hx.mono HB5.out.size)) (Nat.le_refl _)
    clear hE5 hC5
    go_wp2_with (first | (go_at_call 16; refine (HP1.out _ _ _ (HE5.out _ (Below.refl _ _))).mono ?_; rintro e w6 ⟨rfl, hb6⟩; have HB6 := hid hb6; clear hb6) | (go_at_call 17; refine (HP2.out _ _ _ (HV5.out _ HB6.out)).mono ?_; rintro e w7 ⟨rfl, hb7⟩; have HB7 := hid (HB6.out.trans (hb7.mono HB6.out.size)); clear hb7) | (go_at_call 18; refine (HSm.out _ _ _ _ _ (HE5.out _ HB7.out) (HV5.out _ HB7.out)).mono ?_; rintro e w8 ⟨rfl, hb8⟩; have HB8 := hid (HB7.out.trans (hb8.mono HB7.out.size)); have y0 := HC5.out _ HB8.out; clear hb8))
    have HBw8 : Hid (Below w.heap.size w w8) := HB5.out.trans (HB8.out.mono HB5.out.size)
    clear HF HP1 HP2 HSm HRow HE5 HC5 HV5 HB5 HB6 HB7 HB8 HB1 y0 hc5 HO5 hg5
    go_loopg [7] (M + 1) (fun k vi wr => ∃ j : Nat, j + k = M + 1 ∧ vi = .int .i64 ((j : Int) - 1) ∧ Hid (Below w.heap.size w wr))
    case atStart => exact ⟨0, by omega, rfl, HBw8.out⟩
    case round =>
      clear HBw8
      obtain ⟨j, hj, rfl, HBr⟩ := hrel
      by_cases hlt : j < M + 1
      · obtain ⟨k', rfl⟩ : ∃ k', gk = k' + 1 := ⟨gk - 1, by omega⟩
        have HJ := hid hj
        clear hj
        by_cases hj0 : j = 0
        · subst hj0
          have e1 : ((0 : Nat) : Int) - 1 = -1 := by omega
          rw [e1]
          clear e1
          have hm1 : (-1 : Int) < M := by omega
          obtain ⟨h16, htz⟩ := HSS.out
          cases hfit : allFit [] (rdE (bl S)) with
          | true =>
            have R1 := hid (gRead S h16 htz)
            have R2 := hid (gRRead S h16 htz)
            have R3 := hid (gLoadT S h16 htz hfit)
            have R4 := hid (gRLoadT S h16 htz hfit)
            have hlen : (rdE (bl S)).length ≤ 8796093021952 := by rw [rdE_len, bl_len]; omega
            have R5 : Hid (∀ wx a b ca cb, Ens wx a (rdE (bl S)) → Ens wx b (rdE (bl S)) → Calls Try.prog 18 #[.slice a (rdE (bl S)).length ca, .slice b (rdE (bl S)).length cb] wx fun e w' => e = .returned (.bool true) ∧ Below wx.heap.size wx w') := fun wx a b ca cb h1 h2 => same_yes _ a b ca cb wx h1 h2 (by omega)
            have R6 : Hid (∀ wx x y v v', Ip wx (some ⟨x, 0, none⟩) v (rdE (bl S)) → Ix 68 wx y v' (rdE (bl S)) → Calls Try.prog 12 #[.pointer (some ⟨x, 0, none⟩), .pointer (some ⟨y, 0, none⟩)] wx fun e w' => e = .returned (.bool true) ∧ Below wx.heap.size wx w') := fun wx x y v v' h1 h2 => looks_yes _ y v v' _ wx h1 h2 (by omega)
            generalize rdE (bl S) = L at *
            generalize L.length = K at *
            clear h16 hfit htz
            go_wp2_with (first | (go_at_call 19; refine (R1.out _).mono ?_; rintro e wa ⟨⟨aa, ca, rfl, hea⟩, hba⟩; have HEa := hid hea; have HBa := hid hba; clear hea hba) | (go_at_call 20; refine (R2.out _).mono ?_; rintro e wb ⟨⟨ab, cb, rfl, heb⟩, hbb⟩; have HEb := hid heb; have HBb := hid hbb; clear heb hbb) | (go_at_call 21; refine (R3.out _).mono ?_; rintro e wc ⟨⟨xc, vc, rfl, hic⟩, hbc⟩; have HIc := hid hic; have HBc := hid hbc; clear hic hbc) | (go_at_call 22; refine (R4.out _).mono ?_; rintro e wd ⟨⟨yd, vd, rfl, hid4⟩, hbd⟩; have HId := hid hid4; have HBd := hid hbd; have HXb := hid (HBc.out.trans (hbd.mono HBc.out.size)); clear hid4 hbd) | (go_at_call 18; refine (R5.out _ _ _ _ _ (HEa.out.kept (HBb.out.trans (HXb.out.mono HBb.out.size)) (Nat.le_refl _)) (HEb.out.kept HXb.out (Nat.le_refl _))).mono ?_; rintro e we ⟨rfl, hbe⟩; have HBe := hid hbe; clear hbe) | (go_at_call 12; refine (R6.out _ _ _ _ _ (HIc.out.below (HBd.out.trans (HBe.out.mono HBd.out.size))) (HId.out.below HBe.out)).mono ?_; rintro e wf ⟨rfl, hbf⟩; have HBf := hid hbf; clear hbf))
            have HBab : Hid (Below w.heap.size w wb) := (HBr.out.trans (HBa.out.mono HBr.out.size)).trans (HBb.out.mono (Nat.le_trans HBr.out.size HBa.out.size))
            have HBae : Hid (Below w.heap.size w we) := (HBab.out.trans (HXb.out.mono HBab.out.size)).trans (HBe.out.mono (Nat.le_trans HBab.out.size HXb.out.size))
            have HBF : Hid (Below w.heap.size w wf) := HBae.out.trans (HBf.out.mono HBae.out.size)
            go_roundg k'
            case measure => omega
            case rel => exact ⟨0 + 1, by have := HJ.out; omega, by go_num, HBF.out⟩
          | false =>
            have R1 := hid (gRead S h16 htz)
            have R2 := hid (gRRead S h16 htz)
            have R3 := hid (gLoadF S h16 htz hfit)
            have R4 := hid (gRLoadF S h16 htz hfit)
            have hlen : (rdE (bl S)).length ≤ 8796093021952 := by rw [rdE_len, bl_len]; omega
            have R5 : Hid (∀ wx a b ca cb, Ens wx a (rdE (bl S)) → Ens wx b (rdE (bl S)) → Calls Try.prog 18 #[.slice a (rdE (bl S)).length ca, .slice b (rdE (bl S)).length cb] wx fun e w' => e = .returned (.bool true) ∧ Below wx.heap.size wx w') := fun wx a b ca cb h1 h2 => same_yes _ a b ca cb wx h1 h2 (by omega)
            have R6 : Hid (∀ wx x y v v', Ip wx (some ⟨x, 0, none⟩) v (rdE (bl S)) → Ix 68 wx y v' (rdE (bl S)) → Calls Try.prog 12 #[.pointer (some ⟨x, 0, none⟩), .pointer (some ⟨y, 0, none⟩)] wx fun e w' => e = .returned (.bool true) ∧ Below wx.heap.size wx w') := fun wx x y v v' h1 h2 => looks_yes _ y v v' _ wx h1 h2 (by omega)
            generalize rdE (bl S) = L at *
            generalize L.length = K at *
            clear h16 hfit htz
            go_wp2_with (first | (go_at_call 19; refine (R1.out _).mono ?_; rintro e wa ⟨⟨aa, ca, rfl, hea⟩, hba⟩; have HEa := hid hea; have HBa := hid hba; clear hea hba) | (go_at_call 20; refine (R2.out _).mono ?_; rintro e wb ⟨⟨ab, cb, rfl, heb⟩, hbb⟩; have HEb := hid heb; have HBb := hid hbb; clear heb hbb) | (go_at_call 21; refine (R3.out _).mono ?_; rintro e wc ⟨rfl, hbc⟩; have HBc := hid hbc; clear hbc) | (go_at_call 22; refine (R4.out _).mono ?_; rintro e wd ⟨rfl, hbd⟩; have HXb := hid (HBc.out.trans (hbd.mono HBc.out.size)); have HBd := hid hbd; clear hbd) | (go_at_call 18; refine (R5.out _ _ _ _ _ (HEa.out.kept (HBb.out.trans (HXb.out.mono HBb.out.size)) (Nat.le_refl _)) (HEb.out.kept HXb.out (Nat.le_refl _))).mono ?_; rintro e we ⟨rfl, hbe⟩; have HBe := hid hbe; clear hbe))
            have HBab : Hid (Below w.heap.size w wb) := (HBr.out.trans (HBa.out.mono HBr.out.size)).trans (HBb.out.mono (Nat.le_trans HBr.out.size HBa.out.size))
            have HBae : Hid (Below w.heap.size w we) := (HBab.out.trans (HXb.out.mono HBab.out.size)).trans (HBe.out.mono (Nat.le_trans HBab.out.size HXb.out.size))
            have HBF : Hid (Below w.heap.size w we) := HBae.out
            go_roundg k'
            case measure => omega
            case rel => exact ⟨0 + 1, by have := HJ.out; omega, by go_num, HBF.out⟩
        · obtain ⟨q, rfl⟩ : ∃ q, j = q + 1 := ⟨j - 1, by omega⟩
          have e1 : ((q + 1 : Nat) : Int) - 1 = q := by omega
          rw [e1]
          clear e1 hj0
          have hq0 : (0 : Int) ≤ q := by omega
          have hqM : q < M := by omega
          have hqI : (q : Int) < M := by omega
          rcases HT.out with e | ⟨b, off, rfl, hb, hc⟩
          · rw [← HM.out, e] at hqM; cases hqM
          have p0 := hc q (by rw [HM.out]; exact hqM)
          have htz := HTZ.out _ (getD_txt (show q < ts.length by rw [HM.out]; exact hqM))
          generalize ts.getD q ByteArray.empty = t at *
          have c0 := (HBr.out.cell (p := ⟨b, off + q, none⟩) hb).trans p0
          clear hc p0
          by_cases h16 : t.size % 16 = 0
          · cases hfit : allFit [] (rdE (bl t)) with
            | true =>
              have R1 := hid (gRead t h16 htz)
              have R2 := hid (gRRead t h16 htz)
              have R3 := hid (gLoadT t h16 htz hfit)
              have R4 := hid (gRLoadT t h16 htz hfit)
              have hlen : (rdE (bl t)).length ≤ 8796093021952 := by rw [rdE_len, bl_len]; omega
              have R5 : Hid (∀ wx a b ca cb, Ens wx a (rdE (bl t)) → Ens wx b (rdE (bl t)) → Calls Try.prog 18 #[.slice a (rdE (bl t)).length ca, .slice b (rdE (bl t)).length cb] wx fun e w' => e = .returned (.bool true) ∧ Below wx.heap.size wx w') := fun wx a b ca cb h1 h2 => same_yes _ a b ca cb wx h1 h2 (by omega)
              have R6 : Hid (∀ wx x y v v', Ip wx (some ⟨x, 0, none⟩) v (rdE (bl t)) → Ix 68 wx y v' (rdE (bl t)) → Calls Try.prog 12 #[.pointer (some ⟨x, 0, none⟩), .pointer (some ⟨y, 0, none⟩)] wx fun e w' => e = .returned (.bool true) ∧ Below wx.heap.size wx w') := fun wx x y v v' h1 h2 => looks_yes _ y v v' _ wx h1 h2 (by omega)
              generalize rdE (bl t) = L at *
              generalize L.length = K at *
              clear h16 hfit htz
              go_wp2_with (first | (go_at_call 19; refine (R1.out _).mono ?_; rintro e wa ⟨⟨aa, ca, rfl, hea⟩, hba⟩; have HEa := hid hea; have HBa := hid hba; clear hea hba) | (go_at_call 20; refine (R2.out _).mono ?_; rintro e wb ⟨⟨ab, cb, rfl, heb⟩, hbb⟩; have HEb := hid heb; have HBb := hid hbb; clear heb hbb) | (go_at_call 21; refine (R3.out _).mono ?_; rintro e wc ⟨⟨xc, vc, rfl, hic⟩, hbc⟩; have HIc := hid hic; have HBc := hid hbc; clear hic hbc) | (go_at_call 22; refine (R4.out _).mono ?_; rintro e wd ⟨⟨yd, vd, rfl, hid4⟩, hbd⟩; have HId := hid hid4; have HBd := hid hbd; have HXb := hid (HBc.out.trans (hbd.mono HBc.out.size)); clear hid4 hbd) | (go_at_call 18; refine (R5.out _ _ _ _ _ (HEa.out.kept (HBb.out.trans (HXb.out.mono HBb.out.size)) (Nat.le_refl _)) (HEb.out.kept HXb.out (Nat.le_refl _))).mono ?_; rintro e we ⟨rfl, hbe⟩; have HBe := hid hbe; clear hbe) | (go_at_call 12; refine (R6.out _ _ _ _ _ (HIc.out.below (HBd.out.trans (HBe.out.mono HBd.out.size))) (HId.out.below HBe.out)).mono ?_; rintro e wf ⟨rfl, hbf⟩; have HBf := hid hbf; clear hbf))
              have HBab : Hid (Below w.heap.size w wb) := (HBr.out.trans (HBa.out.mono HBr.out.size)).trans (HBb.out.mono (Nat.le_trans HBr.out.size HBa.out.size))
              have HBae : Hid (Below w.heap.size w we) := (HBab.out.trans (HXb.out.mono HBab.out.size)).trans (HBe.out.mono (Nat.le_trans HBab.out.size HXb.out.size))
              have HBF : Hid (Below w.heap.size w wf) := HBae.out.trans (HBf.out.mono HBae.out.size)
              go_roundg k'
              case measure => omega
              case rel => exact ⟨q + 1 + 1, by have := HJ.out; omega, by go_num, HBF.out⟩
            | false =>
              have R1 := hid (gRead t h16 htz)
              have R2 := hid (gRRead t h16 htz)
              have R3 := hid (gLoadF t h16 htz hfit)
              have R4 := hid (gRLoadF t h16 htz hfit)
              have hlen : (rdE (bl t)).length ≤ 8796093021952 := by rw [rdE_len, bl_len]; omega
              have R5 : Hid (∀ wx a b ca cb, Ens wx a (rdE (bl t)) → Ens wx b (rdE (bl t)) → Calls Try.prog 18 #[.slice a (rdE (bl t)).length ca, .slice b (rdE (bl t)).length cb] wx fun e w' => e = .returned (.bool true) ∧ Below wx.heap.size wx w') := fun wx a b ca cb h1 h2 => same_yes _ a b ca cb wx h1 h2 (by omega)
              have R6 : Hid (∀ wx x y v v', Ip wx (some ⟨x, 0, none⟩) v (rdE (bl t)) → Ix 68 wx y v' (rdE (bl t)) → Calls Try.prog 12 #[.pointer (some ⟨x, 0, none⟩), .pointer (some ⟨y, 0, none⟩)] wx fun e w' => e = .returned (.bool true) ∧ Below wx.heap.size wx w') := fun wx x y v v' h1 h2 => looks_yes _ y v v' _ wx h1 h2 (by omega)
              generalize rdE (bl t) = L at *
              generalize L.length = K at *
              clear h16 hfit htz
              go_wp2_with (first | (go_at_call 19; refine (R1.out _).mono ?_; rintro e wa ⟨⟨aa, ca, rfl, hea⟩, hba⟩; have HEa := hid hea; have HBa := hid hba; clear hea hba) | (go_at_call 20; refine (R2.out _).mono ?_; rintro e wb ⟨⟨ab, cb, rfl, heb⟩, hbb⟩; have HEb := hid heb; have HBb := hid hbb; clear heb hbb) | (go_at_call 21; refine (R3.out _).mono ?_; rintro e wc ⟨rfl, hbc⟩; have HBc := hid hbc; clear hbc) | (go_at_call 22; refine (R4.out _).mono ?_; rintro e wd ⟨rfl, hbd⟩; have HXb := hid (HBc.out.trans (hbd.mono HBc.out.size)); have HBd := hid hbd; clear hbd) | (go_at_call 18; refine (R5.out _ _ _ _ _ (HEa.out.kept (HBb.out.trans (HXb.out.mono HBb.out.size)) (Nat.le_refl _)) (HEb.out.kept HXb.out (Nat.le_refl _))).mono ?_; rintro e we ⟨rfl, hbe⟩; have HBe := hid hbe; clear hbe))
              have HBab : Hid (Below w.heap.size w wb) := (HBr.out.trans (HBa.out.mono HBr.out.size)).trans (HBb.out.mono (Nat.le_trans HBr.out.size HBa.out.size))
              have HBae : Hid (Below w.heap.size w we) := (HBab.out.trans (HXb.out.mono HBab.out.size)).trans (HBe.out.mono (Nat.le_trans HBab.out.size HXb.out.size))
              have HBF : Hid (Below w.heap.size w we) := HBae.out
              go_roundg k'
              case measure => omega
              case rel => exact ⟨q + 1 + 1, by have := HJ.out; omega, by go_num, HBF.out⟩
          · skip
            have R1 : Hid (∀ wx, Calls Try.prog 19 #[.string t] wx fun e w' => e = .returned (.tuple #[.slice none 0 0, .int .i64 29]) ∧ w' = wx) := fun wx => read_bad t wx h16 (by omega)
            have R2 : Hid (∀ wx, Calls Try.prog 20 #[.string t] wx fun e w' => e = .returned (.tuple #[.slice none 0 0, .int .i64 29]) ∧ w' = wx) := fun wx => rread_bad t wx h16 (by omega)
            have R3 : Hid (∀ wx, Calls Try.prog 21 #[.string t] wx fun e w' => e = .returned (.tuple #[.pointer none, .int .i64 29]) ∧ w' = wx) := fun wx => load_bad t wx h16 (by omega)
            have R4 : Hid (∀ wx, Calls Try.prog 22 #[.string t] wx fun e w' => e = .returned (.tuple #[.pointer none, .int .i64 29]) ∧ w' = wx) := fun wx => rload_bad t wx h16 (by omega)
            have R5 := hid nilSame
            clear h16
            go_wp2_with (first | (go_at_call 19; refine (R1.out _).mono ?_; rintro e wa ⟨rfl, rfl⟩) | (go_at_call 20; refine (R2.out _).mono ?_; rintro e wa ⟨rfl, rfl⟩) | (go_at_call 21; refine (R3.out _).mono ?_; rintro e wa ⟨rfl, rfl⟩) | (go_at_call 22; refine (R4.out _).mono ?_; rintro e wa ⟨rfl, rfl⟩) | (go_at_call 18; refine (R5.out _).mono ?_; rintro e wf ⟨rfl, hbf⟩; have HBF := hid (HBr.out.trans (hbf.mono HBr.out.size)); clear hbf))
            go_roundg k'
            case measure => omega
            case rel => exact ⟨q + 1 + 1, by have := HJ.out; omega, by go_num, HBF.out⟩
      · have hltI : ¬ (j : Int) - 1 < M := by omega
        go_wp2_with fail
        go_ret
        exact ⟨rfl, HBr.out⟩
  | some ad =>
    go_wp2_with (first | (go_at_call 9; refine HF.out.mono ?_; rintro e w1 ⟨rfl, hb1⟩; have HB1 := hid hb1; clear hb1) | (at_builtin; refine wpList_append_own _ rfl _ _ 35 rfl w.heap.size 30 i0 (.agg #[.int .i64 0, .int .i64 0]) 2 16 Try.underlying35 hi hz0 hz1 hz2 rfl (by decide) _ 0 [] rfl ?q0 ad N cap (ecs l0) rfl ?q1 ?q2 ?q3 ?q4 ?q5 ?q6 ?_))
    case q0 => exact World.ownsRow_made w1 #[] 0 HB1.out.size (Nat.zero_le _) rfl
    case q1 => rw [ecs_len, HN.out]
    case q2 => exact ens_cells HV.out _ (HB1.out.alloc HB1.out.size _)
    case q3 => exact ecs_one l0
    case q4 => unfold maxLen; omega
    case q5 => omega
    case q6 => have := HB1.out.size; simp; omega
    intro v3 w3 hown hgrow hnil3
    have HB3 : Hid (Below w.heap.size w w3) := (HB1.out.alloc HB1.out.size _).grown hgrow (by have := HB1.out.size; simp; omega) (by intro k hk; simp [Value.ownBlock] at hk; have := HB1.out.size; omega)
    have HO3 : Hid (w3.ownsRow w.heap.size 30 2 v3 N (ecs l0)) := by refine hid ?_; simpa using hown
    clear hown hgrow hnil3
    have HO4 : Hid ((w3.alloc (.cells #[.int .i64 (-7), .int .i64 0] 30)).ownsRow w.heap.size 30 2 v3 N (ecs l0)) := HO3.out.alloc _
    obtain ⟨a3, c3, rfl⟩ : ∃ a3 c3, v3 = .slice a3 N c3 := by rcases HO3.out.2 with ⟨h1, h2⟩ | ⟨g, c, cur, h1, _⟩; exact ⟨none, 0, by rw [h1, h2]⟩; exact ⟨_, _, h1⟩
    go_wp2_with (at_builtin; refine wpList_append_lies _ rfl _ _ 35 rfl w.heap.size 30 i0 (.agg #[.int .i64 0, .int .i64 0]) 2 16 Try.underlying35 hi hz0 hz1 hz2 rfl (by decide) _ N (ecs l0) rfl HO4.out ⟨w3.heap.size, 0, none⟩ 1 1 (enc ⟨-7, 0⟩) rfl rfl ?r1 ?r2 ?r3 ?r4 ?r5 ?r6 _ rfl ?_)
    case r1 => exact World.news_of_block (heap_new w3 _)
    case r2 => exact enc_one _
    case r3 => omega
    case r4 => unfold maxLen; omega
    case r5 => omega
    case r6 => have := HB3.out.size; simp; omega
    intro g5 c5 w5 hown5 hgrow5 hat5 hlt5
    have HB5 : Hid (Below w.heap.size w w5) := (HB3.out.alloc HB3.out.size _).grown hgrow5 (by have := HB3.out.size; simp; omega) (fun k hk => (HO3.out.lt k hk).1)
    have HO5 := hid hown5
    clear hown5 hgrow5 hat5 hlt5
    obtain ⟨hc5, hE5, hC5⟩ := HRow.out _ _ _ HO5.out
    have HE5 := hid hE5
    have HC5 := hid hC5
    have hg5 : g5 < w5.heap.size := (HO5.out.lt g5 rfl).2
    have HV5 : Hid (∀ wx, Below w5.heap.size w5 wx → Ens wx (some ad) l0) := fun wx hx => HV.out.kept (HB5.out.trans (hx.mono HB5.out.size)) (Nat.le_refl _)
    clear hE5 hC5
    go_wp2_with (first | (go_at_call 16; refine (HP1.out _ _ _ (HE5.out _ (Below.refl _ _))).mono ?_; rintro e w6 ⟨rfl, hb6⟩; have HB6 := hid hb6; clear hb6) | (go_at_call 17; refine (HP2.out _ _ _ (HV5.out _ HB6.out)).mono ?_; rintro e w7 ⟨rfl, hb7⟩; have HB7 := hid (HB6.out.trans (hb7.mono HB6.out.size)); clear hb7) | (go_at_call 18; refine (HSm.out _ _ _ _ _ (HE5.out _ HB7.out) (HV5.out _ HB7.out)).mono ?_; rintro e w8 ⟨rfl, hb8⟩; have HB8 := hid (HB7.out.trans (hb8.mono HB7.out.size)); have y0 := HC5.out _ HB8.out; clear hb8))
    have HBw8 : Hid (Below w.heap.size w w8) := HB5.out.trans (HB8.out.mono HB5.out.size)
    clear HF HP1 HP2 HSm HRow HE5 HC5 HV5 HB5 HB6 HB7 HB8 HB1 y0 hc5 HO5 hg5
    go_loopg [7] (M + 1) (fun k vi wr => ∃ j : Nat, j + k = M + 1 ∧ vi = .int .i64 ((j : Int) - 1) ∧ Hid (Below w.heap.size w wr))
    case atStart => exact ⟨0, by omega, rfl, HBw8.out⟩
    case round =>
      clear HBw8
      obtain ⟨j, hj, rfl, HBr⟩ := hrel
      by_cases hlt : j < M + 1
      · obtain ⟨k', rfl⟩ : ∃ k', gk = k' + 1 := ⟨gk - 1, by omega⟩
        have HJ := hid hj
        clear hj
        by_cases hj0 : j = 0
        · subst hj0
          have e1 : ((0 : Nat) : Int) - 1 = -1 := by omega
          rw [e1]
          clear e1
          have hm1 : (-1 : Int) < M := by omega
          obtain ⟨h16, htz⟩ := HSS.out
          cases hfit : allFit [] (rdE (bl S)) with
          | true =>
            have R1 := hid (gRead S h16 htz)
            have R2 := hid (gRRead S h16 htz)
            have R3 := hid (gLoadT S h16 htz hfit)
            have R4 := hid (gRLoadT S h16 htz hfit)
            have hlen : (rdE (bl S)).length ≤ 8796093021952 := by rw [rdE_len, bl_len]; omega
            have R5 : Hid (∀ wx a b ca cb, Ens wx a (rdE (bl S)) → Ens wx b (rdE (bl S)) → Calls Try.prog 18 #[.slice a (rdE (bl S)).length ca, .slice b (rdE (bl S)).length cb] wx fun e w' => e = .returned (.bool true) ∧ Below wx.heap.size wx w') := fun wx a b ca cb h1 h2 => same_yes _ a b ca cb wx h1 h2 (by omega)
            have R6 : Hid (∀ wx x y v v', Ip wx (some ⟨x, 0, none⟩) v (rdE (bl S)) → Ix 68 wx y v' (rdE (bl S)) → Calls Try.prog 12 #[.pointer (some ⟨x, 0, none⟩), .pointer (some ⟨y, 0, none⟩)] wx fun e w' => e = .returned (.bool true) ∧ Below wx.heap.size wx w') := fun wx x y v v' h1 h2 => looks_yes _ y v v' _ wx h1 h2 (by omega)
            generalize rdE (bl S) = L at *
            generalize L.length = K at *
            clear h16 hfit htz
            go_wp2_with (first | (go_at_call 19; refine (R1.out _).mono ?_; rintro e wa ⟨⟨aa, ca, rfl, hea⟩, hba⟩; have HEa := hid hea; have HBa := hid hba; clear hea hba) | (go_at_call 20; refine (R2.out _).mono ?_; rintro e wb ⟨⟨ab, cb, rfl, heb⟩, hbb⟩; have HEb := hid heb; have HBb := hid hbb; clear heb hbb) | (go_at_call 21; refine (R3.out _).mono ?_; rintro e wc ⟨⟨xc, vc, rfl, hic⟩, hbc⟩; have HIc := hid hic; have HBc := hid hbc; clear hic hbc) | (go_at_call 22; refine (R4.out _).mono ?_; rintro e wd ⟨⟨yd, vd, rfl, hid4⟩, hbd⟩; have HId := hid hid4; have HBd := hid hbd; have HXb := hid (HBc.out.trans (hbd.mono HBc.out.size)); clear hid4 hbd) | (go_at_call 18; refine (R5.out _ _ _ _ _ (HEa.out.kept (HBb.out.trans (HXb.out.mono HBb.out.size)) (Nat.le_refl _)) (HEb.out.kept HXb.out (Nat.le_refl _))).mono ?_; rintro e we ⟨rfl, hbe⟩; have HBe := hid hbe; clear hbe) | (go_at_call 12; refine (R6.out _ _ _ _ _ (HIc.out.below (HBd.out.trans (HBe.out.mono HBd.out.size))) (HId.out.below HBe.out)).mono ?_; rintro e wf ⟨rfl, hbf⟩; have HBf := hid hbf; clear hbf))
            have HBab : Hid (Below w.heap.size w wb) := (HBr.out.trans (HBa.out.mono HBr.out.size)).trans (HBb.out.mono (Nat.le_trans HBr.out.size HBa.out.size))
            have HBae : Hid (Below w.heap.size w we) := (HBab.out.trans (HXb.out.mono HBab.out.size)).trans (HBe.out.mono (Nat.le_trans HBab.out.size HXb.out.size))
            have HBF : Hid (Below w.heap.size w wf) := HBae.out.trans (HBf.out.mono HBae.out.size)
            go_roundg k'
            case measure => omega
            case rel => exact ⟨0 + 1, by have := HJ.out; omega, by go_num, HBF.out⟩
          | false =>
            have R1 := hid (gRead S h16 htz)
            have R2 := hid (gRRead S h16 htz)
            have R3 := hid (gLoadF S h16 htz hfit)
            have R4 := hid (gRLoadF S h16 htz hfit)
            have hlen : (rdE (bl S)).length ≤ 8796093021952 := by rw [rdE_len, bl_len]; omega
            have R5 : Hid (∀ wx a b ca cb, Ens wx a (rdE (bl S)) → Ens wx b (rdE (bl S)) → Calls Try.prog 18 #[.slice a (rdE (bl S)).length ca, .slice b (rdE (bl S)).length cb] wx fun e w' => e = .returned (.bool true) ∧ Below wx.heap.size wx w') := fun wx a b ca cb h1 h2 => same_yes _ a b ca cb wx h1 h2 (by omega)
            have R6 : Hid (∀ wx x y v v', Ip wx (some ⟨x, 0, none⟩) v (rdE (bl S)) → Ix 68 wx y v' (rdE (bl S)) → Calls Try.prog 12 #[.pointer (some ⟨x, 0, none⟩), .pointer (some ⟨y, 0, none⟩)] wx fun e w' => e = .returned (.bool true) ∧ Below wx.heap.size wx w') := fun wx x y v v' h1 h2 => looks_yes _ y v v' _ wx h1 h2 (by omega)
            generalize rdE (bl S) = L at *
            generalize L.length = K at *
            clear h16 hfit htz
            go_wp2_with (first | (go_at_call 19; refine (R1.out _).mono ?_; rintro e wa ⟨⟨aa, ca, rfl, hea⟩, hba⟩; have HEa := hid hea; have HBa := hid hba; clear hea hba) | (go_at_call 20; refine (R2.out _).mono ?_; rintro e wb ⟨⟨ab, cb, rfl, heb⟩, hbb⟩; have HEb := hid heb; have HBb := hid hbb; clear heb hbb) | (go_at_call 21; refine (R3.out _).mono ?_; rintro e wc ⟨rfl, hbc⟩; have HBc := hid hbc; clear hbc) | (go_at_call 22; refine (R4.out _).mono ?_; rintro e wd ⟨rfl, hbd⟩; have HXb := hid (HBc.out.trans (hbd.mono HBc.out.size)); have HBd := hid hbd; clear hbd) | (go_at_call 18; refine (R5.out _ _ _ _ _ (HEa.out.kept (HBb.out.trans (HXb.out.mono HBb.out.size)) (Nat.le_refl _)) (HEb.out.kept HXb.out (Nat.le_refl _))).mono ?_; rintro e we ⟨rfl, hbe⟩; have HBe := hid hbe; clear hbe))
            have HBab : Hid (Below w.heap.size w wb) := (HBr.out.trans (HBa.out.mono HBr.out.size)).trans (HBb.out.mono (Nat.le_trans HBr.out.size HBa.out.size))
            have HBae : Hid (Below w.heap.size w we) := (HBab.out.trans (HXb.out.mono HBab.out.size)).trans (HBe.out.mono (Nat.le_trans HBab.out.size HXb.out.size))
            have HBF : Hid (Below w.heap.size w we) := HBae.out
            go_roundg k'
            case measure => omega
            case rel => exact ⟨0 + 1, by have := HJ.out; omega, by go_num, HBF.out⟩
        · obtain ⟨q, rfl⟩ : ∃ q, j = q + 1 := ⟨j - 1, by omega⟩
          have e1 : ((q + 1 : Nat) : Int) - 1 = q := by omega
          rw [e1]
          clear e1 hj0
          have hq0 : (0 : Int) ≤ q := by omega
          have hqM : q < M := by omega
          have hqI : (q : Int) < M := by omega
          rcases HT.out with e | ⟨b, off, rfl, hb, hc⟩
          · rw [← HM.out, e] at hqM; cases hqM
          have p0 := hc q (by rw [HM.out]; exact hqM)
          have htz := HTZ.out _ (getD_txt (show q < ts.length by rw [HM.out]; exact hqM))
          generalize ts.getD q ByteArray.empty = t at *
          have c0 := (HBr.out.cell (p := ⟨b, off + q, none⟩) hb).trans p0
          clear hc p0
          by_cases h16 : t.size % 16 = 0
          · cases hfit : allFit [] (rdE (bl t)) with
            | true =>
              have R1 := hid (gRead t h16 htz)
              have R2 := hid (gRRead t h16 htz)
              have R3 := hid (gLoadT t h16 htz hfit)
              have R4 := hid (gRLoadT t h16 htz hfit)
              have hlen : (rdE (bl t)).length ≤ 8796093021952 := by rw [rdE_len, bl_len]; omega
              have R5 : Hid (∀ wx a b ca cb, Ens wx a (rdE (bl t)) → Ens wx b (rdE (bl t)) → Calls Try.prog 18 #[.slice a (rdE (bl t)).length ca, .slice b (rdE (bl t)).length cb] wx fun e w' => e = .returned (.bool true) ∧ Below wx.heap.size wx w') := fun wx a b ca cb h1 h2 => same_yes _ a b ca cb wx h1 h2 (by omega)
              have R6 : Hid (∀ wx x y v v', Ip wx (some ⟨x, 0, none⟩) v (rdE (bl t)) → Ix 68 wx y v' (rdE (bl t)) → Calls Try.prog 12 #[.pointer (some ⟨x, 0, none⟩), .pointer (some ⟨y, 0, none⟩)] wx fun e w' => e = .returned (.bool true) ∧ Below wx.heap.size wx w') := fun wx x y v v' h1 h2 => looks_yes _ y v v' _ wx h1 h2 (by omega)
              generalize rdE (bl t) = L at *
              generalize L.length = K at *
              clear h16 hfit htz
              go_wp2_with (first | (go_at_call 19; refine (R1.out _).mono ?_; rintro e wa ⟨⟨aa, ca, rfl, hea⟩, hba⟩; have HEa := hid hea; have HBa := hid hba; clear hea hba) | (go_at_call 20; refine (R2.out _).mono ?_; rintro e wb ⟨⟨ab, cb, rfl, heb⟩, hbb⟩; have HEb := hid heb; have HBb := hid hbb; clear heb hbb) | (go_at_call 21; refine (R3.out _).mono ?_; rintro e wc ⟨⟨xc, vc, rfl, hic⟩, hbc⟩; have HIc := hid hic; have HBc := hid hbc; clear hic hbc) | (go_at_call 22; refine (R4.out _).mono ?_; rintro e wd ⟨⟨yd, vd, rfl, hid4⟩, hbd⟩; have HId := hid hid4; have HBd := hid hbd; have HXb := hid (HBc.out.trans (hbd.mono HBc.out.size)); clear hid4 hbd) | (go_at_call 18; refine (R5.out _ _ _ _ _ (HEa.out.kept (HBb.out.trans (HXb.out.mono HBb.out.size)) (Nat.le_refl _)) (HEb.out.kept HXb.out (Nat.le_refl _))).mono ?_; rintro e we ⟨rfl, hbe⟩; have HBe := hid hbe; clear hbe) | (go_at_call 12; refine (R6.out _ _ _ _ _ (HIc.out.below (HBd.out.trans (HBe.out.mono HBd.out.size))) (HId.out.below HBe.out)).mono ?_; rintro e wf ⟨rfl, hbf⟩; have HBf := hid hbf; clear hbf))
              have HBab : Hid (Below w.heap.size w wb) := (HBr.out.trans (HBa.out.mono HBr.out.size)).trans (HBb.out.mono (Nat.le_trans HBr.out.size HBa.out.size))
              have HBae : Hid (Below w.heap.size w we) := (HBab.out.trans (HXb.out.mono HBab.out.size)).trans (HBe.out.mono (Nat.le_trans HBab.out.size HXb.out.size))
              have HBF : Hid (Below w.heap.size w wf) := HBae.out.trans (HBf.out.mono HBae.out.size)
              go_roundg k'
              case measure => omega
              case rel => exact ⟨q + 1 + 1, by have := HJ.out; omega, by go_num, HBF.out⟩
            | false =>
              have R1 := hid (gRead t h16 htz)
              have R2 := hid (gRRead t h16 htz)
              have R3 := hid (gLoadF t h16 htz hfit)
              have R4 := hid (gRLoadF t h16 htz hfit)
              have hlen : (rdE (bl t)).length ≤ 8796093021952 := by rw [rdE_len, bl_len]; omega
              have R5 : Hid (∀ wx a b ca cb, Ens wx a (rdE (bl t)) → Ens wx b (rdE (bl t)) → Calls Try.prog 18 #[.slice a (rdE (bl t)).length ca, .slice b (rdE (bl t)).length cb] wx fun e w' => e = .returned (.bool true) ∧ Below wx.heap.size wx w') := fun wx a b ca cb h1 h2 => same_yes _ a b ca cb wx h1 h2 (by omega)
              have R6 : Hid (∀ wx x y v v', Ip wx (some ⟨x, 0, none⟩) v (rdE (bl t)) → Ix 68 wx y v' (rdE (bl t)) → Calls Try.prog 12 #[.pointer (some ⟨x, 0, none⟩), .pointer (some ⟨y, 0, none⟩)] wx fun e w' => e = .returned (.bool true) ∧ Below wx.heap.size wx w') := fun wx x y v v' h1 h2 => looks_yes _ y v v' _ wx h1 h2 (by omega)
              generalize rdE (bl t) = L at *
              generalize L.length = K at *
              clear h16 hfit htz
              go_wp2_with (first | (go_at_call 19; refine (R1.out _).mono ?_; rintro e wa ⟨⟨aa, ca, rfl, hea⟩, hba⟩; have HEa := hid hea; have HBa := hid hba; clear hea hba) | (go_at_call 20; refine (R2.out _).mono ?_; rintro e wb ⟨⟨ab, cb, rfl, heb⟩, hbb⟩; have HEb := hid heb; have HBb := hid hbb; clear heb hbb) | (go_at_call 21; refine (R3.out _).mono ?_; rintro e wc ⟨rfl, hbc⟩; have HBc := hid hbc; clear hbc) | (go_at_call 22; refine (R4.out _).mono ?_; rintro e wd ⟨rfl, hbd⟩; have HXb := hid (HBc.out.trans (hbd.mono HBc.out.size)); have HBd := hid hbd; clear hbd) | (go_at_call 18; refine (R5.out _ _ _ _ _ (HEa.out.kept (HBb.out.trans (HXb.out.mono HBb.out.size)) (Nat.le_refl _)) (HEb.out.kept HXb.out (Nat.le_refl _))).mono ?_; rintro e we ⟨rfl, hbe⟩; have HBe := hid hbe; clear hbe))
              have HBab : Hid (Below w.heap.size w wb) := (HBr.out.trans (HBa.out.mono HBr.out.size)).trans (HBb.out.mono (Nat.le_trans HBr.out.size HBa.out.size))
              have HBae : Hid (Below w.heap.size w we) := (HBab.out.trans (HXb.out.mono HBab.out.size)).trans (HBe.out.mono (Nat.le_trans HBab.out.size HXb.out.size))
              have HBF : Hid (Below w.heap.size w we) := HBae.out
              go_roundg k'
              case measure => omega
              case rel => exact ⟨q + 1 + 1, by have := HJ.out; omega, by go_num, HBF.out⟩
          · skip
            have R1 : Hid (∀ wx, Calls Try.prog 19 #[.string t] wx fun e w' => e = .returned (.tuple #[.slice none 0 0, .int .i64 29]) ∧ w' = wx) := fun wx => read_bad t wx h16 (by omega)
            have R2 : Hid (∀ wx, Calls Try.prog 20 #[.string t] wx fun e w' => e = .returned (.tuple #[.slice none 0 0, .int .i64 29]) ∧ w' = wx) := fun wx => rread_bad t wx h16 (by omega)
            have R3 : Hid (∀ wx, Calls Try.prog 21 #[.string t] wx fun e w' => e = .returned (.tuple #[.pointer none, .int .i64 29]) ∧ w' = wx) := fun wx => load_bad t wx h16 (by omega)
            have R4 : Hid (∀ wx, Calls Try.prog 22 #[.string t] wx fun e w' => e = .returned (.tuple #[.pointer none, .int .i64 29]) ∧ w' = wx) := fun wx => rload_bad t wx h16 (by omega)
            have R5 := hid nilSame
            clear h16
            go_wp2_with (first | (go_at_call 19; refine (R1.out _).mono ?_; rintro e wa ⟨rfl, rfl⟩) | (go_at_call 20; refine (R2.out _).mono ?_; rintro e wa ⟨rfl, rfl⟩) | (go_at_call 21; refine (R3.out _).mono ?_; rintro e wa ⟨rfl, rfl⟩) | (go_at_call 22; refine (R4.out _).mono ?_; rintro e wa ⟨rfl, rfl⟩) | (go_at_call 18; refine (R5.out _).mono ?_; rintro e wf ⟨rfl, hbf⟩; have HBF := hid (HBr.out.trans (hbf.mono HBr.out.size)); clear hbf))
            go_roundg k'
            case measure => omega
            case rel => exact ⟨q + 1 + 1, by have := HJ.out; omega, by go_num, HBF.out⟩
      · have hltI : ¬ (j : Int) - 1 < M := by omega
        go_wp2_with fail
        go_ret
        exact ⟨rfl, HBr.out⟩
end Go.Proofs.Ytldfbddccmnchaa
