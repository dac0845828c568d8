/- TimeidxBack: its walk. -/
import Derived.Test.YtmhmohkeekmmgaaTEo
namespace Go.Proofs.Ytmhmohkeekmmgaa
open Go.RowKit
theorem bs_app (l m : List Nat) : bs (l ++ m) = bs l ++ bs m := by
  unfold bs
  apply ByteArray.ext
  rw [ByteArray.data_append]
  simp
theorem mem_fold {r : List En} : ∀ {l : List En} {e : En}, e ∈ r.foldl addE l → e ∈ l ∨ e ∈ r := by
  induction r with
  | nil => intro l e h; exact Or.inl h
  | cons x r ih =>
    intro l e h
    rcases ih h with h1 | h1
    · unfold addE at h1
      split at h1
      · rcases List.mem_append.1 h1 with h2 | h2
        · exact Or.inl h2
        · rw [List.mem_singleton] at h2; subst h2; exact Or.inr (by simp)
      · exact Or.inl h1
    · exact Or.inr (by simp [h1])
theorem bld_ok {l : List En} (h : ∀ e ∈ l, EnOk e) : ∀ e ∈ bld l, EnOk e := fun e he => by
  rcases mem_fold he with h1 | h1
  · cases h1
  · exact h e h1
theorem eby_ext (L : List En) (n : Nat) : (bs (eby L)).extract 0 (n * 16) = bs (eby (L.take n)) := by
  rw [← bs_bl ((bs (eby L)).extract 0 (n * 16)), bl_ext, bl_bs _ (eby_byte _), List.drop_zero, Nat.sub_zero, eby_take]
set_option maxRecDepth 20000 in
set_option maxHeartbeats 4000000 in
theorem back_walk (l0 : List En) (a : Option Addr) (cap : Nat) (cut : Int) (w : World) (hv : Ens w a l0) (hn : l0.length ≤ 8796093021952) (hok : ∀ y ∈ l0, EnOk y) (hc0 : 0 ≤ cut) (hc1 : cut ≤ 65535) :
    Calls Try.prog 7 #[.slice a l0.length cap, .int .u16 cut] w fun e w' => e = .returned (.bool true) ∧ Below w.heap.size w w' := by
  have HF := hid (finds_any w)
  have HV := hid hv
  have HOK := hid hok
  obtain ⟨N, hN⟩ : ∃ N, N = l0.length := ⟨_, rfl⟩
  have HN := hid hN
  rw [← hN] at hn ⊢
  clear hv hok hN
  go_enter Try.func7, Try.ntmps7
  go_wp2_with (first | (go_at_call 9; refine HF.out.mono ?_; rintro e w1 ⟨rfl, hb1⟩; have HB1 := hid hb1; have HS : Hid (Io (w1.alloc (.cells #[.slice none 0 0] 60)) w1.heap.size w1.heap.size (.slice none 0 0) []) := ⟨Ix.new _ _, Nat.le_refl _, fun g hg => by cases hg⟩; have HSB := hid ((Below.refl w1.heap.size w1).alloc (Nat.le_refl _) (.cells #[.slice none 0 0] 60)); clear hb1) | (go_at_call 10; refine (new_any _).mono ?_; rintro e w' ⟨rfl, rfl⟩))
  have HBw : Hid (∀ wx, Below w1.heap.size w1 wx → Below w.heap.size w wx) := fun wx hx => HB1.out.trans (hx.mono HB1.out.size)
  have HX1 : Hid (w.heap.size ≤ w1.heap.size) := HB1.out.size
  generalize hX : w1.heap.size = X at *
  have HXw := hid hX
  clear hX HF HB1
  go_loopg [6, 19] N (fun k va vi wr => ∃ (j : Nat) (v : Value), j + k = N ∧ vi = .int .i64 j ∧ Hid (va = .string (bs (eby (bld (l0.take j))))) ∧ Hid (Io wr X X v (bld (l0.take j))) ∧ Hid (Below X w1 wr) ∧ Hid (X ≤ wr.heap.size))
  case atStart => exact ⟨0, _, by omega, rfl, rfl, HS.out, HSB.out, by show X ≤ _; rw [← HXw.out]; simp⟩
  case round =>
    clear HS HSB
    obtain ⟨j, v, hj, rfl, HA, HI, HB, HXl⟩ := hrel
    by_cases hlt : j < N
    · obtain ⟨k', rfl⟩ : ∃ k', gk = k' + 1 := ⟨gk - 1, by omega⟩
      have hltI : (j : Int) < N := by omega
      have hjl : j < l0.length := by rw [← HN.out]; exact hlt
      rcases HV.out with e | ⟨b, off, rfl, hb, hc⟩
      · rw [e] at hjl; cases hjl
      obtain ⟨p0, p1⟩ := hc j hjl
      have HST := hid (bld_step hjl)
      have hbl := bld_len (l0.take j)
      rw [List.length_take] at hbl
      have q0 := ((HBw.out _ HB.out).cell (p := ⟨b, off + j * 2, none⟩) hb).trans p0
      have q1 := ((HBw.out _ HB.out).cell (p := ⟨b, off + j * 2 + 1, none⟩) hb).trans p1
      generalize l0.getD j en0 = s at *
      obtain ⟨sk, sa⟩ := s
      simp only at q0 q1
      generalize bld (l0.take j) = L at *
      have hva := HA.out
      clear HA
      obtain ⟨T, hT⟩ : ∃ T, T = bs (eby L) := ⟨_, rfl⟩
      rw [← hT] at hva
      subst hva
      have hTz : T.size = L.length * 16 := by rw [hT, bs_size, eby_len]
      have hTb : T.size ≤ 140737488351232 := by omega
      have HE1 : Hid ((wr.alloc (.cells #[.int .i64 sk, .int .i64 sa] 29)).heap[wr.heap.size]? = some (.cells #[.int .i64 sk, .int .i64 sa] 29 (0, 0))) := heap_new _ _
      have HAp : Hid (Calls Try.prog 12 #[.pointer (some ⟨X, 0, none⟩), .agg #[.int .i64 sk, .int .i64 sa]] (wr.alloc (.cells #[.int .i64 sk, .int .i64 sa] 29)) fun r w' => r = .returned (.int .i64 (addC L ⟨sk, sa⟩)) ∧ (∃ v', Io w' X X v' (addE L ⟨sk, sa⟩)) ∧ Below X w1 w' ∧ X ≤ w'.heap.size ∧ w'.heap[wr.heap.size]? = some (.cells #[.int .i64 sk, .int .i64 sa] 29 (0, 0))) := by
        have hI1 := HI.out.below ((Below.refl wr.heap.size wr).alloc (Nat.le_refl _) (.cells #[.int .i64 sk, .int .i64 sa] 29))
        refine (append_any X ⟨sk, sa⟩ v L _ hI1.ix (by omega)).mono ?_
        rintro r w' ⟨rfl, v', h1, h2, h3⟩
        obtain ⟨h4, h5⟩ := hI1.ch (by have := HXl.out; simp; omega) h1 h2 h3
        refine ⟨rfl, ⟨v', h4⟩, (HB.out.alloc HXl.out _).trans h5, Nat.le_trans HXl.out (Nat.le_trans (by simp) h5.size), (h2.block _ (by simp) (fun hs => absurd (HI.out.ix.lt _ hs) (by omega))).trans HE1.out⟩
      have HFo : Hid (∀ wx, Calls Try.prog 22 #[.agg #[.int .i64 sk, .int .i64 sa]] wx fun r w' => r = .returned (.string (bs (eb ⟨sk, sa⟩))) ∧ Below wx.heap.size wx w') := fun wx => form_any ⟨sk, sa⟩ wx
      have hez : (bs (eb ⟨sk, sa⟩)).size = 16 := by rw [bs_size, eb_len]
      have HTE : Hid (T ++ bs (eb ⟨sk, sa⟩) = bs (eby (L ++ [⟨sk, sa⟩]))) := by show _ = _; rw [hT, eby_snoc, bs_app]
      generalize bs (eb ⟨sk, sa⟩) = E at *
      have hcc : ¬ 9223372036854775807 < T.size + E.size := by omega
      have HJ := hid hj
      have HT := hid hT
      clear hc p0 p1 hb hbl hjl hj hT hTz hTb hez
      cases hfit : fitB L ⟨sk, sa⟩ with
      | true =>
        have HAD : Hid (addE L ⟨sk, sa⟩ = L ++ [⟨sk, sa⟩]) := if_pos hfit
        rw [HAD.out] at HAp HST
        rw [(fitB_C _ _).2 hfit] at HAp
        clear hfit
        go_wp2_with (first | (go_at_call 12; refine HAp.out.mono ?_; rintro r w2 ⟨rfl, ⟨v2, hi2⟩, hb2, hx2, he2⟩; obtain ⟨y0, y1, _⟩ := ecell3 he2; have HI2 := hid hi2; have HB2 := hid hb2; have HX2 := hid hx2; clear hi2 hb2 hx2 he2) | (go_at_call 22; refine (HFo.out _).mono ?_; rintro r w3 ⟨rfl, hb3⟩; have HI3 := hid (HI2.out.below hb3); have HB3 := hid (HB2.out.trans (hb3.mono HX2.out)); have HX3 := hid (Nat.le_trans HX2.out hb3.size); clear hb3))
        go_roundg k'
        case measure => omega
        case rel => exact ⟨j + 1, v2, by have := HJ.out; omega, congrArg (Value.int .i64) (by omega), by rw [HST.out, ← HTE.out]; rfl, by rw [HST.out]; exact HI3.out, HB3.out, HX3.out⟩
      | false =>
        have HAD : Hid (addE L ⟨sk, sa⟩ = L) := if_neg (by rw [hfit]; decide)
        rw [HAD.out] at HAp HST
        rcases addC_ne hfit with h9 | h9
        all_goals
          rw [h9] at HAp
          clear hfit h9
          go_wp2_with (go_at_call 12; refine HAp.out.mono ?_; rintro r w2 ⟨rfl, ⟨v2, hi2⟩, hb2, hx2, he2⟩; have HI2 := hid hi2; have HB2 := hid hb2; have HX2 := hid hx2; clear hi2 hb2 hx2 he2)
          go_roundg k'
          case measure => omega
          case rel => exact ⟨j + 1, v2, by have := HJ.out; omega, congrArg (Value.int .i64) (by omega), by rw [HST.out, ← HT.out]; rfl, by rw [HST.out]; exact HI2.out, HB2.out, HX2.out⟩
    · have hltI : ¬ (j : Int) < N := by omega
      have e : l0.take j = l0 := List.take_of_length_le (by rw [← HN.out]; omega)
      rw [e] at HI HA
      clear e
      have hL : (bld l0).length ≤ 8796093021952 := by have := bld_len l0; have := HN.out; omega
      have HO := hid (bld_ord l0)
      have HLK := hid (bld_ok HOK.out)
      generalize bld l0 = L at *
      have hva := HA.out
      clear HA HV HOK HN
      obtain ⟨S, hS⟩ : ∃ S, S = bs (eby L) := ⟨_, rfl⟩
      rw [← hS] at hva
      subst hva
      obtain ⟨M, hM⟩ : ∃ M, L.length = M := ⟨_, rfl⟩
      have hSz : S.size = M * 16 := by rw [hS, bs_size, eby_len, hM]
      have HBy : Hid (∀ wx, Below wr.heap.size wr wx → Calls Try.prog 20 #[.pointer (some ⟨X, 0, none⟩)] wx fun e w' => e = .returned (.string S) ∧ Below wr.heap.size wr w') := fun wx hx => by
        have := ibytes_any _ v L wx (HI.out.below hx).ip (by omega)
        rw [← hS] at this
        exact this.mono fun e w' ⟨h1, h2⟩ => ⟨h1, hx.trans (h2.mono hx.size)⟩
      have HLe : Hid (∀ wx, Below wr.heap.size wr wx → Calls Try.prog 25 #[.pointer (some ⟨X, 0, none⟩)] wx fun e w' => e = .returned (.int .i64 M) ∧ Below wr.heap.size wr w') := fun wx hx => by
        have := len_any _ v L wx (HI.out.below hx).ip
        rw [hM] at this
        exact this.mono fun e w' ⟨h1, h2⟩ => ⟨h1, hx.trans (h2.mono hx.size)⟩
      have hSI : (S.size : Int) = 16 * (M : Int) := by omega
      have hMb : M ≤ 8796093021952 := by omega
      obtain ⟨m, hm⟩ : ∃ m : Nat, (cut % (16 * (M : Int) + 1)) = m := ⟨(cut % (16 * (M : Int) + 1)).toNat, by have := Int.emod_nonneg cut (show (16 * (M : Int) + 1) ≠ 0 by omega); omega⟩
      have hm1 : m ≤ M * 16 := by have := Int.emod_lt_of_pos cut (show 0 < (16 * (M : Int) + 1) by omega); omega
      have hmI : (m : Int) ≤ 16 * (M : Int) := by omega
      have hm0 : (0 : Int) ≤ m := by omega
      have HSh := hid hS
      have HMh := hid hM
      have HSz := hid hSz
      have HHm := hid hm1
      clear hS hM hSz hm1
      go_wp2_with (first | (go_at_call 20; refine (HBy.out _ (Below.refl _ _)).mono ?_; rintro e w2 ⟨rfl, hb2⟩; have HB2 := hid hb2; clear hb2) | (go_at_call 25; refine (HLe.out _ HB2.out).mono ?_; rintro e w3 ⟨rfl, hb3⟩; have HB3 := hid hb3; clear hb3))
      rw [hm]
      have hez : (S.extract 0 m).size = m := by rw [ByteArray.size_extract]; have := HSz.out; have := HHm.out; omega
      have HBF : Hid (Below w.heap.size w w3) := (HBw.out _ HB.out).trans (HB3.out.mono (HBw.out _ HB.out).size)
      by_cases h16 : m % 16 = 0
      · obtain ⟨q, hq⟩ : ∃ q, m = q * 16 := ⟨m / 16, by omega⟩
        have hqM : q ≤ M := by have := HHm.out; omega
        have hTl : (L.take q).length = q := by rw [List.length_take]; have := HMh.out; omega
        have hSe : S.extract 0 m = bs (eby (L.take q)) := by rw [hq, HSh.out, eby_ext]
        have HRo : Hid (Calls Try.prog 19 #[.string (S.extract 0 m)] w3 fun e w' => (∃ x v, e = .returned (.tuple #[.pointer (some ⟨x, 0, none⟩), .int .i64 0]) ∧ Io w' w3.heap.size x v (L.take q)) ∧ Below w3.heap.size w3 w') := by
          have h1 := load_ok (S.extract 0 m) w3 (by omega) (by omega)
          rw [show bl (S.extract 0 m) = eby (L.take q) from by rw [hSe, bl_bs _ (eby_byte _)], rdE_eby (L.take q) (fun e he => HLK.out e (List.mem_of_mem_take he))] at h1
          refine h1.mono fun e w' ⟨h2, h3⟩ => ⟨?_, h3⟩
          rcases h2 with ⟨_, h4⟩ | ⟨h4, _⟩
          · exact h4
          · rw [ord_all (HO.out.take q)] at h4; rcases h4 with h4 | h4 <;> cases h4
        have HBe : Hid (∀ wx p v, Ip wx p v (L.take q) → Calls Try.prog 20 #[.pointer p] wx fun e w' => e = .returned (.string (S.extract 0 m)) ∧ Below wx.heap.size wx w') := fun wx p v h => by
          have := ibytes_any p v (L.take q) wx h (by omega)
          rw [← hSe] at this
          exact this
        have HCt : Hid (∀ wx, Below wr.heap.size wr wx → Calls Try.prog 14 #[.pointer (some ⟨X, 0, none⟩), .int .i64 q] wx fun e w' => e = .returned (.int .i64 0) ∧ ∃ v', Io w' X X v' (L.take q) ∧ Below X wx w' ∧ X ≤ w'.heap.size) := fun wx hx => by
          have h0 := HI.out.below hx
          have h1 := cut_any _ (q : Int) v L wx h0.ip
          have e1 : cutC L (q : Int) = 0 := if_pos ⟨by omega, by rw [HMh.out]; omega⟩
          have e2 : cutE L (q : Int) = L.take q := by unfold cutE; rw [if_pos ⟨by omega, by rw [HMh.out]; omega⟩, Int.toNat_natCast]
          rw [e1, e2] at h1
          refine h1.mono fun e w' ⟨h2, h3⟩ => ⟨h2, ?_⟩
          have hle := Nat.le_trans HXl.out hx.size
          obtain ⟨v', h4, h5⟩ := h0.left hle h3
          exact ⟨v', h4, h5, Nat.le_trans hle h5.size⟩
        have hmq : (m : Int) / 16 = (q : Int) := by omega
        have hmm : (m : Int) % 16 = 0 := by omega
        have HBz : Hid (∀ wx, Calls Try.prog 19 #[.string (S ++ ⟨#[120]⟩)] wx fun e w' => e = .returned (.tuple #[.pointer none, .int .i64 29]) ∧ w' = wx) := fun wx => load_bad _ wx (by rw [ByteArray.size_append]; have : (⟨#[120]⟩ : ByteArray).size = 1 := rfl; have := HSz.out; omega) (by rw [ByteArray.size_append]; have : (⟨#[120]⟩ : ByteArray).size = 1 := rfl; have := HSz.out; omega)
        clear hTl hSe hez h16 hq HSh HO HLK HBy HLe hm
        go_wp2_with (go_at_call 19; refine HRo.out.mono ?_; rintro e w4 ⟨⟨y, vy, rfl, hy⟩, hb4⟩; have HY := hid hy; have HB4 := hid hb4; clear hy hb4)
        have hmS : (m : Int) ≤ S.size := by have := HSz.out; omega
        have hm2 : m ≤ S.size := by have := HSz.out; omega
        have hwm : IntKind.i64.wrap (m : Int) = m := wrap_in (by omega) (by have := HSz.out; omega)
        have hwq : IntKind.i64.wrap (q : Int) = q := wrap_in (by omega) (by have := HSz.out; omega)
        have htd : Int.tdiv (m : Int) 16 = q := by rw [Int.tdiv_eq_ediv_of_nonneg (by omega)]; exact hmq
        have HB34 : Hid (Below wr.heap.size wr w4) := HB3.out.trans (HB4.out.mono HB3.out.size)
        have D1 : Hid (∀ wx, Below w4.heap.size w4 wx → Calls Try.prog 20 #[.pointer (some ⟨y, 0, none⟩)] wx fun e w' => e = .returned (.string (S.extract 0 m)) ∧ Below w4.heap.size w4 w') := fun wx hx => (HBe.out wx _ vy (HY.out.below hx).ip).mono fun e w' ⟨h1, h2⟩ => ⟨h1, hx.trans (h2.mono hx.size)⟩
        have D2 : Hid (∀ wx, Below w4.heap.size w4 wx → Calls Try.prog 14 #[.pointer (some ⟨X, 0, none⟩), .int .i64 q] wx fun e w' => e = .returned (.int .i64 0) ∧ Hid (∃ v', Io w' X X v' (L.take q) ∧ Below X w1 w')) := fun wx hx => (HCt.out wx (HB34.out.trans (hx.mono HB34.out.size))).mono fun e w' ⟨h1, v', h2, h3, h4⟩ => ⟨h1, v', h2, (HB.out.trans ((HB34.out.trans (hx.mono HB34.out.size)).mono HXl.out)).trans h3⟩
        have D3 : Hid (∀ w9 wx, Hid (∃ v', Io w9 X X v' (L.take q) ∧ Below X w1 w9) → Below w9.heap.size w9 wx → Calls Try.prog 20 #[.pointer (some ⟨X, 0, none⟩)] wx fun e w' => e = .returned (.string (S.extract 0 m)) ∧ Below w.heap.size w w') := fun w9 wx h hx => by
          obtain ⟨v', h1, h2⟩ := h
          exact (HBe.out wx _ v' (h1.below hx).ip).mono fun e w' ⟨h3, h4⟩ => ⟨h3, HBw.out _ (by
            have hX9 : X ≤ w9.heap.size := by have := lt_of_heap h1.ix.blk; omega
            exact (h2.trans (hx.mono hX9)).trans (h4.mono (Nat.le_trans hX9 hx.size)))⟩
        clear hSI hmI HRo HBe HCt hm0 hmm
        go_region_held3 (fun _ => True) ((trivial)) ((first | (go_at_call 20; with_reducible refine (D1.out _ (by first | exact Below.refl _ _ | exact ⟨rfl, rfl, rfl, Nat.le_refl _, fun _ _ => rfl⟩)).mono ?_; rintro e w8 ⟨rfl, hb8⟩) | (go_at_call 14; refine (D2.out _ (by first | exact hb8 | exact hb8.trans ⟨rfl, rfl, rfl, Nat.le_refl _, fun _ _ => rfl⟩)).mono ?_; rintro e w9 ⟨rfl, hb9⟩) | (go_at_call 20; with_reducible refine (D3.out w9 _ hb9 (by first | exact Below.refl _ _ | exact ⟨rfl, rfl, rfl, Nat.le_refl _, fun _ _ => rfl⟩)).mono ?_; rintro e w10 ⟨rfl, hb10⟩)))
        have HB10 := hid hb10
        simp only [Exit.then]
        have hcc : ¬ 9223372036854775807 < S.size + 1 := by have := HSz.out; omega
        have hcd : ¬ 9223372036854775807 < S.size + (⟨#[120]⟩ : ByteArray).size := hcc
        go_wp2_with (go_at_call 19; refine (HBz.out _).mono ?_; rintro e w11 ⟨rfl, rfl⟩)
        go_ret
        exact ⟨rfl, HB10.out⟩
      · have HRb := hid (load_bad (S.extract 0 m) w3 (by rw [hez]; exact h16) (by omega))
        have hmm : ¬ (m : Int) % 16 = 0 := by omega
        have hmm2 : ((m : Int) % 16 != 0) = true := by simp; omega
        clear hez h16 HSh HO HLK HBy HLe hm
        go_wp2_with (go_at_call 19; refine HRb.out.mono ?_; rintro e w4 ⟨rfl, rfl⟩)
        go_ret
        exact ⟨rfl, HBF.out⟩
end Go.Proofs.Ytmhmohkeekmmgaa
