/- The statement's 'built': its walk. -/
import Derived.Test.YtldfbddccmnchaaOxb
namespace Go.Proofs.Ytldfbddccmnchaa
open Go.RowKit
theorem fitB_nil (e : En) : fitB [] e = (decide (0 ≤ e.k) && decide (0 ≤ e.a)) := by
  unfold fitB
  rw [Bool.eq_iff_iff]
  simp only [Bool.and_eq_true, decide_eq_true_eq]
  have : lastE [] = ⟨-1, -1⟩ := rfl
  rw [this]
  simp only
  omega
theorem fitB_snoc (l : List En) (m e : En) : fitB (l ++ [m]) e = (decide (m.k < e.k) && decide (m.a < e.a)) := by unfold fitB; rw [lastE_snoc]
theorem ord_last {l : List En} {m : En} (h : Ord (l ++ [m])) : 0 ≤ m.k ∧ 0 ≤ m.a := h.2 m (by simp)
/-- What 'built' answers. -/
def BuiltP (w : World) (L : List En) (r : Ending) (w' : World) : Prop := ∃ x v v2, r = .returned (.tuple #[.pointer (some ⟨x, 0, none⟩), v2, .bool true]) ∧ Bw w w' w.heap.size x v v2 L L
set_option maxRecDepth 20000 in
set_option maxHeartbeats 4000000 in
theorem built_any (l0 : List En) (a : Option Addr) (cap : Nat) (w : World) (hv : Ens w a l0) (hn : l0.length ≤ 8796093022207) :
    Calls Try.prog 23 #[.slice a l0.length cap] w (BuiltP w (bld l0)) := by
  have HV := hid hv
  obtain ⟨N, hN⟩ : ∃ N, N = l0.length := ⟨_, rfl⟩
  have HN := hid hN
  rw [← hN] at hn ⊢
  clear hv hN
  obtain ⟨i0, hi, hz0, hz1, hz2⟩ := info_parts Try.infoE
  have HS : Hid (Bw w (w.alloc (.cells #[.slice none 0 0] 63)) w.heap.size w.heap.size (.slice none 0 0) (.slice none 0 0) [] []) := ⟨⟨Ix.new _ _, Nat.le_refl _, (fun g hg => by cases hg)⟩, OwE.nil _ _, (fun g hg => by cases hg), (Below.refl _ _).alloc (Nat.le_refl _) _, by simp⟩
  go_enter Try.func23, Try.ntmps23
  go_wp2_with (go_at_call 10; refine (new_any _).mono ?_; rintro e w' ⟨rfl, rfl⟩)
  go_loopg [6, 7] N (fun k vr vi wr => ∃ (j : Nat) (v : Value), j + k = N ∧ vi = .int .i64 j ∧ Hid (Bw w wr w.heap.size w.heap.size v vr (bld (l0.take j)) (bld (l0.take j))))
  case atStart => exact ⟨0, _, by omega, rfl, HS.out⟩
  case round =>
    clear HS
    obtain ⟨j, v, hj, rfl, HW⟩ := hrel
    by_cases hlt : j < N
    · obtain ⟨k', rfl⟩ : ∃ k', gk = k' + 1 := ⟨gk - 1, by omega⟩
      have hltI : (j : Int) < N := by omega
      have hjl : j < l0.length := by rw [← HN.out]; exact hlt
      rcases HV.out with e | ⟨b, off, rfl, hb, hc⟩
      · rw [e] at hjl; cases hjl
      obtain ⟨p0, p1⟩ := hc j hjl
      have HST := hid (bld_step hjl)
      have HO := hid (bld_ord (l0.take j))
      have hbl := bld_len (l0.take j)
      rw [List.length_take] at hbl
      have q0 := (HW.out.bel.cell (p := ⟨b, off + j * 2, none⟩) hb).trans p0
      have q1 := (HW.out.bel.cell (p := ⟨b, off + j * 2 + 1, none⟩) hb).trans p1
      generalize l0.getD j en0 = s at *
      obtain ⟨sk, sa⟩ := s
      simp only at q0 q1
      generalize bld (l0.take j) = L at *
      have hLl : L.length ≤ 8796093022206 := by omega
      have HLl := hid hLl
      have HJ := hid hj
      -- the world with the copied entry, and Add there
      have HW1 : Hid (Bw w (wr.alloc (.cells #[.int .i64 sk, .int .i64 sa] 30)) w.heap.size w.heap.size v u6 L L) := HW.out.later ((Below.refl _ _).alloc (Nat.le_refl _) _)
      have HE1 : Hid ((wr.alloc (.cells #[.int .i64 sk, .int .i64 sa] 30)).heap[wr.heap.size]? = some (.cells #[.int .i64 sk, .int .i64 sa] 30 (0, 0))) := heap_new _ _
      have HNI : Hid (¬ IS w.heap.size v wr.heap.size) := fun hs => absurd (HW.out.io.ix.lt _ hs) (by omega)
      have HA : Hid (∀ n, Calls Try.prog 30 #[.pointer (some ⟨w.heap.size, 0, none⟩), .agg #[.int .i64 sk, .int .i64 sa]] ((wr.alloc (.cells #[.int .i64 sk, .int .i64 sa] 30)).drewN n) fun r w' => r = .returned (.int .i64 (addC L ⟨sk, sa⟩)) ∧ (∃ v', Bw w w' w.heap.size w.heap.size v' u6 (addE L ⟨sk, sa⟩) L) ∧ w'.heap[wr.heap.size]? = some (.cells #[.int .i64 sk, .int .i64 sa] 30 (0, 0))) := fun n => by
        have hb := HW1.out.later (wx := (wr.alloc (.cells #[.int .i64 sk, .int .i64 sa] 30)).drewN n) ⟨rfl, rfl, rfl, Nat.le_refl _, fun _ _ => rfl⟩
        refine (add_any _ ⟨sk, sa⟩ v L _ hb.io.ip (by omega)).mono ?_
        rintro r w' ⟨rfl, hl⟩
        obtain ⟨v', h1, h2⟩ := hb.left hl
        exact ⟨rfl, ⟨v', h1⟩, (h2.block _ (by show wr.heap.size < (wr.alloc _).heap.size; simp) HNI.out).trans HE1.out⟩
      clear hc p0 p1 hb hbl hjl hj hLl
      rcases List.eq_nil_or_concat L with hL | ⟨R, m, hL⟩
      · obtain ⟨n9, x9, c9, hn9, rfl, _⟩ := HW.out.ro.ensN
        obtain rfl : n9 = 0 := by rw [hn9, hL]; rfl
        have HLN : Hid (L.length = 0) := hn9.symm
        have HLH := hid hL
        clear hn9 hL
        by_cases h1 : 0 ≤ sk
        · by_cases h2 : 0 ≤ sa
          · have d1 : decide (0 ≤ sk) = true := by simp [h1]
            have d2 : decide (0 ≤ sa) = true := by simp [h2]
            have HF : Hid (fitB L ⟨sk, sa⟩ = true) := by show _ = _; rw [HLH.out, fitB_nil]; simp [h1, h2]
            have HAD : Hid (addE L ⟨sk, sa⟩ = L ++ [⟨sk, sa⟩]) := if_pos HF.out
            have hac : addC L ⟨sk, sa⟩ = 0 := if_pos HF.out
            rw [hac, HAD.out] at HA
            clear hac
            go_wp2_with fail
            have e0 : ((wr.alloc (.cells #[.int .i64 sk, .int .i64 sa] 30))).cell? ⟨wr.heap.size, 0, none⟩ = some (.int .i64 sk) := (ecell3 HE1.out).1
            have e1 : ((wr.alloc (.cells #[.int .i64 sk, .int .i64 sa] 30))).cell? ⟨wr.heap.size, 1, none⟩ = some (.int .i64 sa) := (ecell3 HE1.out).2.1
            go_big_quiet (fail)
            go_wp2_with (first | (go_at_call 30; refine (HA.out _).mono ?_; rintro r w2 ⟨rfl, ⟨v2, hb2⟩, he2⟩; obtain ⟨y0, y1, y2, y3, y4⟩ := ecell3 he2; have HB2 := hid hb2; have HE2 := hid he2; clear hb2 he2) | (at_builtin; refine wpList_append_lies _ rfl _ _ 35 rfl w.heap.size 30 i0 (.agg #[.int .i64 0, .int .i64 0]) 2 16 Try.underlying35 hi hz0 hz1 hz2 rfl (by decide) _ 0 (ecs L) rfl ?c0 ⟨w2.heap.size, 0, none⟩ 1 1 (enc ⟨sk, sa⟩) rfl rfl ?c1 ?c2 ?c3 ?c4 ?c5 ?c6 _ rfl ?_))
            case c0 => have := (HB2.out.later ((Below.refl _ _).alloc (Nat.le_refl _) (.cells #[.int .i64 sk, .int .i64 sa] 30))).ro; unfold OwE at this; rw [HLN.out] at this; exact this
            case c1 => exact World.news_of_block (heap_new w2 _)
            case c2 => exact enc_one _
            case c3 => omega
            case c4 => unfold maxLen; have := HLl.out; have := HLN.out; omega
            case c5 => have := HLl.out; have := HLN.out; omega
            case c6 => have := HB2.out.le; simp; omega
            intro g cap3 w5 hown hgrow hat hlt5
            have HE := hid ((HB2.out.later ((Below.refl _ _).alloc (Nat.le_refl _) (.cells #[.int .i64 sk, .int .i64 sa] 30))).push (e := ⟨sk, sa⟩) (g := g) (cap := cap3) (by rw [HLN.out]; exact hown) hgrow (by rcases hat with h | h; exact Or.inl h; exact Or.inr (by rw [h]; simp)))
            rw [HLN.out] at HE
            clear hown hgrow hat hlt5
            go_wp2_with fail
            go_roundg k'
            case measure => omega
            case rel => exact ⟨j + 1, v2, by have := HJ.out; omega, congrArg (Value.int .i64) (by omega), by rw [HST.out, HAD.out]; exact HE.out⟩
          · have d1 : decide (0 ≤ sk) = true := by simp [h1]
            have d2 : decide (0 ≤ sa) = false := by simp [h2]
            have HF : Hid (fitB L ⟨sk, sa⟩ = false) := by show _ = _; rw [HLH.out, fitB_nil]; simp [h2]
            have HAD : Hid (addE L ⟨sk, sa⟩ = L) := if_neg (by rw [HF.out]; decide)
            have hac : addC L ⟨sk, sa⟩ = 30 := if_neg (by rw [HF.out]; decide)
            rw [hac, HAD.out] at HA
            clear hac
            go_wp2_with fail
            have e0 : ((wr.alloc (.cells #[.int .i64 sk, .int .i64 sa] 30))).cell? ⟨wr.heap.size, 0, none⟩ = some (.int .i64 sk) := (ecell3 HE1.out).1
            have e1 : ((wr.alloc (.cells #[.int .i64 sk, .int .i64 sa] 30))).cell? ⟨wr.heap.size, 1, none⟩ = some (.int .i64 sa) := (ecell3 HE1.out).2.1
            go_big_quiet (fail)
            go_wp2_with (go_at_call 30; refine (HA.out _).mono ?_; rintro r w2 ⟨rfl, ⟨v2, hb2⟩, he2⟩; obtain ⟨y0, y1, y2, y3, y4⟩ := ecell3 he2; have HB2 := hid hb2; have HE2 := hid he2; clear hb2 he2)
            go_roundg k'
            case measure => omega
            case rel => exact ⟨j + 1, v2, by have := HJ.out; omega, congrArg (Value.int .i64) (by omega), by rw [HST.out, HAD.out]; exact HB2.out⟩
        · have d1 : decide (0 ≤ sk) = false := by simp [h1]
          have HF : Hid (fitB L ⟨sk, sa⟩ = false) := by show _ = _; rw [HLH.out, fitB_nil]; simp [h1]
          have HAD : Hid (addE L ⟨sk, sa⟩ = L) := if_neg (by rw [HF.out]; decide)
          have hac : addC L ⟨sk, sa⟩ = 30 := if_neg (by rw [HF.out]; decide)
          rw [hac, HAD.out] at HA
          clear hac
          go_wp2_with fail
          have e0 : ((wr.alloc (.cells #[.int .i64 sk, .int .i64 sa] 30))).cell? ⟨wr.heap.size, 0, none⟩ = some (.int .i64 sk) := (ecell3 HE1.out).1
          have e1 : ((wr.alloc (.cells #[.int .i64 sk, .int .i64 sa] 30))).cell? ⟨wr.heap.size, 1, none⟩ = some (.int .i64 sa) := (ecell3 HE1.out).2.1
          go_big_quiet (fail)
          go_wp2_with (go_at_call 30; refine (HA.out _).mono ?_; rintro r w2 ⟨rfl, ⟨v2, hb2⟩, he2⟩; obtain ⟨y0, y1, y2, y3, y4⟩ := ecell3 he2; have HB2 := hid hb2; have HE2 := hid he2; clear hb2 he2)
          go_roundg k'
          case measure => omega
          case rel => exact ⟨j + 1, v2, by have := HJ.out; omega, congrArg (Value.int .i64) (by omega), by rw [HST.out, HAD.out]; exact HB2.out⟩
      · rw [List.concat_eq_append] at hL
        obtain ⟨mk, ma⟩ := m
        have hml := ord_last (hL ▸ HO.out)
        simp only at hml
        have HFS : Hid (fitB L ⟨sk, sa⟩ = (decide (mk < sk) && decide (ma < sa))) := by show _ = _; rw [hL]; exact fitB_snoc R _ _
        obtain ⟨n, hnR⟩ : ∃ n, R.length = n := ⟨_, rfl⟩
        have HLN : Hid (L.length = n + 1) := by show _ = _; rw [hL, List.length_append, hnR]; rfl
        obtain ⟨g9, c9, hu6, hg9, hg9l⟩ := World.ownsRow.form HW.out.ro (by rw [HLN.out]; omega)
        have hcl : ∀ k, k < 2 → wr.cell? ⟨g9, n * 2 + k, none⟩ = (enc ⟨mk, ma⟩)[k]? := fun k hk => by
          have h0 : wr.ownsRow w.heap.size 30 2 u6 L.length (ecs L) := HW.out.ro
          rw [hu6] at h0
          have h2 := (h0.cellAt (n * 2 + k) (by rw [HLN.out]; omega)).trans (ecs_at (by rw [HLN.out]; omega) hk)
          rw [h2]
          congr 2
          rw [hL, List.getD_eq_getElem?_getD, List.getElem?_append_right (by omega), hnR]
          simp
        have r0 : wr.cell? ⟨g9, n * 2, none⟩ = some (.int .i64 mk) := hcl 0 (by omega)
        have r1 : wr.cell? ⟨g9, n * 2 + 1, none⟩ = some (.int .i64 ma) := hcl 1 (by omega)
        have hn43 : n ≤ 8796093022206 := by have := HLl.out; have := HLN.out; omega
        rw [HLN.out] at hu6
        subst hu6
        have hg9n := (lt_ne hg9l).1
        clear hcl hL hnR hg9
        by_cases h1 : 0 ≤ sk
        · by_cases h2 : 0 ≤ sa
          · have d1 : decide (0 ≤ sk) = true := by simp [h1]
            have d2 : decide (0 ≤ sa) = true := by simp [h2]
            by_cases h3 : mk < sk
            · have d3 : decide (mk < sk) = true := by simp [h3]
              by_cases h4 : ma < sa
              · have d4 : decide (ma < sa) = true := by simp [h4]
                have HF : Hid (fitB L ⟨sk, sa⟩ = true) := by show _ = _; rw [HFS.out]; simp [h3, h4]
                have HAD : Hid (addE L ⟨sk, sa⟩ = L ++ [⟨sk, sa⟩]) := if_pos HF.out
                have hac : addC L ⟨sk, sa⟩ = 0 := if_pos HF.out
                rw [hac, HAD.out] at HA
                clear hac
                go_wp2_with fail
                have e0 : ((wr.alloc (.cells #[.int .i64 sk, .int .i64 sa] 30))).cell? ⟨wr.heap.size, 0, none⟩ = some (.int .i64 sk) := (ecell3 HE1.out).1
                have e1 : ((wr.alloc (.cells #[.int .i64 sk, .int .i64 sa] 30))).cell? ⟨wr.heap.size, 1, none⟩ = some (.int .i64 sa) := (ecell3 HE1.out).2.1
                have hnI : ((n + 1 : Nat) : Int) - 1 = n := by omega
                have hnb : (n : Int) ≤ 8796093022206 := by omega
                have hz9 : ((n : Int) + 1 == 0) = false := by simp; omega
                go_big_quiet (fail)
                go_wp2_with (first | (go_at_call 30; refine (HA.out _).mono ?_; rintro r w2 ⟨rfl, ⟨v2, hb2⟩, he2⟩; obtain ⟨y0, y1, y2, y3, y4⟩ := ecell3 he2; have HB2 := hid hb2; have HE2 := hid he2; clear hb2 he2) | (at_builtin; refine wpList_append_lies _ rfl _ _ 35 rfl w.heap.size 30 i0 (.agg #[.int .i64 0, .int .i64 0]) 2 16 Try.underlying35 hi hz0 hz1 hz2 rfl (by decide) _ (n + 1) (ecs L) rfl ?c0 ⟨w2.heap.size, 0, none⟩ 1 1 (enc ⟨sk, sa⟩) rfl rfl ?c1 ?c2 ?c3 ?c4 ?c5 ?c6 _ rfl ?_))
                case c0 => have := (HB2.out.later ((Below.refl _ _).alloc (Nat.le_refl _) (.cells #[.int .i64 sk, .int .i64 sa] 30))).ro; unfold OwE at this; rw [HLN.out] at this; exact this
                case c1 => exact World.news_of_block (heap_new w2 _)
                case c2 => exact enc_one _
                case c3 => omega
                case c4 => unfold maxLen; have := HLl.out; have := HLN.out; omega
                case c5 => have := HLl.out; have := HLN.out; omega
                case c6 => have := HB2.out.le; simp; omega
                intro g cap3 w5 hown hgrow hat hlt5
                have HE := hid ((HB2.out.later ((Below.refl _ _).alloc (Nat.le_refl _) (.cells #[.int .i64 sk, .int .i64 sa] 30))).push (e := ⟨sk, sa⟩) (g := g) (cap := cap3) (by rw [HLN.out]; exact hown) hgrow (by rcases hat with h | h; exact Or.inl h; exact Or.inr (by rw [h]; simp)))
                rw [HLN.out] at HE
                clear hown hgrow hat hlt5
                go_wp2_with fail
                go_roundg k'
                case measure => omega
                case rel => exact ⟨j + 1, v2, by have := HJ.out; omega, congrArg (Value.int .i64) (by omega), by rw [HST.out, HAD.out]; exact HE.out⟩
              · have d4 : decide (ma < sa) = false := by simp [h4]
                have HF : Hid (fitB L ⟨sk, sa⟩ = false) := by show _ = _; rw [HFS.out]; simp [h4]
                have HAD : Hid (addE L ⟨sk, sa⟩ = L) := if_neg (by rw [HF.out]; decide)
                have hac : addC L ⟨sk, sa⟩ = 30 := if_neg (by rw [HF.out]; decide)
                rw [hac, HAD.out] at HA
                clear hac
                go_wp2_with fail
                have e0 : ((wr.alloc (.cells #[.int .i64 sk, .int .i64 sa] 30))).cell? ⟨wr.heap.size, 0, none⟩ = some (.int .i64 sk) := (ecell3 HE1.out).1
                have e1 : ((wr.alloc (.cells #[.int .i64 sk, .int .i64 sa] 30))).cell? ⟨wr.heap.size, 1, none⟩ = some (.int .i64 sa) := (ecell3 HE1.out).2.1
                have hnI : ((n + 1 : Nat) : Int) - 1 = n := by omega
                have hnb : (n : Int) ≤ 8796093022206 := by omega
                have hz9 : ((n : Int) + 1 == 0) = false := by simp; omega
                go_big_quiet (fail)
                go_wp2_with (go_at_call 30; refine (HA.out _).mono ?_; rintro r w2 ⟨rfl, ⟨v2, hb2⟩, he2⟩; obtain ⟨y0, y1, y2, y3, y4⟩ := ecell3 he2; have HB2 := hid hb2; have HE2 := hid he2; clear hb2 he2)
                go_roundg k'
                case measure => omega
                case rel => exact ⟨j + 1, v2, by have := HJ.out; omega, congrArg (Value.int .i64) (by omega), by rw [HST.out, HAD.out]; exact HB2.out⟩
            · have d3 : decide (mk < sk) = false := by simp [h3]
              have HF : Hid (fitB L ⟨sk, sa⟩ = false) := by show _ = _; rw [HFS.out]; simp [h3]
              have HAD : Hid (addE L ⟨sk, sa⟩ = L) := if_neg (by rw [HF.out]; decide)
              have hac : addC L ⟨sk, sa⟩ = 30 := if_neg (by rw [HF.out]; decide)
              rw [hac, HAD.out] at HA
              clear hac
              go_wp2_with fail
              have e0 : ((wr.alloc (.cells #[.int .i64 sk, .int .i64 sa] 30))).cell? ⟨wr.heap.size, 0, none⟩ = some (.int .i64 sk) := (ecell3 HE1.out).1
              have e1 : ((wr.alloc (.cells #[.int .i64 sk, .int .i64 sa] 30))).cell? ⟨wr.heap.size, 1, none⟩ = some (.int .i64 sa) := (ecell3 HE1.out).2.1
              have hnI : ((n + 1 : Nat) : Int) - 1 = n := by omega
              have hnb : (n : Int) ≤ 8796093022206 := by omega
              have hz9 : ((n : Int) + 1 == 0) = false := by simp; omega
              go_big_quiet (fail)
              go_wp2_with (go_at_call 30; refine (HA.out _).mono ?_; rintro r w2 ⟨rfl, ⟨v2, hb2⟩, he2⟩; obtain ⟨y0, y1, y2, y3, y4⟩ := ecell3 he2; have HB2 := hid hb2; have HE2 := hid he2; clear hb2 he2)
              go_roundg k'
              case measure => omega
              case rel => exact ⟨j + 1, v2, by have := HJ.out; omega, congrArg (Value.int .i64) (by omega), by rw [HST.out, HAD.out]; exact HB2.out⟩
          · have d1 : decide (0 ≤ sk) = true := by simp [h1]
            have d2 : decide (0 ≤ sa) = false := by simp [h2]
            have HF : Hid (fitB L ⟨sk, sa⟩ = false) := by show _ = _; rw [HFS.out]; have : ¬ ma < sa := (by omega); simp [this]
            have HAD : Hid (addE L ⟨sk, sa⟩ = L) := if_neg (by rw [HF.out]; decide)
            have hac : addC L ⟨sk, sa⟩ = 30 := if_neg (by rw [HF.out]; decide)
            rw [hac, HAD.out] at HA
            clear hac
            go_wp2_with fail
            have e0 : ((wr.alloc (.cells #[.int .i64 sk, .int .i64 sa] 30))).cell? ⟨wr.heap.size, 0, none⟩ = some (.int .i64 sk) := (ecell3 HE1.out).1
            have e1 : ((wr.alloc (.cells #[.int .i64 sk, .int .i64 sa] 30))).cell? ⟨wr.heap.size, 1, none⟩ = some (.int .i64 sa) := (ecell3 HE1.out).2.1
            have hnI : ((n + 1 : Nat) : Int) - 1 = n := by omega
            have hnb : (n : Int) ≤ 8796093022206 := by omega
            have hz9 : ((n : Int) + 1 == 0) = false := by simp; omega
            go_big_quiet (fail)
            go_wp2_with (go_at_call 30; refine (HA.out _).mono ?_; rintro r w2 ⟨rfl, ⟨v2, hb2⟩, he2⟩; obtain ⟨y0, y1, y2, y3, y4⟩ := ecell3 he2; have HB2 := hid hb2; have HE2 := hid he2; clear hb2 he2)
            go_roundg k'
            case measure => omega
            case rel => exact ⟨j + 1, v2, by have := HJ.out; omega, congrArg (Value.int .i64) (by omega), by rw [HST.out, HAD.out]; exact HB2.out⟩
        · have d1 : decide (0 ≤ sk) = false := by simp [h1]
          have HF : Hid (fitB L ⟨sk, sa⟩ = false) := by show _ = _; rw [HFS.out]; have : ¬ mk < sk := (by omega); simp [this]
          have HAD : Hid (addE L ⟨sk, sa⟩ = L) := if_neg (by rw [HF.out]; decide)
          have hac : addC L ⟨sk, sa⟩ = 30 := if_neg (by rw [HF.out]; decide)
          rw [hac, HAD.out] at HA
          clear hac
          go_wp2_with fail
          have e0 : ((wr.alloc (.cells #[.int .i64 sk, .int .i64 sa] 30))).cell? ⟨wr.heap.size, 0, none⟩ = some (.int .i64 sk) := (ecell3 HE1.out).1
          have e1 : ((wr.alloc (.cells #[.int .i64 sk, .int .i64 sa] 30))).cell? ⟨wr.heap.size, 1, none⟩ = some (.int .i64 sa) := (ecell3 HE1.out).2.1
          have hnI : ((n + 1 : Nat) : Int) - 1 = n := by omega
          have hnb : (n : Int) ≤ 8796093022206 := by omega
          have hz9 : ((n : Int) + 1 == 0) = false := by simp; omega
          go_big_quiet (fail)
          go_wp2_with (go_at_call 30; refine (HA.out _).mono ?_; rintro r w2 ⟨rfl, ⟨v2, hb2⟩, he2⟩; obtain ⟨y0, y1, y2, y3, y4⟩ := ecell3 he2; have HB2 := hid hb2; have HE2 := hid he2; clear hb2 he2)
          go_roundg k'
          case measure => omega
          case rel => exact ⟨j + 1, v2, by have := HJ.out; omega, congrArg (Value.int .i64) (by omega), by rw [HST.out, HAD.out]; exact HB2.out⟩
    · have hltI : ¬ (j : Int) < N := by omega
      have e : l0.take j = l0 := List.take_of_length_le (by rw [← HN.out]; omega)
      rw [e] at HW
      clear e
      go_wp2_with fail
      refine bodyPost_ret (v := .tuple #[.pointer (some ⟨w.heap.size, 0, none⟩), u6, .bool true]) (by simp [results, Try.results23, go_sem]) rfl ?_
      exact ⟨_, _, _, rfl, HW.out⟩
end Go.Proofs.Ytldfbddccmnchaa
