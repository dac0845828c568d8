/- TimeidxBounds: its walk. -/
import Derived.Test.YtmhmohkeekmmgaaTxb
namespace Go.Proofs.Ytmhmohkeekmmgaa
open Go.RowKit
/-- A row of bytes where it lies. -/
def Byt (w : World) (a : Option Addr) (l : List Nat) : Prop := l = [] ∨ ∃ b off, a = some ⟨b, off, none⟩ ∧ b < w.heap.size ∧ ∀ j, j < l.length → w.cell? ⟨b, off + j, none⟩ = some (.int .u8 (l.getD j 0 : Nat)) ∧ l.getD j 0 < 256
theorem cnt_lt : ∀ {l : List En} {t : Int} {j : Nat}, j < cnt l t → (l.getD j en0).k < t
  | [], t, j, h => by simp [cnt] at h
  | e :: r, t, j, h => by
    unfold cnt at h
    rw [List.takeWhile_cons] at h
    by_cases he : e.k < t
    · rw [if_pos (decide_eq_true he), List.length_cons] at h
      cases j with
      | zero => exact he
      | succ j => exact cnt_lt (l := r) (j := j) (by unfold cnt; omega)
    · rw [if_neg (by simp [he])] at h; simp at h
theorem cnt_ge : ∀ {l : List En} {t : Int}, cnt l t < l.length → t ≤ (l.getD (cnt l t) en0).k
  | [], t, h => by simp at h
  | e :: r, t, h => by
    by_cases he : e.k < t
    · have e1 : cnt (e :: r) t = cnt r t + 1 := by unfold cnt; rw [List.takeWhile_cons, if_pos (decide_eq_true he), List.length_cons]
      rw [e1] at h ⊢
      exact cnt_ge (l := r) (by simp at h; omega)
    · have e1 : cnt (e :: r) t = 0 := by unfold cnt; rw [List.takeWhile_cons, if_neg (by simp [he])]; rfl
      rw [e1]
      show t ≤ e.k
      omega
set_option maxRecDepth 20000 in
set_option maxHeartbeats 4000000 in
theorem bounds_walk (first : Int) (st : List Nat) (a : Option Addr) (cap : Nat) (t : Int) (w : World) (hv : Byt w a st) (hn : st.length ≤ 1048576) :
    Calls Try.prog 6 #[.int .i64 first, .slice a st.length cap, .int .i64 t] w fun e w' => e = .returned (.bool true) ∧ Below w.heap.size w w' := by
  have HF := hid (finds_any w)
  have HV := hid hv
  obtain ⟨N, hN⟩ : ∃ N, N = st.length := ⟨_, rfl⟩
  have HN := hid hN
  rw [← hN] at hn ⊢
  obtain ⟨k0, hk0⟩ : ∃ k0, Int.tmod first 1099511627776 = k0 := ⟨_, rfl⟩
  have hk1 : -1099511627776 < k0 := by rw [← hk0]; have := Int.lt_tmod_of_pos first (show (0 : Int) < 1099511627776 by omega); omega
  have hk2 : k0 < 1099511627776 := by rw [← hk0]; exact Int.tmod_lt_of_pos first (by omega)
  clear hv hN
  go_enter Try.func6, Try.ntmps6
  go_wp2_with (first | (go_at_call 9; refine HF.out.mono ?_; rintro e w1 ⟨rfl, hb1⟩; have HB1 := hid hb1; have HS : Hid (Bw w1 (w1.alloc (.cells #[.slice none 0 0] 60)) w1.heap.size w1.heap.size (.slice none 0 0) (.slice none 0 0) [] []) := ⟨⟨Ix.new _ _, Nat.le_refl _, (fun g hg => by cases hg)⟩, OwE.nil _ _, (fun g hg => by cases hg), (Below.refl _ _).alloc (Nat.le_refl _) _, (by simp)⟩; clear hb1) | (go_at_call 10; refine (new_any _).mono ?_; rintro e w' ⟨rfl, rfl⟩))
  have HBw : Hid (∀ wx, Below w1.heap.size w1 wx → Below w.heap.size w wx) := fun wx hx => HB1.out.trans (hx.mono HB1.out.size)
  generalize hX : w1.heap.size = X at *
  clear hX HF HB1
  obtain ⟨i0, hi, hz0, hz1, hz2⟩ := info_parts Try.infoE
  go_loopg [8, 9, 10, 28] N (fun k vk va vr vi wr => ∃ (j : Nat) (v : Value) (key at' : Int) (L : List En), j + k = N ∧ vi = .int .i64 j ∧ vk = .int .i64 key ∧ va = .int .i64 at' ∧ -1099511627776 < key ∧ key ≤ 1099511627776 + 3 * j ∧ 0 ≤ at' ∧ at' ≤ 64 * j ∧ Hid (L.length = j) ∧ Hid (Ord L) ∧ Hid (L = [] ∨ ∃ R, L = R ++ [⟨key, at'⟩]) ∧ Hid (Bw w1 wr X X v vr L L))
  case atStart => exact ⟨0, _, k0, 0, [], by omega, rfl, by first | rfl | rw [← hk0], rfl, by omega, by omega, by omega, by omega, rfl, Ord.nil, Or.inl rfl, HS.out⟩
  case round =>
    clear HS
    obtain ⟨j, v, key, at', L, hj, rfl, rfl, rfl, hb1, hb2, hb3, hb4, HLn, HO, HLa, HW⟩ := hrel
    by_cases hlt : j < N
    · obtain ⟨k', rfl⟩ : ∃ k', gk = k' + 1 := ⟨gk - 1, by omega⟩
      have hltI : (j : Int) < N := by omega
      have hjl : j < st.length := by rw [← HN.out]; exact hlt
      rcases HV.out with e | ⟨b, off, rfl, hb, hc⟩
      · rw [e] at hjl; cases hjl
      obtain ⟨p0, p1⟩ := hc j hjl
      have q0 := ((HBw.out _ HW.out.bel).cell (p := ⟨b, off + j, none⟩) hb).trans p0
      generalize st.getD j 0 = V at *
      obtain ⟨r, hr⟩ : ∃ r : Nat, V % 4 = r := ⟨_, rfl⟩
      obtain ⟨d, hd⟩ : ∃ d : Nat, V / 4 = d := ⟨_, rfl⟩
      have hrI : (V : Int) % 4 = r := by omega
      have hdI : (V : Int) / 4 = d := by omega
      have hr3 : r ≤ 3 := by omega
      have hd63 : d ≤ 63 := by omega
      obtain ⟨nk, hnk⟩ : ∃ nk, key + (r : Int) = nk := ⟨_, rfl⟩
      obtain ⟨na, hna⟩ : ∃ na, at' + 1 + (d : Int) = na := ⟨_, rfl⟩
      have HFt : Hid (fitB L ⟨nk, na⟩ = true) := by
        show _ = _
        rcases HLa.out with h | ⟨R, h⟩
        · rw [h, fitB_nil]; exact decide_eq_true (by show 0 ≤ na; omega)
        · rw [h, fitB_snoc, decide_eq_true (show (0 : Int) ≤ na by omega), decide_eq_true (show at' < na by omega), decide_eq_true (show key ≤ nk by omega)]
          rfl
      have HAD : Hid (addE L ⟨nk, na⟩ = L ++ [⟨nk, na⟩]) := if_pos HFt.out
      have HON := hid (HO.out.snoc HFt.out)
      have HJ := hid hj
      have HNK := hid hnk
      have HNA := hid hna
      have hjb : j ≤ 1048576 := by omega
      have HBd : Hid (-1099511627776 < nk ∧ nk ≤ 1099511627776 + 3 * ((j + 1 : Nat) : Int) ∧ 0 ≤ na ∧ na ≤ 64 * ((j + 1 : Nat) : Int)) := ⟨by omega, by omega, by omega, by omega⟩
      have hwk : wrap64 (key + (r : Int)) = nk := by rw [hnk]; unfold wrap64; omega
      have hwa1 : wrap64 (at' + 1) = at' + 1 := by unfold wrap64; omega
      have hwa : wrap64 (at' + 1 + (d : Int)) = na := by rw [hna]; unfold wrap64; omega
      have HWa : Hid (Bw w1 (wr.alloc (.cells #[.int .i64 nk, .int .i64 na] 29)) X X v u10 L L) := HW.out.later ((Below.refl _ _).alloc (Nat.le_refl _) _)
      have HCO : Hid ((wr.alloc (.cells #[.int .i64 nk, .int .i64 na] 29)).ownsRow X 29 2 u10 j (ecs L)) := by have := HWa.out.ro; unfold OwE at this; rw [HLn.out] at this; exact this
      clear hc p0 hb hr hd hj hjl
      go_wp2_with (at_builtin; refine wpList_append_lies _ rfl _ _ 45 rfl X 29 i0 (.agg #[.int .i64 0, .int .i64 0]) 2 16 Try.underlying45 hi hz0 hz1 hz2 rfl (by decide) _ j (ecs L) rfl ?c0 ⟨wr.heap.size, 0, none⟩ 1 1 (enc ⟨nk, na⟩) rfl rfl ?c1 ?c2 ?c3 ?c4 ?c5 ?c6 _ rfl ?_)
      case c0 => exact HCO.out
      case c1 => exact World.news_of_block (heap_new wr _)
      case c2 => exact enc_one _
      case c3 => omega
      case c4 => unfold maxLen; omega
      case c5 => omega
      case c6 => exact HWa.out.le
      intro g cap3 w5 hown hgrow hat hlt5
      have HE := hid (HWa.out.push (e := ⟨nk, na⟩) (g := g) (cap := cap3) (by rw [HLn.out]; exact hown) hgrow (by rcases hat with h | h; exact Or.inl h; exact Or.inr (by rw [h]; simp)))
      rw [HLn.out] at HE
      have HLn2 : Hid ((L ++ [(⟨nk, na⟩ : En)]).length = j + 1) := by show _ = _; rw [List.length_append, HLn.out]; rfl
      have hcl : ∀ k, k < 2 → w5.cell? ⟨g, j * 2 + k, none⟩ = (enc ⟨nk, na⟩)[k]? := fun k hk => by
        have h0 : w5.ownsRow X 29 2 (.slice (some ⟨g, 0, none⟩) (j + 1) cap3) (j + 1) (ecs (L ++ [(⟨nk, na⟩ : En)])) := by have := HE.out.ro; unfold OwE at this; rw [HLn2.out] at this; exact this
        have h2 := (h0.cellAt (j * 2 + k) (by omega)).trans (ecs_at (by rw [HLn2.out]; omega) hk)
        rw [h2, List.getD_eq_getElem?_getD, List.getElem?_append_right (by rw [HLn.out]; omega), HLn.out]
        simp
      have r0 : w5.cell? ⟨g, j * 2, none⟩ = some (.int .i64 nk) := hcl 0 (by omega)
      have r1 : w5.cell? ⟨g, j * 2 + 1, none⟩ = some (.int .i64 na) := hcl 1 (by omega)
      have HAp : Hid (Calls Try.prog 12 #[.pointer (some ⟨X, 0, none⟩), .agg #[.int .i64 nk, .int .i64 na]] w5 fun r w' => r = .returned (.int .i64 0) ∧ ∃ v', Bw w1 w' X X v' (.slice (some ⟨g, 0, none⟩) (j + 1) cap3) (L ++ [(⟨nk, na⟩ : En)]) (L ++ [(⟨nk, na⟩ : En)])) := by
        have h1 := append_any X ⟨nk, na⟩ v L w5 HE.out.io.ix (by rw [HLn.out]; omega)
        rw [(fitB_C _ _).2 HFt.out, HAD.out] at h1
        exact h1.mono fun r w' ⟨h2, v', h3, h4, h5⟩ => ⟨h2, v', HE.out.app h3 h4 h5⟩
      have hnI : ((j + 1 : Nat) : Int) - 1 = j := by omega
      clear hown hgrow hat hlt5 hcl
      go_wp2_with (go_at_call 12; refine HAp.out.mono ?_; rintro r w6 ⟨rfl, v6, hb6⟩; have HB6 := hid hb6; clear hb6)
      go_roundg k'
      case measure => omega
      case rel => exact ⟨j + 1, v6, nk, na, _, by have := HJ.out; omega, congrArg (Value.int .i64) (by omega), rfl, rfl, HBd.out.1, HBd.out.2.1, HBd.out.2.2.1, HBd.out.2.2.2, HLn2.out, HON.out, Or.inr ⟨L, rfl⟩, HB6.out⟩
    · clear hi hz0 hz1 hz2
      have hltI : ¬ (j : Int) < N := by omega
      have hjN : j = N := by omega
      subst hjN
      obtain ⟨n9, a9, c9, hn9, rfl, hens⟩ := HW.out.ro.ensN
      rw [HLn.out] at hn9
      subst hn9
      have HE9 := hid hens
      clear hens HLa
      go_wp2_with fail
      go_loopg [13, 14] n9 (fun k vm vn wx => ∃ m : Nat, vm = .int .i64 m ∧ vn = .int .i64 k ∧ k ≤ n9 ∧ Hid (m + bits k = bits n9) ∧ wr = wx)
      case atStart => exact ⟨0, rfl, rfl, Nat.le_refl _, by show 0 + _ = _; omega, rfl⟩
      case round =>
        obtain ⟨m, rfl, rfl, hk9, HMB, rfl⟩ := hrel
        have hm46 : m ≤ 46 := by have := HMB.out; have := bits_le n9 (by omega); omega
        by_cases h1 : 0 < gk
        · have h1I : (0 : Int) < gk := by omega
          have HX : Hid (m + 1 + bits (gk / 2) = bits n9) := by have := HMB.out; have := bits_half gk (by omega); show _ = _; omega
          go_wp2_with fail
          go_roundg (gk / 2)
          case measure => omega
          case rel => exact ⟨m + 1, by go_num, by go_num, by omega, HX.out, rfl⟩
        · have h1I : ¬ (0 : Int) < gk := by omega
          have hbm : m = bits n9 := by have := HMB.out; have e : gk = 0 := by omega
                                       subst e; rw [bits_zero] at this; omega
          have HBM := hid hbm
          clear hbm HMB
          go_wp2_with fail
          have HG : Hid ((wr.alloc (.cells #[.int .i64 t, .int .i64 k0, .int .i64 key, .int .i64 (key + 1), .int .i64 ((k0 + key).tdiv 2)] 2)).heap[wr.heap.size]? = some (.cells #[.int .i64 t, .int .i64 k0, .int .i64 key, .int .i64 (key + 1), .int .i64 ((k0 + key).tdiv 2)] 2 (0, 0))) := heap_new _ _
          have HWq : Hid (Bw w1 (wr.alloc (.cells #[.int .i64 t, .int .i64 k0, .int .i64 key, .int .i64 (key + 1), .int .i64 ((k0 + key).tdiv 2)] 2)) X X v (.slice a9 n9 c9) L L) := HW.out.later ((Below.refl _ _).alloc (Nat.le_refl _) _)
          have HEq : Hid (Ens (wr.alloc (.cells #[.int .i64 t, .int .i64 k0, .int .i64 key, .int .i64 (key + 1), .int .i64 ((k0 + key).tdiv 2)] 2)) a9 L) := HE9.out.kept ((Below.refl wr.heap.size wr).alloc (Nat.le_refl _) _) (Nat.le_refl _)
          generalize wr.alloc (.cells #[.int .i64 t, .int .i64 k0, .int .i64 key, .int .i64 (key + 1), .int .i64 ((k0 + key).tdiv 2)] 2) = wq at *
          generalize wr.heap.size = G at *
          have HRw : Hid (∀ wx (i : Nat), i < 5 → Below wq.heap.size wq wx → ∃ tt, wx.cell? ⟨G, i, none⟩ = some (.int .i64 tt)) := fun wx i hi hx => by
            have h1 := cell_of (i := i) ((hx.block _ (lt_of_heap HG.out)).trans HG.out)
            rcases (by omega : i = 0 ∨ i = 1 ∨ i = 2 ∨ i = 3 ∨ i = 4) with rfl | rfl | rfl | rfl | rfl <;> exact ⟨_, h1⟩
          have HGl : Hid (G < wq.heap.size) := lt_of_heap HG.out
          have HEn : Hid (Below w.heap.size w wq) := HBw.out _ HWq.out.bel
          clear HG
          go_loopg [80] 5 (fun k vi wx => ∃ i : Nat, i + k = 5 ∧ vi = .int .i64 i ∧ Hid (Below wq.heap.size wq wx))
          case atStart => exact ⟨0, by omega, rfl, Below.refl _ _⟩
          case round =>
            obtain ⟨i5, hi5, rfl, HBx⟩ := hrel
            by_cases hlt5 : i5 < 5
            · obtain ⟨k5, rfl⟩ : ∃ k5, gk = k5 + 1 := ⟨gk - 1, by omega⟩
              have hlt5I : (i5 : Int) < 5 := by omega
              obtain ⟨tt, htt⟩ := HRw.out _ i5 hlt5 HBx.out
              have HFi : Hid (Calls Try.prog 24 #[.pointer (some ⟨X, 0, none⟩), .int .i64 tt] wr fun r w' => r = .returned (findV L tt) ∧ Below wr.heap.size wr w') := find_any _ tt v L wr (HWq.out.io.below HBx.out).ip HO.out (by rw [HLn.out]; omega)
              obtain ⟨C, hC⟩ : ∃ C, C = cnt L tt := ⟨_, rfl⟩
              obtain ⟨P, hP⟩ : ∃ P, P = pr L tt := ⟨_, rfl⟩
              unfold findV at HFi
              rw [← hC, ← hP] at HFi
              have hCn : C ≤ n9 := by rw [hC, ← HLn.out]; exact cnt_le L tt
              have hPm : P ≤ m := by rw [hP, HBM.out, ← HLn.out]; exact pr_le L tt
              have HClt : Hid (∀ q, q < C → (L.getD q en0).k < tt) := fun q hq => cnt_lt (by rw [← hC]; exact hq)
              have HCge : Hid (C < n9 → tt ≤ (L.getD C en0).k) := fun hq => by rw [hC]; exact cnt_ge (by rw [← hC, HLn.out]; exact hq)
              have HPz : Hid (n9 = 0 → P = 0) := fun h => by
                have : L = [] := List.eq_nil_of_length_eq_zero (by rw [HLn.out]; exact h)
                rw [hP, this]; rfl
              have HPp : Hid (0 < n9 → 0 < P) := fun h => by
                rw [hP]; unfold pr prb; rw [if_pos (by rw [HLn.out]; exact h)]; omega
              have HCell : Hid (∀ wx q, Below wr.heap.size wr wx → q < n9 → ∃ b off, a9 = some ⟨b, off, none⟩ ∧ wx.cell? ⟨b, off + q * 2, none⟩ = some (.int .i64 (L.getD q en0).k) ∧ wx.cell? ⟨b, off + q * 2 + 1, none⟩ = some (.int .i64 (L.getD q en0).a)) := fun wx q hx hq => by
                have h1 := HEq.out.kept (HBx.out.trans (hx.mono HBx.out.size)) (Nat.le_refl _)
                rcases h1 with e | ⟨b, off, e, hb, hc⟩
                · exact absurd (by rw [e] at HLn; exact HLn.out) (by show ¬ (0 = n9); omega)
                · obtain ⟨c1, c2⟩ := hc q (by rw [HLn.out]; exact hq)
                  exact ⟨b, off, e, c1, c2⟩
              have HAt : Hid (atE L ((C : Int) - 1) = if C = 0 then (en0, false) else (L.getD (C - 1) en0, true)) := by
                show _ = _
                unfold atE
                by_cases h : C = 0
                · rw [if_pos h, if_neg (by omega)]
                · rw [if_neg h, if_pos (by rw [HLn.out]; omega)]
                  congr 2
                  omega
              rw [HAt.out] at HFi
              have HI5 := hid hi5
              have hm46' : (m : Int) ≤ 46 := by omega
              have hPmI : ¬ ((m : Int) + 1 < P) := by omega
              have hP0 : ¬ ((P : Int) < 0) := by omega
              clear hC hP HAt HRw hk9 hi5
              by_cases hN0 : n9 = 0
              · have hC0 : C = 0 := by omega
                have hPe : (P : Int) = 0 := by have := HPz.out hN0; omega
                have hPgt : ¬ (0 : Int) < P := by omega
                have hPd : decide ((0 : Int) < P) = false := decide_eq_false hPgt
                have hnz : ((n9 : Int) == 0) = true := by simp; omega
                have hnz2 : decide ((n9 : Int) = 0) = true := decide_eq_true (by omega)
                have HN0 := hid hN0
                clear hN0
                rw [if_pos hC0] at HFi
                subst hC0
                unfold enV en0 at HFi
                simp only at HFi
                have HBf : Hid (∀ w2, Below wr.heap.size wr w2 → Below wr.heap.size wr (w2.alloc (.cells #[.int .i64 0, .int .i64 0] 29))) := fun w2 h => h.alloc h.size _
                go_wp2_with (go_at_call 24; refine HFi.out.mono ?_; rintro r w2 ⟨rfl, hb2⟩; have HB2 := hid (HBf.out w2 hb2); have HEe : Hid ((w2.alloc (.cells #[.int .i64 0, .int .i64 0] 29)).heap[w2.heap.size]? = some (.cells #[.int .i64 0, .int .i64 0] 29 (0, 0))) := heap_new _ _; clear hb2)
                obtain ⟨e0, e1, _⟩ := ecell3 HEe.out
                generalize w2.alloc (.cells #[.int .i64 0, .int .i64 0] 29) = w3 at *
                generalize w2.heap.size = eb at *
                go_loopg [20] 0 (fun k vi wx => ∃ q : Nat, q + k = 0 ∧ vi = .int .i64 q ∧ w3 = wx)
                case atStart => exact ⟨0, by omega, rfl, rfl⟩
                case round =>
                  obtain ⟨q, hq, rfl, rfl⟩ := hrel
                  · obtain rfl : q = 0 := by omega
                    have hqI : ¬ ((0 : Nat) : Int) < n9 := by have := HN0.out; omega
                    have hd1 : decide ((0 : Nat) < n9) = false := decide_eq_false (by have := HN0.out; omega)
                    have hd2 : decide (((0 : Nat) : Int) < n9) = false := decide_eq_false hqI
                    go_wp2_with fail
                    go_big_quiet (fail)
                    go_wp2_with fail
                    go_roundg k5
                    case measure => omega
                    case rel => exact ⟨i5 + 1, by have := HI5.out; omega, congrArg (Value.int .i64) (by omega), (HBx.out.trans (HB2.out.mono HBx.out.size)).trans ⟨rfl, rfl, rfl, Nat.le_refl _, fun _ _ => rfl⟩⟩
              · have hPgt : (0 : Int) < P := by have := HPp.out (by omega); omega
                have hPd : decide ((0 : Int) < P) = true := decide_eq_true hPgt
                have hPd2 : decide ((m : Int) + 1 < P) = false := decide_eq_false hPmI
                have hnz : ¬ (n9 : Int) = 0 := by omega
                have hnz2 : ((n9 : Int) == 0) = false := by simp; omega
                by_cases hC0 : C = 0
                · rw [if_pos hC0] at HFi
                  subst hC0
                  unfold enV en0 at HFi
                  simp only at HFi
                  have HBf : Hid (∀ w2, Below wr.heap.size wr w2 → Below wr.heap.size wr (w2.alloc (.cells #[.int .i64 0, .int .i64 0] 29))) := fun w2 h => h.alloc h.size _
                  go_wp2_with (go_at_call 24; refine HFi.out.mono ?_; rintro r w2 ⟨rfl, hb2⟩; have HB2 := hid (HBf.out w2 hb2); have HEe : Hid ((w2.alloc (.cells #[.int .i64 0, .int .i64 0] 29)).heap[w2.heap.size]? = some (.cells #[.int .i64 0, .int .i64 0] 29 (0, 0))) := heap_new _ _; clear hb2)
                  obtain ⟨e0, e1, _⟩ := ecell3 HEe.out
                  generalize w2.alloc (.cells #[.int .i64 0, .int .i64 0] 29) = w3 at *
                  generalize w2.heap.size = eb at *
                  go_loopg [20] 0 (fun k vi wx => ∃ q : Nat, q + k = 0 ∧ vi = .int .i64 q ∧ w3 = wx)
                  case atStart => exact ⟨0, by omega, rfl, rfl⟩
                  case round =>
                    obtain ⟨q, hq, rfl, rfl⟩ := hrel
                    · obtain rfl : q = 0 := by omega
                      by_cases hqn : 0 < n9
                      · have hqI : ((0 : Nat) : Int) < n9 := by omega
                        have hd1 : decide ((0 : Nat) < n9) = true := decide_eq_true hqn
                        have hd2 : decide (((0 : Nat) : Int) < n9) = true := decide_eq_true hqI
                        obtain ⟨b0, off0, e0', c3, c4⟩ := HCell.out _ 0 HB2.out hqn
                        have hge7 := HCge.out hqn
                        have hlt7 : ¬ (L.getD 0 en0).k < tt := by omega
                        have hd3 : decide ((L.getD 0 en0).k < tt) = false := decide_eq_false hlt7
                        generalize L.getD 0 en0 = eq at *
                        obtain ⟨qk, qa⟩ := eq
                        simp only [Nat.zero_mul, Nat.add_zero] at c3 c4 hlt7 hd3
                        subst e0'
                        go_wp2_with fail
                        go_big_quiet (fail)
                        go_wp2_with fail
                        go_roundg k5
                        case measure => omega
                        case rel => exact ⟨i5 + 1, by have := HI5.out; omega, congrArg (Value.int .i64) (by omega), (HBx.out.trans (HB2.out.mono HBx.out.size)).trans ⟨rfl, rfl, rfl, Nat.le_refl _, fun _ _ => rfl⟩⟩
                      · have hqI : ¬ ((0 : Nat) : Int) < n9 := by omega
                        have hd1 : decide ((0 : Nat) < n9) = false := decide_eq_false (by omega)
                        have hd2 : decide (((0 : Nat) : Int) < n9) = false := decide_eq_false hqI
                        go_wp2_with fail
                        go_big_quiet (fail)
                        go_wp2_with fail
                        go_roundg k5
                        case measure => omega
                        case rel => exact ⟨i5 + 1, by have := HI5.out; omega, congrArg (Value.int .i64) (by omega), (HBx.out.trans (HB2.out.mono HBx.out.size)).trans ⟨rfl, rfl, rfl, Nat.le_refl _, fun _ _ => rfl⟩⟩
                · rw [if_neg hC0] at HFi
                  have HCl := hid (fun wx hx => HCell.out wx (C - 1) hx (by omega))
                  generalize L.getD (C - 1) en0 = eo at *
                  obtain ⟨ok, oa⟩ := eo
                  unfold enV at HFi
                  simp only at HFi HCl
                  have HBf : Hid (∀ w2, Below wr.heap.size wr w2 → Below wr.heap.size wr (w2.alloc (.cells #[.int .i64 ok, .int .i64 oa] 29))) := fun w2 h => h.alloc h.size _
                  go_wp2_with (go_at_call 24; refine HFi.out.mono ?_; rintro r w2 ⟨rfl, hb2⟩; have HB2 := hid (HBf.out w2 hb2); have HEe : Hid ((w2.alloc (.cells #[.int .i64 ok, .int .i64 oa] 29)).heap[w2.heap.size]? = some (.cells #[.int .i64 ok, .int .i64 oa] 29 (0, 0))) := heap_new _ _; clear hb2)
                  obtain ⟨e0, e1, _⟩ := ecell3 HEe.out
                  generalize w2.alloc (.cells #[.int .i64 ok, .int .i64 oa] 29) = w3 at *
                  generalize w2.heap.size = eb at *
                  go_loopg [20] C (fun k vi wx => ∃ q : Nat, q + k = C ∧ vi = .int .i64 q ∧ w3 = wx)
                  case atStart => exact ⟨0, by omega, rfl, rfl⟩
                  case round =>
                    obtain ⟨q, hq, rfl, rfl⟩ := hrel
                    by_cases hqC : q < C
                    · obtain ⟨k7, rfl⟩ : ∃ k7, gk = k7 + 1 := ⟨gk - 1, by omega⟩
                      have hqn : q < n9 := by omega
                      have hqI : (q : Int) < n9 := by omega
                      have hd1 : decide (q < n9) = true := decide_eq_true hqn
                      have hd2 : decide ((q : Int) < n9) = true := decide_eq_true hqI
                      obtain ⟨b, off, rfl, c1, c2⟩ := HCell.out _ q HB2.out hqn
                      have hlt7 := HClt.out q hqC
                      have hd3 : decide ((L.getD q en0).k < tt) = true := decide_eq_true hlt7
                      generalize L.getD q en0 = eq at *
                      obtain ⟨qk, qa⟩ := eq
                      simp only at c1 c2 hlt7 hd3
                      have HQ := hid hq
                      clear hq
                      go_wp2_with fail
                      go_roundg k7
                      case measure => omega
                      case rel => exact ⟨q + 1, by have := HQ.out; omega, congrArg (Value.int .i64) (by omega), rfl⟩
                    · have hqe : q = C := by omega
                      subst hqe
                      by_cases hqn : q < n9
                      · have hqI : (q : Int) < n9 := by omega
                        have hd1 : decide (q < n9) = true := decide_eq_true hqn
                        have hd2 : decide ((q : Int) < n9) = true := decide_eq_true hqI
                        obtain ⟨b0, off0, e0', c3, c4⟩ := HCell.out _ q HB2.out hqn
                        have hge7 := HCge.out hqn
                        have hlt7 : ¬ (L.getD q en0).k < tt := by omega
                        have hd3 : decide ((L.getD q en0).k < tt) = false := decide_eq_false hlt7
                        generalize L.getD q en0 = eq at *
                        obtain ⟨qk, qa⟩ := eq
                        simp only at c3 c4 hlt7 hd3
                        subst e0'
                        obtain ⟨q', hq'⟩ : ∃ q' : Nat, q - 1 = q' := ⟨_, rfl⟩
                        have hq1 : (0 : Int) < (q : Int) := by omega
                        have hq2 : decide ((0 : Int) < (q : Int)) = true := decide_eq_true hq1
                        have hq3 : 0 < q := by omega
                        have hq4 : decide (0 < q) = true := decide_eq_true hq3
                        have hqs : (q : Int) - 1 = (q' : Int) := by omega
                        have hqe : (q : Int) ≤ 1048576 := by omega
                        have hqb : (q' : Int) ≤ 1048576 := by omega
                        have hqc : (q' : Int) < n9 := by omega
                        have hqd : q' < n9 := by omega
                        obtain ⟨b, off, e9, c1, c2⟩ := HCl.out _ HB2.out
                        rw [hq'] at c1 c2
                        clear hq'
                        cases e9
                        go_wp2_with fail
                        go_big_quiet (fail)
                        go_wp2_with fail
                        go_roundg k5
                        case measure => omega
                        case rel => exact ⟨i5 + 1, by have := HI5.out; omega, congrArg (Value.int .i64) (by omega), (HBx.out.trans (HB2.out.mono HBx.out.size)).trans ⟨rfl, rfl, rfl, Nat.le_refl _, fun _ _ => rfl⟩⟩
                      · have hqI : ¬ (q : Int) < n9 := by omega
                        have hd1 : decide (q < n9) = false := decide_eq_false (by omega)
                        have hd2 : decide ((q : Int) < n9) = false := decide_eq_false hqI
                        obtain ⟨q', hq'⟩ : ∃ q' : Nat, q - 1 = q' := ⟨_, rfl⟩
                        have hq1 : (0 : Int) < (q : Int) := by omega
                        have hq2 : decide ((0 : Int) < (q : Int)) = true := decide_eq_true hq1
                        have hq3 : 0 < q := by omega
                        have hq4 : decide (0 < q) = true := decide_eq_true hq3
                        have hqs : (q : Int) - 1 = (q' : Int) := by omega
                        have hqe : (q : Int) ≤ 1048576 := by omega
                        have hqb : (q' : Int) ≤ 1048576 := by omega
                        have hqc : (q' : Int) < n9 := by omega
                        have hqd : q' < n9 := by omega
                        obtain ⟨b, off, e9, c1, c2⟩ := HCl.out _ HB2.out
                        rw [hq'] at c1 c2
                        clear hq'
                        cases e9
                        go_wp2_with fail
                        go_big_quiet (fail)
                        go_wp2_with fail
                        go_roundg k5
                        case measure => omega
                        case rel => exact ⟨i5 + 1, by have := HI5.out; omega, congrArg (Value.int .i64) (by omega), (HBx.out.trans (HB2.out.mono HBx.out.size)).trans ⟨rfl, rfl, rfl, Nat.le_refl _, fun _ _ => rfl⟩⟩
            · have hlt5I : ¬ (i5 : Int) < 5 := by omega
              go_wp2_with fail
              go_ret
              exact ⟨rfl, HEn.out.trans (HBx.out.mono HEn.out.size)⟩
end Go.Proofs.Ytmhmohkeekmmgaa
