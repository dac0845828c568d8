/- OffidxFinds: its walk. -/
import Derived.Test.YtldfbddccmnchaaOxi
namespace Go.Proofs.Ytldfbddccmnchaa
open Go.RowKit
/-- A row of numbers where it lies. -/
def Kys (w : World) (a : Option Addr) (l : List Int) : Prop := l = [] ∨ ∃ b off, a = some ⟨b, off, none⟩ ∧ b < w.heap.size ∧ ∀ j, j < l.length → w.cell? ⟨b, off + j, none⟩ = some (.int .i64 (l.getD j 0))
theorem bits_one {n : Nat} (h : n ≤ 1) : bits n ≤ 1 := by
  have := bits_mono h
  have e : bits 1 = 1 := by decide +kernel
  omega
theorem ext_get {l : List En} (h : Ord l) {i j : Nat} (hi : i < l.length) (hj : j < l.length) (he : (l.getD i en0).k = (l.getD j en0).k) : i = j := by
  rcases Nat.lt_trichotomy i j with h1 | h1 | h1
  · have := h.lt h1 hj; omega
  · exact h1
  · have := h.lt h1 hi; omega
theorem cnt_facts (l : List En) (key : Int) : (∀ j, j < cnt l key → (l.getD j en0).k ≤ key) ∧ (cnt l key < l.length → key < (l.getD (cnt l key) en0).k) := by
  induction l with
  | nil => exact ⟨fun j hj => absurd hj (by simp [cnt]), fun h => absurd h (by simp)⟩
  | cons e r ih =>
    by_cases h : e.k ≤ key
    · have hc : cnt (e :: r) key = cnt r key + 1 := by unfold cnt; rw [List.takeWhile_cons, if_pos (by simp [h])]; rfl
      rw [hc]
      refine ⟨fun j hj => ?_, fun hl => ?_⟩
      · cases j with
        | zero => exact h
        | succ j => exact ih.1 j (by omega)
      · exact ih.2 (by simp at hl; omega)
    · have hc : cnt (e :: r) key = 0 := by unfold cnt; rw [List.takeWhile_cons, if_neg (by simp [h])]; rfl
      rw [hc]
      exact ⟨fun j hj => by omega, fun _ => by show key < e.k; omega⟩
set_option maxRecDepth 20000 in
set_option maxHeartbeats 4000000 in
theorem finds_walk (l0 : List En) (a : Option Addr) (cap : Nat) (ks : List Int) (ka : Option Addr) (kc : Nat) (w : World) (hv : Ens w a l0) (hn : l0.length ≤ 8796093022207) (hk : Kys w ka ks) (hkn : ks.length ≤ 9223372036854775807) :
    Calls Try.prog 5 #[.slice a l0.length cap, .slice ka ks.length kc] w fun e w' => e = .returned (.bool true) ∧ Below w.heap.size w w' := by
  have HF := hid (fixed_any w)
  have HBu : Hid (∀ wx, Below w.heap.size w wx → Calls Try.prog 23 #[.slice a l0.length cap] wx (BuiltP wx (bld l0))) := fun wx hx => built_any l0 a cap wx (hv.kept hx (Nat.le_refl _)) hn
  have HK := hid hk
  have HL := hid (bld_len l0)
  have HO := hid (bld_ord l0)
  have hL : (bld l0).length ≤ 8796093022207 := Nat.le_trans (bld_len l0) hn
  have HLen : Hid (∀ wx p v, Ip wx p v (bld l0) → Calls Try.prog 24 #[.pointer p] wx fun e w' => e = .returned (.int .i64 (bld l0).length) ∧ Below wx.heap.size wx w') := fun wx p v h => len_any p v _ wx h
  have HFi : Hid (∀ wx p v key, Ip wx p v (bld l0) → Calls Try.prog 25 #[.pointer p, .int .i64 key] wx fun r w' => FindP (bld l0) key r ∧ Below wx.heap.size wx w') := fun wx p v key h => find_any p key v _ wx h (bld_ord l0) (by omega)
  generalize bld l0 = L at *
  generalize l0.length = N0 at *
  obtain ⟨M, hM⟩ : ∃ M, M = ks.length := ⟨_, rfl⟩
  have HM := hid hM
  rw [← hM] at hkn ⊢
  obtain ⟨N, hN⟩ : ∃ N, N = L.length := ⟨_, rfl⟩
  have HN := hid hN
  rw [← hN] at hL HLen
  clear hv hk hM hN hn
  go_enter Try.func5, Try.ntmps5
  go_wp2_with (first | (go_at_call 9; refine HF.out.mono ?_; rintro e w1 ⟨rfl, hb1⟩; have HB1 := hid hb1; clear hb1) | (go_at_call 23; refine (HBu.out _ HB1.out).mono ?_; rintro e w2 ⟨x, v, vr, rfl, hbw⟩; obtain ⟨n9, x9, c9, hn9, rfl, hens⟩ := hbw.ro.ensN; obtain rfl : n9 = N := (by rw [hn9, HN.out]); have HW := hid hbw; have HE := hid hens; clear hn9 hbw hens) | (go_at_call 24; refine (HLen.out _ _ _ HW.out.io.ip).mono ?_; rintro e w3 ⟨rfl, hb3⟩; have HB3 := hid hb3; clear hb3))
  go_loopg [8, 9] n9 (fun k vm vn wr => ∃ m : Nat, vm = .int .i64 m ∧ vn = .int .i64 k ∧ k ≤ n9 ∧ Hid (m + bits k = 2 + bits n9) ∧ w3 = wr)
  case atStart => exact ⟨2, rfl, rfl, Nat.le_refl _, rfl, rfl⟩
  case round =>
    obtain ⟨m, rfl, rfl, hk9, HMB, rfl⟩ := hrel
    have hm46 : m ≤ 46 := by have := HMB.out; have := bits_le n9 (by omega); omega
    by_cases h1 : 1 < gk
    · have h1I : (1 : Int) < gk := by omega
      have HX : Hid (m + 1 + bits (gk / 2) = 2 + bits n9) := by have := HMB.out; have := bits_half gk (by omega); show _ = _; omega
      go_wp2_with fail
      go_roundg (gk / 2)
      case measure => omega
      case rel => exact ⟨m + 1, by go_num, by go_num, by omega, HX.out, rfl⟩
    · have h1I : ¬ (1 : Int) < gk := by omega
      have hbm : bits n9 + 1 ≤ m := by have := HMB.out; have := bits_one (n := gk) (by omega); omega
      have HBM := hid hbm
      clear hbm HMB
      go_wp2_with fail
      have HQ : Hid (∀ wx, Below w3.heap.size w3 wx → Ip wx (some ⟨x, 0, none⟩) v L ∧ Ens wx x9 L ∧ Kys wx ka ks ∧ Below w.heap.size w wx) := fun wx hx => by
        have h1 : Below w2.heap.size w2 wx := HB3.out.trans (hx.mono HB3.out.size)
        have h2 : Below w.heap.size w w2 := HB1.out.trans (HW.out.bel.mono HB1.out.size)
        have h3 : Below w.heap.size w wx := h2.trans (h1.mono h2.size)
        refine ⟨Or.inl ⟨x, rfl, HW.out.io.ix.below h1⟩, HE.out.kept h1 (Nat.le_refl _), ?_, h3⟩
        rcases HK.out with h | ⟨b, off, e1, e2, e3⟩
        · exact Or.inl h
        · exact Or.inr ⟨b, off, e1, Nat.lt_of_lt_of_le e2 h3.size, fun j hj => (h3.cell (p := ⟨b, off + j, none⟩) e2).trans (e3 j hj)⟩
      clear HF HBu HK HW HE HB3 HB1 HLen
      go_loopg [10] M (fun k i wr => ∃ j : Nat, j + k = M ∧ i = .int .i64 j ∧ Hid (Below w3.heap.size w3 wr))
      case atStart => exact ⟨0, by omega, rfl, Below.refl _ _⟩
      case round =>
        obtain ⟨j, hj, rfl, HWr⟩ := hrel
        by_cases hlt : j < M
        · obtain ⟨k', rfl⟩ : ∃ k', gk = k' + 1 := ⟨gk - 1, by omega⟩
          have hltI : (j : Int) < M := by omega
          obtain ⟨hip, hens, hkys, hbw⟩ := HQ.out wr HWr.out
          rcases hkys with e | ⟨b, off, rfl, hb, hc⟩
          · rw [HM.out, e] at hlt; cases hlt
          have c0 := hc j (by rw [← HM.out]; exact hlt)
          generalize ks.getD j 0 = key at *
          have HFi1 := hid (HFi.out wr _ v key hip)
          have HJ := hid hj
          have HKC : Hid (∀ wx, Below wr.heap.size wr wx → wx.cell? ⟨b, off + j, none⟩ = some (.int .i64 key)) := fun wx hx => (hx.cell (p := ⟨b, off + j, none⟩) hb).trans c0
          clear hc hip hj hbw
          by_cases hN0 : n9 = 0
          · have HF2 : Hid (Calls Try.prog 25 #[.pointer (some ⟨x, 0, none⟩), .int .i64 key] wr fun r w' => r = .returned (.tuple #[.agg #[.int .i64 0, .int .i64 0], .bool false, .int .i64 0]) ∧ Below wr.heap.size wr w') := HFi1.out.mono fun r w' ⟨⟨nn, h1, h2, _⟩, h4⟩ => by
              have hl : L = [] := List.eq_nil_of_length_eq_zero (by rw [← HN.out]; exact hN0)
              rw [hl] at h1 h2
              have : nn = 0 := by have e : bits ([] : List En).length = 0 := rfl; omega
              subst this
              exact ⟨h1, h4⟩
            subst hN0
            clear HFi1
            go_wp2_with (go_at_call 25; refine HF2.out.mono ?_; rintro r w4 ⟨rfl, hb4⟩; have HB4 := hid hb4; clear hb4)
            go_roundg k'
            case measure => omega
            case rel => exact ⟨j + 1, by have := HJ.out; omega, congrArg (Value.int .i64) (by omega), (HWr.out.trans (HB4.out.mono HWr.out.size)).alloc (Nat.le_trans HWr.out.size HB4.out.size) _⟩
          · have hNp : 0 < n9 := by omega
            have HGE : Hid (∃ g go, x9 = some ⟨g, go, none⟩ ∧ ∀ wx, Below wr.heap.size wr wx → ∀ i, i < n9 → wx.cell? ⟨g, go + i * 2, none⟩ = some (.int .i64 (L.getD i en0).k) ∧ wx.cell? ⟨g, go + i * 2 + 1, none⟩ = some (.int .i64 (L.getD i en0).a)) := by
              rcases hens with e | ⟨g, go, e, hg, hge⟩
              · rw [HN.out, e] at hNp; cases hNp
              · refine ⟨g, go, e, fun wx hx i hi => ?_⟩
                obtain ⟨h1, h2⟩ := hge i (by rw [← HN.out]; exact hi)
                exact ⟨(hx.cell (p := ⟨g, go + i * 2, none⟩) hg).trans h1, (hx.cell (p := ⟨g, go + i * 2 + 1, none⟩) hg).trans h2⟩
            obtain ⟨g, go, rfl, hge⟩ := HGE.out
            have HG := hid hge
            clear HGE hge hens
            have HCF := hid (cnt_facts L key)
            have HCL := hid (cnt_le L key)
            have HF2 : Hid (Calls Try.prog 25 #[.pointer (some ⟨x, 0, none⟩), .int .i64 key] wr fun r w' => (∃ nn : Nat, r = .returned (.tuple #[enV (atE L ((cnt L key : Int) - 1)).1, .bool (atE L ((cnt L key : Int) - 1)).2, .int .i64 nn]) ∧ 1 ≤ nn ∧ nn ≤ m) ∧ Below wr.heap.size wr w') := HFi1.out.mono fun r w' ⟨⟨nn, h1, h2, h3⟩, h4⟩ => by
              rw [← HN.out] at h2 h3
              have := HBM.out
              exact ⟨⟨nn, h1, h3 hNp, by omega⟩, h4⟩
            generalize cnt L key = c at *
            rw [← HN.out] at HCL HCF
            clear HFi1 HFi
            by_cases hc0 : c = 0
            · subst hc0
              have he : atE L ((0 : Nat) - 1 : Int) = (en0, false) := if_neg (by omega)
              have hk0 : key < (L.getD 0 en0).k := HCF.out.2 hNp
              rw [he] at HF2
              simp only [enV, en0] at HF2
              have HG0 : Hid (∀ wx, Below wr.heap.size wr wx → wx.cell? ⟨g, go, none⟩ = some (.int .i64 (L.getD 0 en0).k)) := fun wx hx => by
                have := (HG.out wx hx 0 hNp).1
                simpa using this
              generalize (L.getD 0 en0).k = k0 at *
              have d3 : decide (k0 ≤ key) = false := by simp; omega
              clear he HG HCF HCL
              have h00 : ¬ (n9 : Int) = 0 := by omega
              have hN0I : (n9 == 0) = false := by simp; omega
              go_wp2_with (go_at_call 25; refine HF2.out.mono ?_; rintro r w4 ⟨⟨nn, rfl, hn1, hn2⟩, hb4⟩; have y0 := HG0.out _ hb4; have y1 := HKC.out _ hb4; have yl0 : g < w4.heap.size := World.block_lt_of_cell? _ _ y0; have yl1 : b < w4.heap.size := World.block_lt_of_cell? _ _ y1; have HB4 := hid hb4; have d1 : decide ((nn : Int) < 1) = false := (by simp; omega); have d2 : decide (m < nn) = false := (by simp; omega); have d2' : decide ((m : Int) < nn) = false := (by simp; omega); clear hb4)
              have e0 : (w4.alloc (.cells #[.int .i64 0, .int .i64 0] 30)).cell? ⟨w4.heap.size, 0, none⟩ = some (.int .i64 0) := (ecell3 (heap_new _ _)).1
              have e1 : (w4.alloc (.cells #[.int .i64 0, .int .i64 0] 30)).cell? ⟨w4.heap.size, 1, none⟩ = some (.int .i64 0) := (ecell3 (heap_new _ _)).2.1
              go_big_quiet (fail)
              go_wp2_with fail
              go_roundg k'
              case measure => omega
              case rel => exact ⟨j + 1, by have := HJ.out; omega, congrArg (Value.int .i64) (by omega), ((HWr.out.trans (HB4.out.mono HWr.out.size)).alloc (Nat.le_trans HWr.out.size HB4.out.size) _).trans ⟨rfl, rfl, rfl, Nat.le_refl _, fun _ _ => rfl⟩⟩
            · obtain ⟨q, rfl⟩ : ∃ q, c = q + 1 := ⟨c - 1, by omega⟩
              have hq : q < n9 := by have := HCL.out; omega
              have he : atE L ((q + 1 : Nat) - 1 : Int) = (L.getD q en0, true) := by
                unfold atE
                rw [if_pos (by rw [← HN.out]; omega)]
                congr 2
                omega
              rw [he] at HF2
              have HEX : Hid (∀ i, i < n9 → i ≠ q → (L.getD i en0).k ≠ (L.getD q en0).k) := fun i hi hne h => hne (ext_get HO.out (by rw [← HN.out]; exact hi) (by rw [← HN.out]; exact hq) h)
              have hkq : (L.getD q en0).k ≤ key := HCF.out.1 q (by omega)
              have HKN : Hid (q + 1 < n9 → key < (L.getD (q + 1) en0).k) := HCF.out.2
              have HGq : Hid (∀ wx, Below wr.heap.size wr wx → wx.cell? ⟨g, go + q * 2, none⟩ = some (.int .i64 (L.getD q en0).k) ∧ wx.cell? ⟨g, go + q * 2 + 1, none⟩ = some (.int .i64 (L.getD q en0).a)) := fun wx hx => HG.out wx hx q hq
              obtain ⟨⟨ek, ea⟩, hs⟩ : ∃ s, s = L.getD q en0 := ⟨_, rfl⟩
              rw [← hs] at HF2 HEX hkq HGq
              simp only [enV] at HF2 HEX hkq HGq
              clear he HCF HCL hs
              have h00 : ¬ (n9 : Int) = 0 := by omega
              have hN0I : (n9 == 0) = false := by simp; omega
              go_wp2_with (go_at_call 25; refine HF2.out.mono ?_; rintro r w4 ⟨⟨nn, rfl, hn1, hn2⟩, hb4⟩; have y1 := HKC.out _ hb4; have yl1 : b < w4.heap.size := World.block_lt_of_cell? _ _ y1; have HB4 := hid hb4; have d1 : decide ((nn : Int) < 1) = false := (by simp; omega); have d2 : decide (m < nn) = false := (by simp; omega); have d2' : decide ((m : Int) < nn) = false := (by simp; omega); clear hb4)
              go_big_quiet (fail)
              go_wp2_with fail
              have HE5 : Hid ((w4.alloc (.cells #[.int .i64 ek, .int .i64 ea] 30)).heap[w4.heap.size]? = some (.cells #[.int .i64 ek, .int .i64 ea] 30 (0, 0))) := heap_new _ _
              have HB5 : Hid (Below wr.heap.size wr (w4.alloc (.cells #[.int .i64 ek, .int .i64 ea] 30))) := HB4.out.alloc HB4.out.size _
              generalize w4.alloc (.cells #[.int .i64 ek, .int .i64 ea] 30) = w5 at *
              generalize w4.heap.size = eb at *
              clear y1 yl1 HB4 d1 d2 d2'
              have HA5 : Hid (∀ wx, Below w5.heap.size w5 wx → (∀ i, i < n9 → wx.cell? ⟨g, go + i * 2, none⟩ = some (.int .i64 (L.getD i en0).k) ∧ wx.cell? ⟨g, go + i * 2 + 1, none⟩ = some (.int .i64 (L.getD i en0).a)) ∧ (wx.cell? ⟨g, go + q * 2, none⟩ = some (.int .i64 ek) ∧ wx.cell? ⟨g, go + q * 2 + 1, none⟩ = some (.int .i64 ea)) ∧ wx.cell? ⟨b, off + j, none⟩ = some (.int .i64 key) ∧ (wx.cell? ⟨eb, 0, none⟩ = some (.int .i64 ek) ∧ wx.cell? ⟨eb, 1, none⟩ = some (.int .i64 ea)) ∧ Below w3.heap.size w3 wx) := fun wx hx => by
                have h1 := HB5.out.trans (hx.mono HB5.out.size)
                exact ⟨HG.out wx h1, HGq.out wx h1, HKC.out wx h1, ecell2 ((hx.block _ (lt_of_heap HE5.out)).trans HE5.out), HWr.out.trans (h1.mono HWr.out.size)⟩
              clear HB5 HE5 HG HGq HKC HWr
              go_loopg [14] q (fun k vi wi => ∃ i : Nat, i + k = q ∧ vi = .int .i64 i ∧ Hid (Below w5.heap.size w5 wi))
              case atStart => exact ⟨0, by omega, rfl, ⟨rfl, rfl, rfl, Nat.le_refl _, fun _ _ => rfl⟩⟩
              case round =>
                obtain ⟨i, hi, rfl, HWi⟩ := hrel
                obtain ⟨hrow, ⟨a0, a1⟩, a2, ⟨a3, a4⟩, hb9⟩ := HA5.out wr HWi.out
                have HB9 := hid hb9
                have HROW := hid hrow
                clear hb9 hrow
                by_cases hiq : i < q
                · obtain ⟨k6, rfl⟩ : ∃ k6, gk = k6 + 1 := ⟨gk - 1, by omega⟩
                  have hin : i < n9 := by omega
                  have hinI : (i : Int) < n9 := by omega
                  have hne := HEX.out i hin (by omega)
                  obtain ⟨r0, r1⟩ := HROW.out i hin
                  obtain ⟨⟨ik, ia⟩, hs⟩ : ∃ s, s = L.getD i en0 := ⟨_, rfl⟩
                  rw [← hs] at hne r0 r1
                  simp only at hne r0 r1
                  have hbe : (ik == ek) = false := by simp [hne]
                  have hd : decide (i < n9) = true := by simp [hin]
                  have hd2 : decide ((i : Int) < n9) = true := by simp [hin]
                  clear hs
                  go_wp2_with fail
                  go_big_quiet (fail)
                  go_wp2_with fail
                  go_roundg k6
                  case measure => omega
                  case rel => exact ⟨i + 1, by omega, congrArg (Value.int .i64) (by omega), HWi.out.trans ⟨rfl, rfl, rfl, Nat.le_refl _, fun _ _ => rfl⟩⟩
                · obtain rfl : i = q := by omega
                  have hinI : (i : Int) < n9 := by omega
                  have hd : decide (i < n9) = true := by simp [hq]
                  have hd2 : decide ((i : Int) < n9) = true := by simp [hq]
                  have hd3 : (i == n9) = false := by simp; omega
                  have hd4 : ((i : Int) == (n9 : Int)) = false := by simp; omega
                  have hd5 : decide (key < ek) = false := by simp; omega
                  by_cases hqn : i + 1 < n9
                  · obtain ⟨r0, r1⟩ := HROW.out (i + 1) hqn
                    have hkn := HKN.out hqn
                    generalize (L.getD (i + 1) en0).k = nk at *
                    have hd6 : decide (nk ≤ key) = false := by simp; omega
                    have hd7 : decide ((i : Int) + 1 < n9) = true := by simp; omega
                    have hd8 : decide (i + 1 < n9) = true := by simp; omega
                    have hqI : (i : Int) + 1 < n9 := by omega
                    go_wp2_with fail
                    go_big_quiet (fail)
                    go_wp2_with fail
                    go_big_quiet (fail)
                    go_wp2_with fail
                    go_roundg k'
                    case measure => omega
                    case rel => exact ⟨j + 1, by have := HJ.out; omega, congrArg (Value.int .i64) (by omega), HB9.out.trans ⟨rfl, rfl, rfl, Nat.le_refl _, fun _ _ => rfl⟩⟩
                  · have hd7 : decide ((i : Int) + 1 < n9) = false := by simp; omega
                    have hd8 : decide (i + 1 < n9) = false := by simp; omega
                    go_wp2_with fail
                    go_big_quiet (fail)
                    go_wp2_with fail
                    go_big_quiet (fail)
                    go_wp2_with fail
                    go_roundg k'
                    case measure => omega
                    case rel => exact ⟨j + 1, by have := HJ.out; omega, congrArg (Value.int .i64) (by omega), HB9.out.trans ⟨rfl, rfl, rfl, Nat.le_refl _, fun _ _ => rfl⟩⟩
        · have hltI : ¬ (j : Int) < M := by omega
          have HBE := hid (HQ.out wr HWr.out).2.2.2
          go_wp2_with fail
          go_ret
          exact ⟨rfl, HBE.out⟩
end Go.Proofs.Ytldfbddccmnchaa
