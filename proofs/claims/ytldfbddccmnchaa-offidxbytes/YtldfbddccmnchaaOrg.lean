/- The document's index: what keeps the order, Add, Entries, Clone. -/
import Derived.Test.YtldfbddccmnchaaOrf
namespace Go.Proofs.Ytldfbddccmnchaa
open Go.RowKit
theorem rfit_nil (e : En) : fitB [] e = (decide (0 ≤ e.k) && decide (0 ≤ e.a)) := fitB_nil e
set_option maxRecDepth 20000 in
set_option maxHeartbeats 2000000 in
theorem rfits_any (l : List En) (a : Option Addr) (cap : Nat) (e : En) (w : World) (hv : Ens w a l) (hO : Ord l) (hn : l.length ≤ 8796093022208) : Calls Try.prog 49 #[.slice a l.length cap, enV e] w fun r w' => r = .returned (.bool (fitB l e)) ∧ Below w.heap.size w w' := by
  obtain ⟨sk, sa⟩ := e
  have HF : Hid (l = [] → fitB l ⟨sk, sa⟩ = (decide (0 ≤ sk) && decide (0 ≤ sa))) := fun h => by rw [h]; exact fitB_nil _
  have HNS : Hid (∀ R m, l = R ++ [m] → fitB l ⟨sk, sa⟩ = (decide (m.k < sk) && decide (m.a < sa)) ∧ 0 ≤ m.k ∧ 0 ≤ m.a) := fun R m h => by
    rw [h]
    exact ⟨fitB_snoc R m _, ord_last (h ▸ hO)⟩
  have HB0 := hid ((Below.refl w.heap.size w).alloc (Nat.le_refl _) (.cells #[.int .i64 sk, .int .i64 sa] 30))
  have HV := hid hv
  obtain ⟨N, hN⟩ : ∃ N, N = l.length := ⟨_, rfl⟩
  have HN := hid hN
  rw [← hN] at hn ⊢
  unfold enV
  simp only
  clear hv hO hN
  rcases List.eq_nil_or_concat l with hL | ⟨R, ⟨mk, ma⟩, hL⟩
  · have hN0 : N = 0 := by rw [HN.out, hL]; rfl
    subst hN0
    have HF1 := hid (HF.out hL)
    clear hL HF HNS
    by_cases h1 : sk < 0
    · have HE : Hid (fitB l ⟨sk, sa⟩ = false) := by show _ = _; rw [HF1.out]; simp; omega
      go_enter Try.func49, Try.ntmps49
      go_wp2_with fail
      go_ret
      exact ⟨by rw [HE.out]; rfl, HB0.out⟩
    · by_cases h2 : sa < 0
      · have HE : Hid (fitB l ⟨sk, sa⟩ = false) := by show _ = _; rw [HF1.out]; simp; omega
        go_enter Try.func49, Try.ntmps49
        go_wp2_with fail
        go_ret
        exact ⟨by rw [HE.out]; rfl, HB0.out⟩
      · have HE : Hid (fitB l ⟨sk, sa⟩ = true) := by show _ = _; rw [HF1.out]; simp; omega
        go_enter Try.func49, Try.ntmps49
        go_wp2_with fail
        go_ret
        exact ⟨by rw [HE.out]; rfl, HB0.out⟩
  · rw [List.concat_eq_append] at hL
    obtain ⟨hf, hm1, hm2⟩ := HNS.out R _ hL
    simp only at hf hm1 hm2
    have HF1 := hid hf
    obtain ⟨n, hnR⟩ : ∃ n, R.length = n := ⟨_, rfl⟩
    have hNn : N = n + 1 := by rw [HN.out, hL, List.length_append, hnR]; rfl
    subst hNn
    rcases HV.out with e | ⟨b, off, rfl, hb, hc⟩
    · rw [e] at hL; simp at hL
    obtain ⟨p0, p1⟩ := hc n (by rw [← HN.out]; omega)
    have hg : l.getD n en0 = ⟨mk, ma⟩ := by
      rw [hL, List.getD_eq_getElem?_getD, List.getElem?_append_right (by omega), hnR]
      simp
    rw [hg] at p0 p1
    simp only at p0 p1
    have hbn := (lt_ne hb).1
    have hnI : ((n + 1 : Nat) : Int) - 1 = n := by omega
    have hz9 : ¬ ((n : Int) + 1 = 0) := by omega
    clear hL hf hc hg HF HNS HV hnR
    by_cases h1 : sk < 0
    · have HE : Hid (fitB l ⟨sk, sa⟩ = false) := by show _ = _; rw [HF1.out]; simp; omega
      go_enter Try.func49, Try.ntmps49
      go_wp2_with fail
      go_ret
      exact ⟨by rw [HE.out]; rfl, HB0.out⟩
    · by_cases h2 : sa < 0
      · have HE : Hid (fitB l ⟨sk, sa⟩ = false) := by show _ = _; rw [HF1.out]; simp; omega
        go_enter Try.func49, Try.ntmps49
        go_wp2_with fail
        go_ret
        exact ⟨by rw [HE.out]; rfl, HB0.out⟩
      · have hz8 : ((n : Int) + 1 == 0) = false := by simp; omega
        by_cases h3 : mk < sk
        · by_cases h4 : ma < sa
          · have HE : Hid (fitB l ⟨sk, sa⟩ = true) := by show _ = _; rw [HF1.out]; simp [h3, h4]
            go_enter Try.func49, Try.ntmps49
            go_wp2_with fail
            go_ret
            exact ⟨by rw [HE.out]; simp, HB0.out.alloc HB0.out.size _⟩
          · have HE : Hid (fitB l ⟨sk, sa⟩ = false) := by show _ = _; rw [HF1.out]; simp [h4]
            go_enter Try.func49, Try.ntmps49
            go_wp2_with fail
            go_ret
            exact ⟨by rw [HE.out]; simp, HB0.out.alloc HB0.out.size _⟩
        · have HE : Hid (fitB l ⟨sk, sa⟩ = false) := by show _ = _; rw [HF1.out]; simp [h3]
          go_enter Try.func49, Try.ntmps49
          go_wp2_with fail
          go_ret
          exact ⟨by rw [HE.out]; simp, HB0.out.alloc HB0.out.size _⟩
/-- A row's cells, from its place on. -/
theorem ens_cells {l : List En} {ad : Addr} {w : World} (hv : Ens w (some ad) l) : ∀ wx, Below w.heap.size w wx → ∀ j u, (ecs l)[j]? = some u → wx.cell? (ad.add j) = some u := fun wx hx j u hu => by
  rcases hv with h | ⟨b, off, h, hb, hc⟩
  · rw [h] at hu; simp [ecs] at hu
  · injection h with h
    subst h
    have hj : j < l.length * 2 := by
      have := (List.getElem?_eq_some_iff.1 hu).1
      rw [ecs_len] at this
      exact this
    obtain ⟨h0, h1⟩ := hc (j / 2) (by omega)
    have hmod : j = j / 2 * 2 + j % 2 := by omega
    rw [hmod, ecs_at (by omega) (by omega)] at hu
    rw [Addr.add_lit]
    rcases (by omega : j % 2 = 0 ∨ j % 2 = 1) with e | e
    · rw [e] at hu
      have : j = j / 2 * 2 := by omega
      rw [this]
      exact ((hx.cell (p := ⟨b, off + j / 2 * 2, none⟩) hb).trans h0).trans hu
    · rw [e] at hu
      have : j = j / 2 * 2 + 1 := by omega
      rw [this]
      exact ((hx.cell (p := ⟨b, off + j / 2 * 2 + 1, none⟩) hb).trans h1).trans hu
set_option maxRecDepth 20000 in
set_option maxHeartbeats 1000000 in
theorem rentries_any {T : TypeId} (x : Nat) (v : Value) (l : List En) (w : World) (h : Ix T w x v l) (hn : l.length ≤ 8796093022208) : Calls Try.prog 35 #[.pointer (some ⟨x, 0, none⟩)] w fun e w' => (∃ v', e = .returned v' ∧ OwE w' w.heap.size v' l) ∧ Below w.heap.size w w' := by
  obtain ⟨i0, hi, hz0, hz1, hz2⟩ := info_parts Try.infoE
  obtain ⟨a, cap, rfl, hens, hnil, h4⟩ := h.row.ens4
  clear h4
  have c0 := h.c0
  cases a with
  | none =>
    have h0 := hnil rfl
    injection h0 with _ h1 h2
    have hl : l = [] := List.eq_nil_of_length_eq_zero h1
    subst hl
    subst h2
    simp only [List.length_nil] at c0
    clear h hens hnil
    go_enter Try.func35, Try.ntmps35
    go_wp2_with (at_builtin; refine wpList_append_own_none rfl _ _ 35 rfl w.heap.size 30 i0 2 Try.underlying35 hi (.slice none 0 0) 0 [] rfl (World.ownsRow_nil _ _ _ _) rfl ?_)
    go_ret
    exact ⟨⟨_, rfl, OwE.nil _ _⟩, Below.refl _ _⟩
  | some ad =>
    have HC := hid (ens_cells hens)
    obtain ⟨N, hN⟩ : ∃ N, N = l.length := ⟨_, rfl⟩
    have HN := hid hN
    rw [← hN] at hn c0
    clear h hens hnil hN
    go_enter Try.func35, Try.ntmps35
    go_wp2_with (at_builtin; refine wpList_append_own _ rfl _ _ 35 rfl w.heap.size 30 i0 (.agg #[.int .i64 0, .int .i64 0]) 2 16 Try.underlying35 hi hz0 hz1 hz2 rfl (by decide) (.slice none 0 0) 0 [] rfl (World.ownsRow_nil _ _ _ _) ad N cap (ecs l) rfl ?qc1 ?qc2 ?qc3 ?qc4 ?qc5 ?qc6 ?_)
    case qc1 => rw [ecs_len, HN.out]
    case qc2 => exact HC.out _ (Below.refl _ _)
    case qc3 => exact ecs_one l
    case qc4 => unfold maxLen; omega
    case qc5 => omega
    case qc6 => exact Nat.le_refl _
    intro v' w1 hown hgrow hnil
    go_wp2
    go_ret
    refine ⟨⟨v', rfl, ?_⟩, ?_⟩
    · unfold OwE
      rw [← HN.out]
      simpa using hown
    · exact (Below.refl _ w).grown hgrow (Nat.le_refl _) (by intro k hk; cases hk)
theorem rclone_any {T : TypeId} (x : Nat) (v : Value) (l : List En) (w : World) (h : Ix T w x v l) (hn : l.length ≤ 8796093022208) : Calls Try.prog 14 #[.pointer (some ⟨x, 0, none⟩)] w fun e w' => (∃ x' v', e = .returned (.pointer (some ⟨x', 0, none⟩)) ∧ Ix 68 w' x' v' l ∧ w.heap.size ≤ x' ∧ ∀ g, v'.ownBlock = some g → w.heap.size ≤ g) ∧ Below w.heap.size w w' := by
  go_enter Try.func14, Try.ntmps14
  go_wp2_with fail
  refine (rentries_any x v l w h hn).mono ?_
  rintro e w2 ⟨⟨v', rfl, ho⟩, hb⟩
  obtain ⟨N, a', cap', hN, rfl, _⟩ := ho.ensN
  have HO := hid ho
  have HB := hid hb
  clear ho hb hN
  go_wp2
  go_ret
  refine ⟨⟨_, _, rfl, ⟨heap_new _ _, ?_⟩, HB.out.size, fun g hg => (HO.out.own hg).1⟩, HB.out.alloc HB.out.size _⟩
  exact (HO.out.low (Nat.zero_le _)).keep fun g _ hg => Below.heap_alloc _ _ g hg
end Go.Proofs.Ytldfbddccmnchaa
