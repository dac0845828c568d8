/- The document's index: its calls. -/
import Derived.Test.YtmhmohkeekmmgaaTxh
import Derived.BigRegion
namespace Go.Proofs.Ytmhmohkeekmmgaa
open Go.RowKit
theorem rnew_any (w : World) : Calls Try.prog 11 #[] w fun e w' => e = .returned (.pointer (some ⟨w.heap.size, 0, none⟩)) ∧ w' = w.alloc (.cells #[.slice none 0 0] 47) := by
  go_enter Try.func11, Try.ntmps11
  go_wp2
  go_ret
  exact ⟨rfl, rfl⟩
theorem rlen_any {T : TypeId} (x : Nat) (v : Value) (l : List En) (w : World) (h : Ix T w x v l) : Calls Try.prog 35 #[.pointer (some ⟨x, 0, none⟩)] w fun e w' => e = .returned (.int .i64 l.length) ∧ w' = w := by
  obtain ⟨a, cap, rfl, _⟩ := h.row.ens
  have c0 := h.c0
  go_enter Try.func35, Try.ntmps35
  go_wp2
  go_ret
  exact ⟨rfl, rfl⟩
set_option maxRecDepth 20000 in
set_option maxHeartbeats 1000000 in
theorem rentry_any {T : TypeId} (x : Nat) (i : Int) (v : Value) (l : List En) (w : World) (h : Ix T w x v l) : Calls Try.prog 38 #[.pointer (some ⟨x, 0, none⟩), .int .i64 i] w fun e w' => e = .returned (.tuple #[enV (atE l i).1, .bool (atE l i).2]) ∧ Below w.heap.size w w' := by
  obtain ⟨a, cap, rfl, hens⟩ := h.row.ens
  have c0 := h.c0
  have hlx := lt_of_heap h.blk
  have HB : Hid (Below w.heap.size w (w.alloc (.cells #[.int .i64 0, .int .i64 0] 29))) := (Below.refl _ _).alloc (Nat.le_refl _) _
  by_cases h0 : 0 ≤ i
  · by_cases h1 : i < l.length
    · have he : atE l i = (l.getD i.toNat en0, true) := if_pos ⟨h0, h1⟩
      rw [he]
      obtain ⟨j, rfl⟩ : ∃ j : Nat, i = j := ⟨i.toNat, by omega⟩
      have hj : j < l.length := by omega
      rw [Int.toNat_natCast]
      rcases hens with e | ⟨b, off, rfl, hb, hc⟩
      · rw [e] at hj; cases hj
      obtain ⟨p0, p1⟩ := hc j hj
      generalize l.getD j en0 = s at *
      obtain ⟨sk, sa⟩ := s
      simp only at p0 p1
      have h0' : ¬ (j : Int) < 0 := by omega
      have hge : ¬ (l.length : Int) ≤ j := by omega
      clear hc he h
      generalize l.length = N at *
      go_enter Try.func38, Try.ntmps38
      go_wp2_with fail
      refine bodyPost_ret (v := .tuple #[.agg #[.int .i64 sk, .int .i64 sa], .bool true]) (by simp [results, Try.results38, go_sem]) rfl ⟨rfl, ?_⟩
      exact (Below.refl _ _).alloc (Nat.le_refl _) _
    · have he : atE l i = (en0, false) := if_neg (fun h => h1 h.2)
      rw [he]
      have h0' : ¬ i < 0 := by omega
      have hge : (l.length : Int) ≤ i := by omega
      clear he h hens
      generalize l.length = N at *
      go_enter Try.func38, Try.ntmps38
      go_wp2_with fail
      refine bodyPost_ret (v := .tuple #[.agg #[.int .i64 0, .int .i64 0], .bool false]) (by simp [results, Try.results38, go_sem]) rfl ⟨rfl, ?_⟩
      exact HB.out
  · have he : atE l i = (en0, false) := if_neg (fun h => h0 h.1)
    rw [he]
    have h0' : i < 0 := by omega
    clear he h hens
    go_enter Try.func38, Try.ntmps38
    go_wp2_with fail
    refine bodyPost_ret (v := .tuple #[.agg #[.int .i64 0, .int .i64 0], .bool false]) (by simp [results, Try.results38, go_sem]) rfl ⟨rfl, ?_⟩
    exact HB.out
set_option maxRecDepth 20000 in
set_option maxHeartbeats 1000000 in
theorem rlast_any {T : TypeId} (x : Nat) (v : Value) (l : List En) (w : World) (h : Ix T w x v l) (hn : l.length ≤ 8796093022208) : Calls Try.prog 30 #[.pointer (some ⟨x, 0, none⟩)] w fun e w' => e = .returned (.tuple #[enV (atE l ((l.length : Int) - 1)).1, .bool (atE l ((l.length : Int) - 1)).2]) ∧ Below w.heap.size w w' := by
  have HE : Hid (∀ wx, Below w.heap.size w wx → Calls Try.prog 38 #[.pointer (some ⟨x, 0, none⟩), .int .i64 ((l.length : Int) - 1)] wx fun e w' => e = .returned (.tuple #[enV (atE l ((l.length : Int) - 1)).1, .bool (atE l ((l.length : Int) - 1)).2]) ∧ Below wx.heap.size wx w') := fun wx hx => rentry_any x _ v l wx (h.below hx)
  obtain ⟨a, cap, rfl, _⟩ := h.row.ens
  have c0 := h.c0
  have hlx := lt_of_heap h.blk
  generalize atE l ((l.length : Int) - 1) = R at *
  obtain ⟨⟨rk, ra⟩, rb⟩ := R
  generalize l.length = N at *
  have HB := hid ((Below.refl w.heap.size w).alloc (Nat.le_refl _) (.cells #[.int .i64 0, .int .i64 0] 29))
  unfold enV at *
  simp only at HE ⊢
  clear h
  go_enter Try.func30, Try.ntmps30
  go_wp2_with (go_at_call 38; refine (HE.out _ HB.out).mono ?_; rintro e w2 ⟨rfl, hb2⟩; obtain ⟨z1, z2, z3, z4, z5⟩ := res4 rfl hb2; have HB2 := hid hb2; clear hb2)
  refine bodyPost_ret (v := .tuple #[.agg #[.int .i64 rk, .int .i64 ra], .bool rb]) (by simp [results, Try.results30, go_sem, z1, z2]) rfl ⟨rfl, ?_⟩
  exact ((HB.out.trans (HB2.out.mono HB.out.size)).setCell (Nat.le_refl _) _).setCell (Nat.le_refl _) _
/-- A row's cells, from its place on. -/
theorem ens_cells {l : List En} {ad : Addr} {w : World} (hv : Ens w (some ad) l) : ∀ wx, Below w.heap.size w wx → ∀ j u, (ecs l)[j]? = some u → wx.cell? (ad.add j) = some u := fun wx hx j u hu => by
  rcases hv with h | ⟨b, off, h, hb, hc⟩
  · rw [h] at hu; simp [ecs] at hu
  · injection h with h
    subst h
    have hj : j < l.length * 2 := by
      have := (List.getElem?_eq_some_iff.1 hu).1
      rw [ecs_len] at this
      exact this
    obtain ⟨h0, h1⟩ := hc (j / 2) (by omega)
    have hmod : j = j / 2 * 2 + j % 2 := by omega
    rw [hmod, ecs_at (by omega) (by omega)] at hu
    rw [Addr.add_lit]
    rcases (by omega : j % 2 = 0 ∨ j % 2 = 1) with e | e
    · rw [e] at hu
      have : j = j / 2 * 2 := by omega
      rw [this]
      exact ((hx.cell (p := ⟨b, off + j / 2 * 2, none⟩) hb).trans h0).trans hu
    · rw [e] at hu
      have : j = j / 2 * 2 + 1 := by omega
      rw [this]
      exact ((hx.cell (p := ⟨b, off + j / 2 * 2 + 1, none⟩) hb).trans h1).trans hu
set_option maxRecDepth 20000 in
set_option maxHeartbeats 1000000 in
theorem rcut_any (x : Nat) (n : Int) (v : Value) (l : List En) (w : World) (h : Ix 47 w x v l) (hn : l.length ≤ 8796093022208) : Calls Try.prog 15 #[.pointer (some ⟨x, 0, none⟩), .int .i64 n] w fun e w' => e = .returned (.int .i64 (cutC l n)) ∧ ∃ v', Ix 47 w' x v' (cutE l n) ∧ Ch (IS x v) w w' ∧ Moved w v v' := by
  obtain ⟨i0, hi, hz0, hz1, hz2⟩ := info_parts Try.infoE
  have HX := hid h
  have c0 := h.c0
  have f0 := h.f0
  obtain ⟨a, cap, rfl, hens, hnil, h4⟩ := h.row.ens4
  clear h4
  have hcap : l.length ≤ cap := by
    rcases h.row.2 with ⟨h1, _⟩ | ⟨g, cap', cur, hv, _, _, h5, _⟩
    · injection h1 with _ h1 h2; omega
    · cases hv; exact h5
  unfold cutE cutC
  have HNil := hid hnil
  have HE := hid hens
  clear h hens hnil
  generalize hN' : l.length = N at *
  have HN : Hid (N = l.length) := hN'.symm
  clear hN'
  by_cases h0 : 0 ≤ n
  · by_cases h1 : n ≤ N
    · rw [if_pos ⟨h0, h1⟩, if_pos ⟨h0, h1⟩]
      obtain ⟨j, rfl⟩ : ∃ j : Nat, n = j := ⟨n.toNat, by omega⟩
      rw [Int.toNat_natCast]
      have h0' : ¬ (j : Int) < 0 := by omega
      have hge : ¬ (N : Int) < j := by omega
      have hjc : (j : Int) ≤ cap := by omega
      have HTl : Hid ((l.take j).length = j) := by show _ = _; rw [List.length_take]; have := HN.out; omega
      cases a with
      | none =>
        have h2 := HNil.out rfl
        injection h2 with _ h3 h4
        have hN0 : N = 0 := h3
        subst hN0
        subst h4
        obtain rfl : j = 0 := by omega
        clear HNil HE
        go_enter Try.func15, Try.ntmps15
        go_wp2_with (at_builtin; refine wpList_append_own_none rfl _ _ 45 rfl w.heap.size 29 i0 2 Try.underlying45 hi (.slice none 0 0) 0 [] rfl (World.ownsRow_nil _ _ _ _) rfl ?_)
        go_wp2_with fail
        go_ret
        exact ⟨rfl, .slice none 0 0, Ix.put HX.out.blk (by decide) (OwE.nil _ _), (Ch.refl _ _).setCell _ _ (fun _ => Or.inl rfl), fun g hg => by cases hg⟩
      | some ad =>
        have HC := hid (ens_cells HE.out)
        have HCt : Hid (∀ wx, Below w.heap.size w wx → ∀ i u, (ecs (l.take j))[i]? = some u → wx.cell? (ad.add i) = some u) := fun wx hx i u hu => by
          refine HC.out wx hx i u ?_
          rw [← ecs_take] at hu
          have hi2 : i < j * 2 := by
            have := (List.getElem?_eq_some_iff.1 hu).1
            rw [List.length_take] at this
            omega
          rw [List.getElem?_take_of_lt hi2] at hu
          exact hu
        clear HC HNil
        go_enter Try.func15, Try.ntmps15
        go_wp2_with (at_builtin; refine wpList_append_own _ rfl _ _ 45 rfl w.heap.size 29 i0 (.agg #[.int .i64 0, .int .i64 0]) 2 16 Try.underlying45 hi hz0 hz1 hz2 rfl (by decide) (.slice none 0 0) 0 [] rfl (World.ownsRow_nil _ _ _ _) ad j cap (ecs (l.take j)) rfl ?qc1 ?qc2 ?qc3 ?qc4 ?qc5 ?qc6 ?_)
        case qc1 => rw [ecs_len, HTl.out]
        case qc2 => exact HCt.out _ (Below.refl _ _)
        case qc3 => exact ecs_one _
        case qc4 => unfold maxLen; omega
        case qc5 => omega
        intro v' w1 hown hgrow hnil2
        have HB1 : Hid (Below w.heap.size w w1) := (Below.refl _ w).grown hgrow (Nat.le_refl _) (by intro k hk; cases hk)
        have HX1 := hid (HX.out.below HB1.out)
        have d0 := HX1.out.c0
        have d1 := HX1.out.f0
        have HOw : Hid (OwE w1 w.heap.size v' (l.take j)) := by
          refine hid ?_
          unfold OwE
          rw [HTl.out]
          simpa using hown
        clear hown hgrow hnil2
        obtain ⟨n2, a2, c2, hn2, rfl, _⟩ := HOw.out.ensN
        clear hn2
        go_wp2_with fail
        go_ret
        exact ⟨rfl, _, Ix.put HX1.out.blk (by decide) (HOw.out.low (Nat.zero_le _)), (Ch.of_below HB1.out).setCell _ _ (fun _ => Or.inl rfl), fun g hg => Or.inr (HOw.out.own hg).1⟩
    · rw [if_neg (fun h => h1 h.2), if_neg (fun h => h1 h.2)]
      have h0' : ¬ n < 0 := by omega
      have hge : (N : Int) < n := by omega
      go_enter Try.func15, Try.ntmps15
      go_wp2_with fail
      go_ret
      exact ⟨rfl, _, HX.out, Ch.refl _ _, Moved.refl _ _⟩
  · rw [if_neg (fun h => h0 h.1), if_neg (fun h => h0 h.1)]
    have h0' : n < 0 := by omega
    go_enter Try.func15, Try.ntmps15
    go_wp2_with fail
    go_ret
    exact ⟨rfl, _, HX.out, Ch.refl _ _, Moved.refl _ _⟩
/-- The most entries that may be looked at of n. -/
def mostP (n : Nat) : Nat := if n = 0 then 0 else bits n + 1
theorem bits_one : bits 1 = 1 := by decide +kernel
theorem rprobes_any (n : Nat) (w : World) (hn : n ≤ 8796093022208) : Calls Try.prog 34 #[.int .i64 n] w fun e w' => e = .returned (.int .i64 (mostP n)) ∧ w' = w := by
  by_cases h0 : n = 0
  · subst h0
    go_enter Try.func34, Try.ntmps34
    go_wp2_with fail
    go_ret
    exact ⟨rfl, rfl⟩
  · have h0I : ¬ (n : Int) = 0 := by omega
    have HM : Hid (mostP n = bits n + 1) := if_neg h0
    go_enter Try.func34, Try.ntmps34
    go_wp2_with fail
    go_loopg [0, 3] n (fun k vn vm wr => ∃ m : Nat, vm = .int .i64 m ∧ vn = .int .i64 k ∧ k ≤ n ∧ 0 < k ∧ Hid (m + bits k = 2 + bits n) ∧ w = wr)
    case atStart => exact ⟨2, rfl, rfl, Nat.le_refl _, by omega, rfl, rfl⟩
    case round =>
      obtain ⟨m, rfl, rfl, hk9, hk0, HMB, rfl⟩ := hrel
      have hm46 : m ≤ 46 := by have := HMB.out; have := bits_le n hn; omega
      by_cases h1 : 1 < gk
      · have h1I : (1 : Int) < gk := by omega
        have HX : Hid (m + 1 + bits (gk / 2) = 2 + bits n) := by have := HMB.out; have := bits_half gk (by omega); show _ = _; omega
        go_wp2_with fail
        go_roundg (gk / 2)
        case measure => omega
        case rel => exact ⟨m + 1, by go_num, by go_num, by omega, by omega, HX.out, rfl⟩
      · have h1I : ¬ (1 : Int) < gk := by omega
        have HBM : Hid (m = mostP n) := by
          have := HMB.out
          have e : gk = 1 := by omega
          rw [e, bits_one] at this
          show _ = _
          rw [HM.out]
          omega
        clear HMB
        go_wp2_with fail
        go_ret
        exact ⟨by rw [← HBM.out]; rfl, rfl⟩
end Go.Proofs.Ytmhmohkeekmmgaa
