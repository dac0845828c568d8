/- The document's index: its calls. -/
import Derived.Test.YtldfbddccmnchaaOcl
namespace Go.Proofs.Ytldfbddccmnchaa
open Go.RowKit
theorem rnew_any (w : World) : Calls Try.prog 11 #[] w fun e w' => e = .returned (.pointer (some ⟨w.heap.size, 0, none⟩)) ∧ w' = w.alloc (.cells #[.slice none 0 0] 68) := by
  go_enter Try.func11, Try.ntmps11
  go_wp2
  go_ret
  exact ⟨rfl, rfl⟩
theorem rlen_any {T : TypeId} (x : Nat) (v : Value) (l : List En) (w : World) (h : Ix T w x v l) : Calls Try.prog 32 #[.pointer (some ⟨x, 0, none⟩)] w fun e w' => e = .returned (.int .i64 l.length) ∧ w' = w := by
  obtain ⟨a, cap, rfl, _⟩ := h.row.ens
  have c0 := h.c0
  go_enter Try.func32, Try.ntmps32
  go_wp2
  go_ret
  exact ⟨rfl, rfl⟩
set_option maxRecDepth 20000 in
set_option maxHeartbeats 1000000 in
theorem rentry_any {T : TypeId} (x : Nat) (i : Int) (v : Value) (l : List En) (w : World) (h : Ix T w x v l) : Calls Try.prog 41 #[.pointer (some ⟨x, 0, none⟩), .int .i64 i] w fun e w' => e = .returned (.tuple #[enV (atE l i).1, .bool (atE l i).2]) ∧ Below w.heap.size w w' := by
  obtain ⟨a, cap, rfl, hens⟩ := h.row.ens
  have c0 := h.c0
  have hlx := lt_of_heap h.blk
  have HB : Hid (Below w.heap.size w (w.alloc (.cells #[.int .i64 0, .int .i64 0] 30))) := (Below.refl _ _).alloc (Nat.le_refl _) _
  by_cases h0 : 0 ≤ i
  · by_cases h1 : i < l.length
    · have he : atE l i = (l.getD i.toNat en0, true) := if_pos ⟨h0, h1⟩
      rw [he]
      obtain ⟨j, rfl⟩ : ∃ j : Nat, i = j := ⟨i.toNat, by omega⟩
      have hj : j < l.length := by omega
      rw [Int.toNat_natCast]
      rcases hens with e | ⟨b, off, rfl, hb, hc⟩
      · rw [e] at hj; cases hj
      obtain ⟨p0, p1⟩ := hc j hj
      generalize l.getD j en0 = s at *
      obtain ⟨sk, sa⟩ := s
      simp only at p0 p1
      have h0' : ¬ (j : Int) < 0 := by omega
      have hge : ¬ (l.length : Int) ≤ j := by omega
      clear hc he h
      generalize l.length = N at *
      go_enter Try.func41, Try.ntmps41
      go_wp2_with fail
      refine bodyPost_ret (v := .tuple #[.agg #[.int .i64 sk, .int .i64 sa], .bool true]) (by simp [results, Try.results41, go_sem]) rfl ⟨rfl, ?_⟩
      exact (Below.refl _ _).alloc (Nat.le_refl _) _
    · have he : atE l i = (en0, false) := if_neg (fun h => h1 h.2)
      rw [he]
      have h0' : ¬ i < 0 := by omega
      have hge : (l.length : Int) ≤ i := by omega
      clear he h hens
      generalize l.length = N at *
      go_enter Try.func41, Try.ntmps41
      go_wp2_with fail
      refine bodyPost_ret (v := .tuple #[.agg #[.int .i64 0, .int .i64 0], .bool false]) (by simp [results, Try.results41, go_sem]) rfl ⟨rfl, ?_⟩
      exact HB.out
  · have he : atE l i = (en0, false) := if_neg (fun h => h0 h.1)
    rw [he]
    have h0' : i < 0 := by omega
    clear he h hens
    go_enter Try.func41, Try.ntmps41
    go_wp2_with fail
    refine bodyPost_ret (v := .tuple #[.agg #[.int .i64 0, .int .i64 0], .bool false]) (by simp [results, Try.results41, go_sem]) rfl ⟨rfl, ?_⟩
    exact HB.out
set_option maxRecDepth 20000 in
set_option maxHeartbeats 1000000 in
theorem rlast_any {T : TypeId} (x : Nat) (v : Value) (l : List En) (w : World) (h : Ix T w x v l) (hn : l.length ≤ 8796093022208) : Calls Try.prog 31 #[.pointer (some ⟨x, 0, none⟩)] w fun e w' => e = .returned (.tuple #[enV (atE l ((l.length : Int) - 1)).1, .bool (atE l ((l.length : Int) - 1)).2]) ∧ Below w.heap.size w w' := by
  have HE : Hid (∀ wx, Below w.heap.size w wx → Calls Try.prog 41 #[.pointer (some ⟨x, 0, none⟩), .int .i64 ((l.length : Int) - 1)] wx fun e w' => e = .returned (.tuple #[enV (atE l ((l.length : Int) - 1)).1, .bool (atE l ((l.length : Int) - 1)).2]) ∧ Below wx.heap.size wx w') := fun wx hx => rentry_any x _ v l wx (h.below hx)
  obtain ⟨a, cap, rfl, _⟩ := h.row.ens
  have c0 := h.c0
  have hlx := lt_of_heap h.blk
  generalize atE l ((l.length : Int) - 1) = R at *
  obtain ⟨⟨rk, ra⟩, rb⟩ := R
  generalize l.length = N at *
  have HB := hid ((Below.refl w.heap.size w).alloc (Nat.le_refl _) (.cells #[.int .i64 0, .int .i64 0] 30))
  unfold enV at *
  simp only at HE ⊢
  clear h
  go_enter Try.func31, Try.ntmps31
  go_wp2_with (go_at_call 41; refine (HE.out _ HB.out).mono ?_; rintro e w2 ⟨rfl, hb2⟩; obtain ⟨z1, z2, z3, z4, z5⟩ := res4 rfl hb2; have HB2 := hid hb2; clear hb2)
  refine bodyPost_ret (v := .tuple #[.agg #[.int .i64 rk, .int .i64 ra], .bool rb]) (by simp [results, Try.results31, go_sem, z1, z2]) rfl ⟨rfl, ?_⟩
  exact ((HB.out.trans (HB2.out.mono HB.out.size)).setCell (Nat.le_refl _) _).setCell (Nat.le_refl _) _
set_option maxRecDepth 20000 in
set_option maxHeartbeats 1000000 in
theorem rcut_any {T : TypeId} (x : Nat) (n : Int) (v : Value) (l : List En) (w : World) (h : Ix T w x v l) (hT : T ≠ 30) : Calls Try.prog 39 #[.pointer (some ⟨x, 0, none⟩), .int .i64 n] w fun e w' => e = .returned (.int .i64 (cutC l n)) ∧ ∃ v', Ix T w' x v' (cutE l n) ∧ Ch (IS x v) w w' ∧ Moved w v v' := by
  have HX := hid h
  have c0 := h.c0
  have f0 := h.f0
  obtain ⟨N, a, cap, hN, rfl, hens⟩ := h.row.ensN
  have hcap : N ≤ cap := by
    rcases h.row.2 with ⟨h1, _⟩ | ⟨g, cap', cur, hv, _, _, h5, _⟩
    · cases h1; exact Nat.le_refl _
    · cases hv; rw [hN]; exact h5
  unfold cutE cutC
  rw [← hN]
  have HN := hid hN
  clear h hens hN
  by_cases h0 : 0 ≤ n
  · by_cases h1 : n ≤ N
    · rw [if_pos ⟨h0, h1⟩, if_pos ⟨h0, h1⟩]
      obtain ⟨j, rfl⟩ : ∃ j : Nat, n = j := ⟨n.toNat, by omega⟩
      rw [Int.toNat_natCast]
      have h0' : ¬ (j : Int) < 0 := by omega
      have hge : ¬ (N : Int) < j := by omega
      have hjc : (j : Int) ≤ cap := by omega
      go_enter Try.func39, Try.ntmps39
      go_wp2_with fail
      go_ret
      refine ⟨rfl, .slice a j cap, Ix.put HX.out.blk hT ?_, (Ch.refl _ _).setCell _ _ (fun _ => Or.inl rfl), fun g hg => Or.inl (by cases a <;> exact hg)⟩
      have := HX.out.row
      rw [HN.out] at this h1
      exact this.cut (by omega)
    · rw [if_neg (fun h => h1 h.2), if_neg (fun h => h1 h.2)]
      have h0' : ¬ n < 0 := by omega
      have hge : (N : Int) < n := by omega
      go_enter Try.func39, Try.ntmps39
      go_wp2_with fail
      go_ret
      exact ⟨rfl, _, HX.out, Ch.refl _ _, Moved.refl _ _⟩
  · rw [if_neg (fun h => h0 h.1), if_neg (fun h => h0 h.1)]
    have h0' : n < 0 := by omega
    go_enter Try.func39, Try.ntmps39
    go_wp2_with fail
    go_ret
    exact ⟨rfl, _, HX.out, Ch.refl _ _, Moved.refl _ _⟩
theorem bits_one' {n : Nat} (h : n ≤ 1) : bits n ≤ 1 := by
  have := bits_mono h
  have e : bits 1 = 1 := by decide +kernel
  omega
theorem rlooks_any (n : Nat) (w : World) (hn : n ≤ 8796093022208) : Calls Try.prog 38 #[.int .i64 n] w fun e w' => (∃ m : Nat, e = .returned (.int .i64 m) ∧ bits n ≤ m) ∧ w' = w := by
  by_cases h0 : n < 1
  · have h0I : (n : Int) < 1 := by omega
    have HB : Hid (bits n ≤ 0) := by have : n = 0 := by omega
                                     subst this; exact Nat.le_refl _
    go_enter Try.func38, Try.ntmps38
    go_wp2_with fail
    go_ret
    exact ⟨⟨0, rfl, HB.out⟩, rfl⟩
  · have h0I : ¬ (n : Int) < 1 := by omega
    go_enter Try.func38, Try.ntmps38
    go_wp2_with fail
    go_loopg [0, 3] n (fun k vn vm wr => ∃ m : Nat, vm = .int .i64 m ∧ vn = .int .i64 k ∧ k ≤ n ∧ Hid (m + bits k = 2 + bits n) ∧ w = wr)
    case atStart => exact ⟨2, rfl, rfl, Nat.le_refl _, rfl, rfl⟩
    case round =>
      obtain ⟨m, rfl, rfl, hk9, HMB, rfl⟩ := hrel
      have hm46 : m ≤ 46 := by have := HMB.out; have := bits_le n hn; omega
      by_cases h1 : 1 < gk
      · have h1I : (1 : Int) < gk := by omega
        have HX : Hid (m + 1 + bits (gk / 2) = 2 + bits n) := by have := HMB.out; have := bits_half gk (by omega); show _ = _; omega
        go_wp2_with fail
        go_roundg (gk / 2)
        case measure => omega
        case rel => exact ⟨m + 1, by go_num, by go_num, by omega, HX.out, rfl⟩
      · have h1I : ¬ (1 : Int) < gk := by omega
        have hbm : bits n ≤ m := by have := HMB.out; have := bits_one' (n := gk) (by omega); omega
        have HBM := hid hbm
        clear hbm HMB
        go_wp2_with fail
        go_ret
        exact ⟨⟨m, rfl, HBM.out⟩, rfl⟩
set_option maxRecDepth 20000 in
set_option maxHeartbeats 2000000 in
theorem rfind_any {T : TypeId} (x : Nat) (key : Int) (v : Value) (l : List En) (w : World) (h : Ix T w x v l) (hO : Ord l) (hn : l.length ≤ 8796093022208) : Calls Try.prog 37 #[.pointer (some ⟨x, 0, none⟩), .int .i64 key] w fun e w' => e = .returned (.tuple #[enV (atE l ((cnt l key : Int) - 1)).1, .bool (atE l ((cnt l key : Int) - 1)).2]) ∧ Below w.heap.size w w' := by
  have HX := hid h
  have HO := hid hO
  obtain ⟨N, a, cap, hN, rfl, hens⟩ := h.row.ensN
  have HEN := hid hens
  have hlx := lt_of_heap h.blk
  have HN := hid hN
  have c0 := h.c0
  rw [← hN] at hn
  have HB0 := hid ((Below.refl w.heap.size w).alloc (Nat.le_refl _) (.cells #[.int .i64 0, .int .i64 0] 30))
  have HR : Hid (∀ wx, Below w.heap.size w wx → wx.cell? ⟨x, 0, none⟩ = some (.slice a N cap)) := fun wx hx => (HX.out.below hx).c0
  have r0 := HR.out _ HB0.out
  clear h hO hN hens
  go_enter Try.func37, Try.ntmps37
  go_wp2_with fail
  go_loopg [6] N (fun k vi wr => vi = .int .i64 ((k : Int) - 1) ∧ k ≤ N ∧ Hid (∀ j, k ≤ j → j < N → key < (l.getD j en0).k) ∧ w.alloc (.cells #[.int .i64 0, .int .i64 0] 30) = wr)
  case atStart => exact ⟨rfl, Nat.le_refl _, fun j h1 h2 => absurd h1 (by omega), rfl⟩
  case round =>
    obtain ⟨rfl, hk, HH, rfl⟩ := hrel
    by_cases hg : 0 < gk
    · obtain ⟨q, rfl⟩ : ∃ q, gk = q + 1 := ⟨gk - 1, by omega⟩
      have e1 : ((q + 1 : Nat) : Int) - 1 = q := by omega
      rw [e1]
      have hqI : (0 : Int) ≤ q := by omega
      have hqN : q < N := by omega
      have hqNI : (q : Int) < N := by omega
      rcases HEN.out with e | ⟨b, off, rfl, hb, hc⟩
      · rw [HN.out, e] at hqN; cases hqN
      obtain ⟨p0, p1⟩ := hc q (by rw [← HN.out]; exact hqN)
      have q0 := (HB0.out.cell (p := ⟨b, off + q * 2, none⟩) hb).trans p0
      have q1 := (HB0.out.cell (p := ⟨b, off + q * 2 + 1, none⟩) hb).trans p1
      have HKL : Hid (∀ j, j < q + 1 → (l.getD j en0).k ≤ (l.getD q en0).k) := fun j hj => HO.out.le (by omega) (by rw [← HN.out]; exact hqN)
      have HAT : Hid ((l.getD q en0).k ≤ key → atE l ((cnt l key : Int) - 1) = (l.getD q en0, true)) := fun hle => by
        have hcn : cnt l key = q + 1 := cnt_eq (by rw [← HN.out]; omega) (fun j hj => Int.le_trans (HKL.out j hj) hle) (fun j h1 h2 => HH.out j h1 (by rw [HN.out]; exact h2))
        rw [hcn]
        unfold atE
        rw [if_pos (by rw [← HN.out]; omega)]
        congr 2
        omega
      have HH2 : Hid (key < (l.getD q en0).k → ∀ j, q ≤ j → j < N → key < (l.getD j en0).k) := fun hlt j h1 h2 => by
        rcases Nat.lt_or_ge q j with h3 | h3
        · exact HH.out j h3 h2
        · have : j = q := by omega
          subst this; exact hlt
      generalize l.getD q en0 = s at *
      obtain ⟨sk, sa⟩ := s
      simp only at q0 q1 HAT HH2
      clear hc p0 p1 e1 HKL
      by_cases hle : sk ≤ key
      · have HA2 := hid (HAT.out hle)
        go_wp2_with fail
        refine bodyPost_ret (v := .tuple #[.agg #[.int .i64 sk, .int .i64 sa], .bool true]) (by simp [results, Try.results37, go_sem]) rfl ⟨by rw [HA2.out]; rfl, ?_⟩
        exact (Below.refl _ _).alloc (Nat.le_refl _) _
      · have hlt : key < sk := by omega
        have HH3 := hid (HH2.out hlt)
        go_wp2_with fail
        go_roundg q
        case measure => omega
        case rel => exact ⟨by go_num, by omega, HH3.out, rfl⟩
    · have hg0 : gk = 0 := by omega
      subst hg0
      have e1 : ((0 : Nat) : Int) - 1 = -1 := by omega
      rw [e1]
      have hcn : cnt l key = 0 := cnt_eq (Nat.zero_le _) (fun j hj => absurd hj (by omega)) (fun j h1 h2 => HH.out j h1 (by rw [HN.out]; exact h2))
      have HE0 : Hid (atE l ((cnt l key : Int) - 1) = (en0, false)) := by show _ = _; rw [hcn]; exact if_neg (by omega)
      clear e1 hcn
      go_wp2_with fail
      refine bodyPost_ret (v := .tuple #[.agg #[.int .i64 0, .int .i64 0], .bool false]) (by simp [results, Try.results37, go_sem]) rfl ⟨by rw [HE0.out]; rfl, ?_⟩
      exact HB0.out
end Go.Proofs.Ytldfbddccmnchaa
