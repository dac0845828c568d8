/- The program's search along a chain answers the best match. -/
import Derived.Test.YtdkfenmhfkggdaaChn
namespace Go.Proofs.Ytdkfenmhfkggdaa
open Go.RowKit
/-- What is found so far, of the places from F on. -/
def Fnd (l : List UInt8) (at' F L D : Nat) : Prop := M.bs l 3 at' (M.most l at') (min (at' - F) 8192) = (L, D)
theorem Fnd.done {l : List UInt8} {at' F L D : Nat} (h : Fnd l at' F L D) (hF : F = 0 ∨ 8192 ≤ at' - F) : M.best l at' = (L, D) := by
  rw [← h]
  unfold M.best
  rcases hF with rfl | hF
  · rfl
  · rw [show min at' 8192 = min (at' - F) 8192 from by omega]
/-- On to the next place of the chain. -/
theorem Fnd.next {l : List UInt8} {lo at' q L D : Nat} (h : M.bs l 3 at' (M.most l at') (at' - q) = (L, D)) (hq : q < at') (hw : at' - q ≤ 8192) (hat : at' + 4 ≤ l.length) (hlo : lo = 0 ∨ lo + 8192 ≤ at') :
    Fnd l at' (M.prv (hh l) lo (hh l at') q) L D := by
  unfold Fnd
  have hle := M.prv_le (hh l) lo (hh l at') q
  rw [M.bs_skip (D := at' - q) (by omega) ?_]
  · exact h
  · intro d h1 h2
    rcases Nat.lt_or_ge (M.alk l (M.most l at') (at' - d) at') 4 with h3 | h3
    · omega
    · have h4 := M.prv_none (hh l) lo (hh l at') q (at' - d) (by omega) (by omega) (by omega)
      exact absurd (hh_alk (by omega) (by omega) h3) h4
theorem Fnd.look {l : List UInt8} {at' q L D : Nat} (h : Fnd l at' (q + 1) L D) (hq : q < at') (hw : at' - q ≤ 8192) (hn : M.alk l (M.most l at') q at' ≤ max L 3) : M.bs l 3 at' (M.most l at') (at' - q) = (L, D) := by
  unfold Fnd at h
  rw [show min (at' - (q + 1)) 8192 = at' - (q + 1) from by omega] at h
  rw [M.bs_skip (D := at' - (q + 1)) (by omega) ?_]
  · exact h
  · intro d h1 h2
    obtain rfl : d = at' - q := by omega
    rw [h, show at' - (at' - q) = q from by omega]
    exact hn
theorem Fnd.take {l : List UInt8} {at' q L D N : Nat} (h : Fnd l at' (q + 1) L D) (hq : q < at') (hw : at' - q ≤ 8192) (hn : M.alk l (M.most l at') q at' = N) (hg : max L 3 < N) : M.bs l 3 at' (M.most l at') (at' - q) = (N, at' - q) := by
  unfold Fnd at h
  rw [show min (at' - (q + 1)) 8192 = at' - (q + 1) from by omega] at h
  have e : at' - q = at' - (q + 1) + 1 := by omega
  rw [e]
  refine M.bs_take ?_ ?_
  · rw [show at' - (at' - (q + 1) + 1) = q from by omega]; exact hn
  · rw [h]; exact hg
/-- None is longer than all that can be. -/
theorem best_full {l : List UInt8} {at' q D : Nat} (h : M.bs l 3 at' (M.most l at') (at' - q) = (M.most l at', D)) (hw : at' - q ≤ 8192) (hq : q < at') : M.best l at' = (M.most l at', D) := by
  unfold M.best
  rw [M.bs_skip (D := at' - q) (by omega) ?_]
  · exact h
  · intro d h1 h2
    rw [h]
    have := M.alk_le l (M.most l at') (at' - d) at'
    show _ ≤ max (M.most l at') 3
    omega
theorem Fnd.start {l : List UInt8} {lo at' : Nat} (hat : at' + 4 ≤ l.length) (hlo : lo = 0 ∨ lo + 8192 ≤ at') : Fnd l at' (M.prv (hh l) lo (hh l at') at') 0 0 := by
  unfold Fnd
  have hle := M.prv_le (hh l) lo (hh l at') at'
  rw [M.bs_skip (D := 0) (by omega) ?_]
  · rfl
  · intro d h1 h2
    show _ ≤ max 0 3
    rcases Nat.lt_or_ge (M.alk l (M.most l at') (at' - d) at') 4 with h3 | h3
    · omega
    · have h4 := M.prv_none (hh l) lo (hh l at') at' (at' - d) (by omega) (by omega) (by omega)
      exact absurd (hh_alk (by omega) (by omega) h3) h4
theorem ret2 {a b c d : Int} (h1 : a = c) (h2 : b = d) : Ending.returned (.tuple #[.int .i64 a, .int .i64 b]) = .returned (.tuple #[.int .i64 c, .int .i64 d]) := by rw [h1, h2]
set_option maxHeartbeats 4000000 in
set_option maxRecDepth 20000 in
theorem cbest_any (s : ByteArray) (g lo p : Nat) (w : World) (hs : s.size ≤ 9223372036854775807) (hp : p < s.size) (hlo : lo = 0 ∨ lo + 8192 ≤ p) (h : Chn w g s.data.toList lo p) :
    Calls Try.prog 24 #[.pointer (some ⟨g, 0, none⟩), .string s, .int .i64 p] w fun e w' => e = .returned (.tuple #[.int .i64 ((M.best s.data.toList p).1 : Nat), .int .i64 ((M.best s.data.toList p).2 : Nat)]) ∧ Qt w w' := by
  obtain ⟨c, hg, hc⟩ := h
  have hlen := len_ s
  generalize hl : s.data.toList = l at *
  have HLL := hid hl
  have HLO := hid hlo
  by_cases h4 : p + 4 ≤ s.size
  · have hb := fun n => bucket_any s p (w.drewN n) hs h4
    rw [hl] at hb
    obtain ⟨m, hm⟩ : ∃ m, m = M.most l p := ⟨_, rfl⟩
    have hm4 : 4 ≤ m := by rw [hm]; unfold M.most; omega
    have hm5 : m ≤ 131 := by rw [hm]; unfold M.most; omega
    have hm6 : p + m ≤ s.size := by rw [hm]; unfold M.most; omega
    have hm7 : min ((s.size : Int) - p) 131 = (m : Int) := by rw [hm]; unfold M.most; omega
    have HM := hid hm
    have hB := hh_lt (l := l) (q := p) (by omega)
    have hst := Fnd.start (l := l) (lo := lo) (at' := p) (by omega) hlo
    have hpr := M.prv_le (hh l) lo (hh l p) p
    have hpi := M.prv_is (hh l) lo (hh l p) p
    have hld := hc.2.1 _ hB
    have k1 : w.cell? ⟨g, hh l p, none⟩ = some (.int .i64 (M.prv (hh l) lo (hh l p) p : Nat)) := (cell_of hg).trans hld
    generalize hF0 : M.prv (hh l) lo (hh l p) p = F0 at *
    generalize hBB : hh l p = B at *
    have HBB := hid hBB
    have HC := hid hc
    have HG := hid hg
    have HST := hid hst
    have HPI := hid hpi
    have HLEN := hid hlen
    have CB := hid hb
    have ca := fun (q : Nat) (mi : Int) (wr : World) (hmi : mi = (m : Int)) (hq : q ≤ p) => show Calls Try.prog 36 #[.string s, .int .i64 q, .int .i64 p, .int .i64 mi] wr fun e w' => e = .returned (.int .i64 (M.alk l m q p : Nat)) ∧ Qt wr w' from by
      rw [hmi, ← HLL.out]; exact alike_any s q p m wr hs (by omega) hm6
    have CA := hid ca
    clear hb hm hc hg hst hpi hld hF0 hBB hlo hl hlen ca
    by_cases h131 : (131 : Int) < (s.size : Int) - p
    · have hmi : (131 : Int) = (m : Int) := by omega
      have hmi2 : ¬ (131 : Int) < (4 : Int) := by omega
      have HMI := hid hmi
      clear hmi
      clear hm7
      go_enter Try.func24, Try.ntmps24
      go_wp2_with fail
      have b1 : (0 : Int) ≤ (B : Int) := by omega
      have b2 : (B : Int) < 8192 := by omega
      go_quiet ((go_at_call 35; exact Calls.quiet_of (CB.out _)))
      clear b1 b2 k1
      go_wp2_with fail
      go_loopw [6, 7, 9, 10, 11] (fun a b x f z wr => ∃ F L D : Nat, a = .int .i64 L ∧ b = .int .i64 D ∧ x = .int .i64 (max L 3 : Nat) ∧ f = .int .i64 ((F : Int) - 1) ∧ F ≤ p ∧ L < m ∧ Hid (F = 0 ∨ lo < F ∧ hh l (F - 1) = B) ∧ Hid (Fnd l p F L D) ∧ Qt w wr) (fun a b x f z wr => (intOf f + 1).toNat)
      case atStart => exact ⟨F0, 0, 0, rfl, rfl, rfl, rfl, hpr, by omega, HPI, HST, (Qt.refl _).drewN _⟩
      case round =>
        obtain ⟨F, L, D, rfl, rfl, rfl, rfl, hF, hL, HP, HF, hq⟩ := hrel
        clear hpr
        rcases Nat.eq_zero_or_pos F with h0 | h0
        · subst h0
          have HD := hid (HF.out.done (Or.inl rfl))
          go_wp2_with fail
          go_ret2
          exact ⟨ret2 (by rw [HD.out]) (by rw [HD.out]), hq⟩
        · obtain ⟨q, rfl⟩ : ∃ q, F = q + 1 := ⟨F - 1, by omega⟩
          have e : ((q + 1 : Nat) : Int) - 1 = q := by omega
          rw [e]
          clear e h0
          by_cases hw : p - q ≤ 8192
          · have hgr : wr.heap[g]? = some (.cells c 56 (0, 0)) := by rw [hq.heap]; exact HG.out
            obtain ⟨hq1, hq2⟩ : lo < q + 1 ∧ hh l q = B := by
              rcases HP.out with h | h
              · omega
              · exact h
            have hq4 : q + 4 ≤ l.length := by
              rcases Nat.lt_or_ge l.length (q + 4) with h | h
              · rw [hh_end (by omega)] at hq2; omega
              · exact h
            have k7 := (cell_of hgr).trans (HC.out.2.2.1 q (by omega) (by omega) (by omega) hq4)
            rw [hq2] at k7
            obtain ⟨r, hr⟩ : ∃ r, r = q % 8192 := ⟨_, rfl⟩
            rw [← hr] at k7
            have HN := hid (fun L' D' (h : M.bs l 3 p (M.most l p) (p - q) = (L', D')) => Fnd.next (lo := lo) h (by omega) hw (by rw [HLEN.out]; omega) HLO.out)
            rw [HBB.out] at HN
            have hG1 := M.prv_le (hh l) lo B q
            have HG2 := hid (M.prv_is (hh l) lo B q)
            generalize M.prv (hh l) lo B q = G at *
            have HR := hid hr
            have d2 : (q : Int) % 8192 = (r : Int) := by omega
            have hX : max L 3 < m := by omega
            have HL3 := hid (rfl : max L 3 = max L 3)
            obtain ⟨X, hXX⟩ : ∃ X, X = max L 3 := ⟨_, rfl⟩
            rw [← hXX] at hX
            rw [← hXX]
            have HX := hid hXX
            have hX3 : 3 ≤ X := by omega
            obtain ⟨u, hu⟩ : ∃ u, u = q + X := ⟨_, rfl⟩
            obtain ⟨v, hv⟩ : ∃ v, v = p + X := ⟨_, rfl⟩
            have h1 : u < s.size := by omega
            have h2 : v < s.size := by omega
            have e1 : IntKind.i64.wrap ((q : Int) + X) = (u : Int) := by rw [hu]; exact wrap_add (by omega)
            have e2 : IntKind.i64.wrap ((p : Int) + X) = (v : Int) := by rw [hv]; exact wrap_add (by omega)
            have f1 : s[u] = M.by_ l (q + X) := by rw [at_ s u h1, hu, HLL.out]
            have f2 : s[v] = M.by_ l (p + X) := by rw [at_ s v h2, hv, HLL.out]
            have hrl : r < 8192 := by omega
            clear hr hgr hq2 hq4 HL3
            by_cases he : s[u] = s[v]
            · have he2 : (((s[u].toNat : Nat) : Int) != ((s[v].toNat : Nat) : Int)) = false := by rw [he]; simp
              clear he f1 f2 hu hv
              have cq := fun wr => CA.out q (131 : Int) wr HMI.out (by omega)
              have HN1 := hid (fun (h : M.alk l m q p ≤ max L 3) => HF.out.look (by omega) hw (by rw [← HM.out]; exact h))
              have HN2 := hid (fun (N : Nat) (h1 : M.alk l m q p = N) (h : max L 3 < N) => HF.out.take (by omega) hw (by rw [← HM.out]; exact h1) h)
              have hAm := M.alk_le l m q p
              have HNE := hid (rfl : M.alk l m q p = M.alk l m q p)
              generalize hNN : M.alk l m q p = N at *
              have CQ := hid cq
              clear cq hXX HF HP hNN HNE
              by_cases hgt : X < N
              · have hN2 := HN2.out N rfl (by rw [← HX.out]; exact hgt)
                by_cases hfull : N = m
                · have HB := hid (best_full (D := p - q) (by rw [hN2, hfull, HM.out]) hw (by omega))
                  have heq : ((N : Int) == (131 : Int)) = true := by rw [beq_iff_eq]; have := HMI.out; omega
                  clear hN2 HN HN1 HN2 
                  go_wp2_with fail
                  go_quiet (fail)
                  go_wp2_with fail
                  refine (CQ.out _).mono ?_
                  rintro e w1 ⟨rfl, hq9⟩
                  go_wp2_with fail
                  go_ret2
                  exact ⟨ret2 (by rw [HB.out]; show (m : Int) = ((M.most l p : Nat) : Int); rw [← HM.out]) (by rw [HB.out]; show (p : Int) - q = ((p - q : Nat) : Int); omega), (hq.drewN _).trans hq9⟩
                · have HF2 := hid (HN.out _ _ hN2)
                  have heq : ((N : Int) == (131 : Int)) = false := by rw [beq_eq_false_iff_ne]; have := HMI.out; omega
                  clear hN2 HN HN1 HN2
                  go_wp2_with fail
                  go_quiet (fail)
                  go_wp2_with fail
                  refine (CQ.out _).mono ?_
                  rintro e w1 ⟨rfl, hq9⟩
                  have k8 : w1.cell? ⟨g, 8192 + r, none⟩ = some (.int .i64 G) := by rw [show w1.cell? ⟨g, 8192 + r, none⟩ = wr.cell? ⟨g, 8192 + r, none⟩ from by obtain ⟨n, rfl⟩ := hq9; rfl]; exact k7
                  go_wp2_with fail
                  go_roundw
                  case rel => exact ⟨G, N, p - q, rfl, by go_num, by rw [show max N 3 = N from by omega], by go_num, by omega, by omega, HG2, HF2, (hq.drewN _).trans hq9⟩
                  case measure => simp [intOf]; omega
              · have HF2 := hid (HN.out _ _ (HN1.out (by rw [← HX.out]; omega)))
                have heq : ((L : Int) == (131 : Int)) = false := by rw [beq_eq_false_iff_ne]; have := HMI.out; omega
                clear HN HN1 HN2
                go_wp2_with fail
                go_quiet (fail)
                go_wp2_with fail
                refine (CQ.out _).mono ?_
                rintro e w1 ⟨rfl, hq9⟩
                have k8 : w1.cell? ⟨g, 8192 + r, none⟩ = some (.int .i64 G) := by rw [show w1.cell? ⟨g, 8192 + r, none⟩ = wr.cell? ⟨g, 8192 + r, none⟩ from by obtain ⟨n, rfl⟩ := hq9; rfl]; exact k7
                go_wp2_with fail
                go_roundw
                case rel => exact ⟨G, L, D, rfl, rfl, by rw [HX.out], by go_num, by omega, hL, HG2, HF2, (hq.drewN _).trans hq9⟩
                case measure => simp [intOf]; omega
            · have he2 : (((s[u].toNat : Nat) : Int) != ((s[v].toNat : Nat) : Int)) = true := by
                rw [bne_iff_ne]
                intro h
                exact he (UInt8.toNat_inj.1 (by omega))
              have HF2 := hid (HN.out _ _ (HF.out.look (by omega) hw (by rw [← hXX]; exact M.alk_lt (by rw [← f1, ← f2]; exact he))))
              clear he f1 f2 hu hv HN hXX HF HP
              go_wp2_with fail
              go_quiet (fail)
              go_wp2_with fail
              go_roundw
              case rel => exact ⟨G, L, D, rfl, rfl, by rw [HX.out], by go_num, by omega, hL, HG2, HF2, hq.drewN _⟩
              case measure => simp [intOf]; omega
          · have HD := hid (HF.out.done (Or.inr (by omega)))
            go_wp2_with fail
            go_ret2
            exact ⟨ret2 (by rw [HD.out]) (by rw [HD.out]), hq⟩
    · have hmi : ((s.size : Int) - p) = (m : Int) := by omega
      have hmi2 : ¬ ((s.size : Int) - p) < (4 : Int) := by omega
      have HMI := hid hmi
      clear hmi
      clear hm7
      go_enter Try.func24, Try.ntmps24
      go_wp2_with fail
      have b1 : (0 : Int) ≤ (B : Int) := by omega
      have b2 : (B : Int) < 8192 := by omega
      go_quiet ((go_at_call 35; exact Calls.quiet_of (CB.out _)))
      clear b1 b2 k1
      go_wp2_with fail
      go_loopw [6, 7, 9, 10, 11] (fun a b x f z wr => ∃ F L D : Nat, a = .int .i64 L ∧ b = .int .i64 D ∧ x = .int .i64 (max L 3 : Nat) ∧ f = .int .i64 ((F : Int) - 1) ∧ F ≤ p ∧ L < m ∧ Hid (F = 0 ∨ lo < F ∧ hh l (F - 1) = B) ∧ Hid (Fnd l p F L D) ∧ Qt w wr) (fun a b x f z wr => (intOf f + 1).toNat)
      case atStart => exact ⟨F0, 0, 0, rfl, rfl, rfl, rfl, hpr, by omega, HPI, HST, (Qt.refl _).drewN _⟩
      case round =>
        obtain ⟨F, L, D, rfl, rfl, rfl, rfl, hF, hL, HP, HF, hq⟩ := hrel
        clear hpr
        rcases Nat.eq_zero_or_pos F with h0 | h0
        · subst h0
          have HD := hid (HF.out.done (Or.inl rfl))
          go_wp2_with fail
          go_ret2
          exact ⟨ret2 (by rw [HD.out]) (by rw [HD.out]), hq⟩
        · obtain ⟨q, rfl⟩ : ∃ q, F = q + 1 := ⟨F - 1, by omega⟩
          have e : ((q + 1 : Nat) : Int) - 1 = q := by omega
          rw [e]
          clear e h0
          by_cases hw : p - q ≤ 8192
          · have hgr : wr.heap[g]? = some (.cells c 56 (0, 0)) := by rw [hq.heap]; exact HG.out
            obtain ⟨hq1, hq2⟩ : lo < q + 1 ∧ hh l q = B := by
              rcases HP.out with h | h
              · omega
              · exact h
            have hq4 : q + 4 ≤ l.length := by
              rcases Nat.lt_or_ge l.length (q + 4) with h | h
              · rw [hh_end (by omega)] at hq2; omega
              · exact h
            have k7 := (cell_of hgr).trans (HC.out.2.2.1 q (by omega) (by omega) (by omega) hq4)
            rw [hq2] at k7
            obtain ⟨r, hr⟩ : ∃ r, r = q % 8192 := ⟨_, rfl⟩
            rw [← hr] at k7
            have HN := hid (fun L' D' (h : M.bs l 3 p (M.most l p) (p - q) = (L', D')) => Fnd.next (lo := lo) h (by omega) hw (by rw [HLEN.out]; omega) HLO.out)
            rw [HBB.out] at HN
            have hG1 := M.prv_le (hh l) lo B q
            have HG2 := hid (M.prv_is (hh l) lo B q)
            generalize M.prv (hh l) lo B q = G at *
            have HR := hid hr
            have d2 : (q : Int) % 8192 = (r : Int) := by omega
            have hX : max L 3 < m := by omega
            have HL3 := hid (rfl : max L 3 = max L 3)
            obtain ⟨X, hXX⟩ : ∃ X, X = max L 3 := ⟨_, rfl⟩
            rw [← hXX] at hX
            rw [← hXX]
            have HX := hid hXX
            have hX3 : 3 ≤ X := by omega
            obtain ⟨u, hu⟩ : ∃ u, u = q + X := ⟨_, rfl⟩
            obtain ⟨v, hv⟩ : ∃ v, v = p + X := ⟨_, rfl⟩
            have h1 : u < s.size := by omega
            have h2 : v < s.size := by omega
            have e1 : IntKind.i64.wrap ((q : Int) + X) = (u : Int) := by rw [hu]; exact wrap_add (by omega)
            have e2 : IntKind.i64.wrap ((p : Int) + X) = (v : Int) := by rw [hv]; exact wrap_add (by omega)
            have f1 : s[u] = M.by_ l (q + X) := by rw [at_ s u h1, hu, HLL.out]
            have f2 : s[v] = M.by_ l (p + X) := by rw [at_ s v h2, hv, HLL.out]
            have hrl : r < 8192 := by omega
            clear hr hgr hq2 hq4 HL3
            by_cases he : s[u] = s[v]
            · have he2 : (((s[u].toNat : Nat) : Int) != ((s[v].toNat : Nat) : Int)) = false := by rw [he]; simp
              clear he f1 f2 hu hv
              have cq := fun wr => CA.out q ((s.size : Int) - p) wr HMI.out (by omega)
              have HN1 := hid (fun (h : M.alk l m q p ≤ max L 3) => HF.out.look (by omega) hw (by rw [← HM.out]; exact h))
              have HN2 := hid (fun (N : Nat) (h1 : M.alk l m q p = N) (h : max L 3 < N) => HF.out.take (by omega) hw (by rw [← HM.out]; exact h1) h)
              have hAm := M.alk_le l m q p
              have HNE := hid (rfl : M.alk l m q p = M.alk l m q p)
              generalize hNN : M.alk l m q p = N at *
              have CQ := hid cq
              clear cq hXX HF HP hNN HNE
              by_cases hgt : X < N
              · have hN2 := HN2.out N rfl (by rw [← HX.out]; exact hgt)
                by_cases hfull : N = m
                · have HB := hid (best_full (D := p - q) (by rw [hN2, hfull, HM.out]) hw (by omega))
                  have heq : ((N : Int) == ((s.size : Int) - p)) = true := by rw [beq_iff_eq]; have := HMI.out; omega
                  clear hN2 HN HN1 HN2 
                  go_wp2_with fail
                  go_quiet (fail)
                  go_wp2_with fail
                  refine (CQ.out _).mono ?_
                  rintro e w1 ⟨rfl, hq9⟩
                  go_wp2_with fail
                  go_ret2
                  exact ⟨ret2 (by rw [HB.out]; show (m : Int) = ((M.most l p : Nat) : Int); rw [← HM.out]) (by rw [HB.out]; show (p : Int) - q = ((p - q : Nat) : Int); omega), (hq.drewN _).trans hq9⟩
                · have HF2 := hid (HN.out _ _ hN2)
                  have heq : ((N : Int) == ((s.size : Int) - p)) = false := by rw [beq_eq_false_iff_ne]; have := HMI.out; omega
                  clear hN2 HN HN1 HN2
                  go_wp2_with fail
                  go_quiet (fail)
                  go_wp2_with fail
                  refine (CQ.out _).mono ?_
                  rintro e w1 ⟨rfl, hq9⟩
                  have k8 : w1.cell? ⟨g, 8192 + r, none⟩ = some (.int .i64 G) := by rw [show w1.cell? ⟨g, 8192 + r, none⟩ = wr.cell? ⟨g, 8192 + r, none⟩ from by obtain ⟨n, rfl⟩ := hq9; rfl]; exact k7
                  go_wp2_with fail
                  go_roundw
                  case rel => exact ⟨G, N, p - q, rfl, by go_num, by rw [show max N 3 = N from by omega], by go_num, by omega, by omega, HG2, HF2, (hq.drewN _).trans hq9⟩
                  case measure => simp [intOf]; omega
              · have HF2 := hid (HN.out _ _ (HN1.out (by rw [← HX.out]; omega)))
                have heq : ((L : Int) == ((s.size : Int) - p)) = false := by rw [beq_eq_false_iff_ne]; have := HMI.out; omega
                clear HN HN1 HN2
                go_wp2_with fail
                go_quiet (fail)
                go_wp2_with fail
                refine (CQ.out _).mono ?_
                rintro e w1 ⟨rfl, hq9⟩
                have k8 : w1.cell? ⟨g, 8192 + r, none⟩ = some (.int .i64 G) := by rw [show w1.cell? ⟨g, 8192 + r, none⟩ = wr.cell? ⟨g, 8192 + r, none⟩ from by obtain ⟨n, rfl⟩ := hq9; rfl]; exact k7
                go_wp2_with fail
                go_roundw
                case rel => exact ⟨G, L, D, rfl, rfl, by rw [HX.out], by go_num, by omega, hL, HG2, HF2, (hq.drewN _).trans hq9⟩
                case measure => simp [intOf]; omega
            · have he2 : (((s[u].toNat : Nat) : Int) != ((s[v].toNat : Nat) : Int)) = true := by
                rw [bne_iff_ne]
                intro h
                exact he (UInt8.toNat_inj.1 (by omega))
              have HF2 := hid (HN.out _ _ (HF.out.look (by omega) hw (by rw [← hXX]; exact M.alk_lt (by rw [← f1, ← f2]; exact he))))
              clear he f1 f2 hu hv HN hXX HF HP
              go_wp2_with fail
              go_quiet (fail)
              go_wp2_with fail
              go_roundw
              case rel => exact ⟨G, L, D, rfl, rfl, by rw [HX.out], by go_num, by omega, hL, HG2, HF2, hq.drewN _⟩
              case measure => simp [intOf]; omega
          · have HD := hid (HF.out.done (Or.inr (by omega)))
            go_wp2_with fail
            go_ret2
            exact ⟨ret2 (by rw [HD.out]) (by rw [HD.out]), hq⟩
  · have hbe := M.best_end (l := l) (at' := p) (by omega)
    have HBE := hid hbe
    have hx : min ((s.size : Int) - p) 131 < 4 := by omega
    clear hbe hc
    go_enter Try.func24, Try.ntmps24
    go_wp2_with fail
    go_ret2
    exact ⟨ret2 (by rw [HBE.out]; rfl) (by rw [HBE.out]; rfl), Qt.refl _⟩
end Go.Proofs.Ytdkfenmhfkggdaa
