/- The document's Best, by its reference: the same best match. -/
import Derived.Test.YtdkfenmhfkggdaaBst
namespace Go.Proofs.Ytdkfenmhfkggdaa
open Go.RowKit
/-- The best so far, by the reference's own count. -/
def Rb (l : List UInt8) (p k N D : Nat) : Prop := M.bs l 0 p (M.most l p) k = (N, D)
theorem Rb.done {l : List UInt8} {p k N D : Nat} (h : Rb l p k N D) (hk : k = min p 8192 ∨ (N = M.most l p ∧ k ≤ min p 8192)) : M.bs l 0 p (M.most l p) (min p 8192) = (N, D) := by
  rcases hk with hk | ⟨hN, hk⟩
  · rw [← hk]; exact h
  · rw [M.bs_skip (D := k) hk ?_]
    · exact h
    · intro d h1 h2
      rw [h]
      have := M.alk_le l (M.most l p) (p - d) p
      show _ ≤ max N 0
      omega
theorem best_of {l : List UInt8} {p N D : Nat} (h : M.bs l 0 p (M.most l p) (min p 8192) = (N, D)) : M.best l p = if 3 < N then (N, D) else (0, 0) := by
  unfold M.best
  rw [M.bs_zero, h]
theorem Rb.pass {l : List UInt8} {p k N D : Nat} (h : Rb l p k N D) (hn : M.alk l (M.most l p) (p - (k + 1)) p ≤ N) : Rb l p (k + 1) N D := by
  unfold Rb at *
  rw [M.bs_skip (D := k) (by omega) ?_]
  · exact h
  · intro d h1 h2
    obtain rfl : d = k + 1 := by omega
    rw [h]
    show _ ≤ max N 0
    omega
theorem Rb.take {l : List UInt8} {p k N D n : Nat} (h : Rb l p k N D) (hn : M.alk l (M.most l p) (p - (k + 1)) p = n) (hg : N < n) : Rb l p (k + 1) n (k + 1) := by
  unfold Rb at *
  refine M.bs_take hn ?_
  rw [h]
  show max N 0 < n
  omega
theorem Rb.le {l : List UInt8} {p k N D : Nat} (h : Rb l p k N D) : N ≤ M.most l p := by
  have := (M.bs_le l 0 p (M.most l p) k).1
  unfold Rb at h
  rw [h] at this
  exact this
set_option maxHeartbeats 4000000 in
set_option maxRecDepth 20000 in
theorem rbest_in (s : ByteArray) (p : Nat) (w : World) (hs : s.size ≤ 9223372036854775000) (hp : p < s.size) :
    Calls Try.prog 13 #[.string s, .int .i64 p] w fun e w' => e = .returned (.tuple #[.int .i64 ((M.best s.data.toList p).1 : Nat), .int .i64 ((M.best s.data.toList p).2 : Nat)]) ∧ Qt w w' := by
  have hlen := len_ s
  have hats := fun (i : Nat) (h : i < s.size) => at_ s i h
  generalize s.data.toList = l at *
  obtain ⟨m, hm⟩ : ∃ m, m = M.most l p := ⟨_, rfl⟩
  have hm5 : m ≤ 131 := by rw [hm]; unfold M.most; omega
  have hm6 : p + m ≤ s.size := by rw [hm]; unfold M.most; omega
  have hm7 : m = 131 ∨ p + m = s.size := by rw [hm]; unfold M.most; omega
  have HM := hid hm
  have HL := hid hlen
  have HAT := hid hats
  have HM7 := hid hm7
  have hd1 : decide (s.size ≤ p) = false := by simp; omega
  have hd2 : decide ((p : Int) < 0) = false := by simp
  clear hm hlen hats hm7
  go_enter Try.func13, Try.ntmps13
  go_wp2_with fail
  go_loopw [6, 7, 8, 9] (fun n d k i wr => ∃ K N D : Nat, K ≤ p ∧ K ≤ 8192 ∧ N ≤ m ∧ n = .int .i64 N ∧ d = .int .i64 D ∧ k = .int .i64 (K + 1 : Nat) ∧ Hid (Rb l p K N D) ∧ Qt w wr) (fun n d k i wr => 8193 - (intOf k).toNat)
  case atStart => exact ⟨0, 0, 0, by omega, by omega, by omega, rfl, rfl, rfl, rfl, Qt.refl _⟩
  case round =>
    obtain ⟨K, N, D, hK, hK2, hN, rfl, rfl, rfl, HR, hq⟩ := hrel
    obtain ⟨k, hk⟩ : ∃ k, k = K + 1 := ⟨_, rfl⟩
    rw [← hk]
    have HK := hid hk
    by_cases hin : k ≤ p ∧ k ≤ 8192 ∧ N < 131
    · obtain ⟨h1, h2, h3⟩ := hin
      by_cases hfull : p + N < s.size
      · obtain ⟨y0, hy0⟩ : ∃ y, y = p - k := ⟨_, rfl⟩
        obtain ⟨y1, hy1⟩ : ∃ y, y = p - k + N := ⟨_, rfl⟩
        obtain ⟨v, hv⟩ : ∃ v, v = p + N := ⟨_, rfl⟩
        have g0 : y0 < s.size := by omega
        have g1 : y1 < s.size := by omega
        have gv : v < s.size := by omega
        have e1 : IntKind.i64.wrap ((p : Int) - k) = (y0 : Int) := by rw [wrap_in (by omega) (by omega)]; omega
        have e2 : IntKind.i64.wrap ((y0 : Int) + N) = (y1 : Int) := by rw [wrap_in (by omega) (by omega)]; omega
        have e3 : IntKind.i64.wrap ((p : Int) + N) = (v : Int) := by rw [wrap_in (by omega) (by omega)]; omega
        have f0 : s[y0] = M.by_ l (p - k) := by rw [HAT.out y0 g0, hy0]
        have fp : s[p] = M.by_ l p := HAT.out p hp
        have f1 : s[y1] = M.by_ l (p - k + N) := by rw [HAT.out y1 g1, hy1]
        have fv : s[v] = M.by_ l (p + N) := by rw [HAT.out v gv, hv]
        have HY0 := hid hy0.symm
        have hyp : y0 ≤ p := by omega
        have hpN : (p : Int) + N < s.size := by omega
        by_cases ha : s[y0] = s[p]
        · have ha2 : (((s[y0].toNat : Nat) : Int) != ((s[p].toNat : Nat) : Int)) = false := by rw [ha]; simp
          by_cases hb : s[y1] = s[v]
          · have hb2 : (((s[y1].toNat : Nat) : Int) != ((s[v].toNat : Nat) : Int)) = false := by rw [hb]; simp
            clear ha hb f0 fp f1 fv hy1 hv hk hy0
            go_wp2_with fail
            go_quiet (fail)
            go_wp2_with fail
            clear ha2 hb2 e2 e3
            go_loopw [9] (fun c wr2 => ∃ i : Nat, i ≤ m ∧ c = .int .i64 i ∧ Hid (∀ j, j < i → M.by_ l (y0 + j) = M.by_ l (p + j)) ∧ Qt w wr2) (fun c _ => m - (intOf c).toNat)
            case atStart => exact ⟨0, by omega, rfl, fun j hj => by omega, hq.drewN _⟩
            case round =>
              clear hq
              obtain ⟨i, hi, rfl, HI, hq2⟩ := hrel
              obtain ⟨X, hX⟩ : ∃ X, X = p + i := ⟨_, rfl⟩
              obtain ⟨Y, hY⟩ : ∃ Y, Y = y0 + i := ⟨_, rfl⟩
              have e4 : IntKind.i64.wrap ((p : Int) + i) = (X : Int) := by rw [wrap_in (by omega) (by omega)]; omega
              have e5 : IntKind.i64.wrap ((y0 : Int) + i) = (Y : Int) := by rw [wrap_in (by omega) (by omega)]; omega
              by_cases him : i < m
              · have gX : X < s.size := by omega
                have gY : Y < s.size := by omega
                have d1 : decide ((X : Int) < s.size) = true := by simp; omega
                have d2 : decide ((i : Int) < 131) = true := by simp; omega
                have fX : s[X] = M.by_ l (p + i) := by rw [HAT.out X gX, hX]
                have fY : s[Y] = M.by_ l (y0 + i) := by rw [HAT.out Y gY, hY]
                by_cases he : s[Y] = s[X]
                · have HI2 : Hid (∀ j, j < i + 1 → M.by_ l (y0 + j) = M.by_ l (p + j)) := by
                    intro j hj
                    by_cases hjk : j = i
                    · rw [hjk, ← fX, ← fY]; exact he
                    · exact HI.out j (by omega)
                  have he2 : (((s[Y].toNat : Nat) : Int) == ((s[X].toNat : Nat) : Int)) = true := by rw [he]; simp
                  clear he fX fY hX hY HI
                  go_wp2_with fail
                  go_quiet (fail)
                  go_wp2_with fail
                  go_roundw
                  case rel => exact ⟨i + 1, by omega, by go_num, HI2, hq2.drewN _⟩
                  case measure => simp [intOf]; omega
                · have HA : Hid (M.alk l m y0 p = i) := M.alk_is (by omega) HI.out (fun _ => by rw [← fX, ← fY]; exact he)
                  have he2 : (((s[Y].toNat : Nat) : Int) == ((s[X].toNat : Nat) : Int)) = false := by
                    rw [beq_eq_false_iff_ne]
                    intro h
                    exact he (UInt8.toNat_inj.1 (by omega))
                  clear he fX fY hX hY HI
                  go_wp2_with fail
                  go_quiet (fail)
                  by_cases hgt : N < i
                  · have HR3 := hid (HR.out.take (n := i) (by rw [← HM.out, ← HK.out, HY0.out]; exact HA.out) hgt)
                    rw [← HK.out] at HR3
                    go_wp2_with fail
                    go_roundw
                    case rel => exact ⟨k, i, k, h1, h2, by omega, rfl, rfl, by go_num, HR3, hq2.drewN _⟩
                    case measure => simp [intOf]; omega
                  · have HR3 := hid (HR.out.pass (by rw [← HM.out, ← HK.out, HY0.out, HA.out]; omega))
                    rw [← HK.out] at HR3
                    go_wp2_with fail
                    go_roundw
                    case rel => exact ⟨k, N, D, h1, h2, hN, rfl, rfl, by go_num, HR3, hq2.drewN _⟩
                    case measure => simp [intOf]; omega
              · obtain rfl : i = m := by omega
                have HA : Hid (M.alk l i y0 p = i) := M.alk_is (by omega) HI.out (fun h => absurd h him)
                by_cases h9 : X < s.size
                · have d1 : decide ((X : Int) < s.size) = true := by simp; omega
                  have d2 : decide ((i : Int) < 131) = false := by simp; have := HM7.out; omega
                  clear hX hY HI
                  go_wp2_with fail
                  go_quiet (fail)
                  by_cases hgt : N < i
                  · have HR3 := hid (HR.out.take (n := i) (by rw [← HM.out, ← HK.out, HY0.out]; exact HA.out) hgt)
                    rw [← HK.out] at HR3
                    go_wp2_with fail
                    go_roundw
                    case rel => exact ⟨k, i, k, h1, h2, by omega, rfl, rfl, by go_num, HR3, hq2.drewN _⟩
                    case measure => simp [intOf]; omega
                  · have HR3 := hid (HR.out.pass (by rw [← HM.out, ← HK.out, HY0.out, HA.out]; omega))
                    rw [← HK.out] at HR3
                    go_wp2_with fail
                    go_roundw
                    case rel => exact ⟨k, N, D, h1, h2, hN, rfl, rfl, by go_num, HR3, hq2.drewN _⟩
                    case measure => simp [intOf]; omega
                · have d1 : decide ((X : Int) < s.size) = false := by simp; omega
                  clear hX hY HI
                  go_wp2_with fail
                  go_quiet (fail)
                  by_cases hgt : N < i
                  · have HR3 := hid (HR.out.take (n := i) (by rw [← HM.out, ← HK.out, HY0.out]; exact HA.out) hgt)
                    rw [← HK.out] at HR3
                    go_wp2_with fail
                    go_roundw
                    case rel => exact ⟨k, i, k, h1, h2, by omega, rfl, rfl, by go_num, HR3, hq2.drewN _⟩
                    case measure => simp [intOf]; omega
                  · have HR3 := hid (HR.out.pass (by rw [← HM.out, ← HK.out, HY0.out, HA.out]; omega))
                    rw [← HK.out] at HR3
                    go_wp2_with fail
                    go_roundw
                    case rel => exact ⟨k, N, D, h1, h2, hN, rfl, rfl, by go_num, HR3, hq2.drewN _⟩
                    case measure => simp [intOf]; omega
          · have hb2 : (((s[y1].toNat : Nat) : Int) != ((s[v].toNat : Nat) : Int)) = true := by
              rw [bne_iff_ne]
              intro h
              exact hb (UInt8.toNat_inj.1 (by omega))
            have HR2 := hid (HR.out.pass (by rw [← HK.out, ← HM.out]; exact M.alk_lt (by rw [← f1, ← fv]; exact hb)))
            rw [← HK.out] at HR2
            clear ha hb f0 fp f1 fv hy1 hv hk hy0
            go_wp2_with fail
            go_quiet (fail)
            go_wp2_with fail
            go_roundw
            case rel => exact ⟨k, N, D, h1, h2, hN, rfl, rfl, by go_num, HR2, hq.drewN _⟩
            case measure => simp [intOf]; omega
        · have ha2 : (((s[y0].toNat : Nat) : Int) != ((s[p].toNat : Nat) : Int)) = true := by
            rw [bne_iff_ne]
            intro h
            exact ha (UInt8.toNat_inj.1 (by omega))
          have HR2 := hid (HR.out.pass (by rw [← HK.out, ← HM.out]; exact Nat.le_trans (M.alk_lt (n := 0) (by rw [Nat.add_zero, Nat.add_zero, ← f0, ← fp]; exact ha)) (Nat.zero_le _)))
          rw [← HK.out] at HR2
          clear ha f0 fp f1 fv hy1 hv hk hy0
          go_wp2_with fail
          go_quiet (fail)
          go_wp2_with fail
          go_roundw
          case rel => exact ⟨k, N, D, h1, h2, hN, rfl, rfl, by go_num, HR2, hq.drewN _⟩
          case measure => simp [intOf]; omega
      · have HD := hid (HR.out.done (Or.inr ⟨by have := HM7.out; have := HM.out; omega, by omega⟩))
        have hx : (s.size : Int) ≤ (p : Int) + N := by omega
        clear hk HR
        by_cases h4 : N < 4
        · have HB := hid (best_of HD.out)
          rw [if_neg (by omega)] at HB
          go_wp2_with fail
          go_ret2
          exact ⟨ret2 (by rw [HB.out]; rfl) (by rw [HB.out]; rfl), hq⟩
        · have HB := hid (best_of HD.out)
          rw [if_pos (by omega)] at HB
          go_wp2_with fail
          go_ret2
          exact ⟨ret2 (by rw [HB.out]) (by rw [HB.out]), hq⟩
    · have HD := hid (HR.out.done (by have := HM.out; omega))
      have HB := hid (best_of HD.out)
      clear hk HR
      by_cases h1 : k ≤ p
      · by_cases h2 : k ≤ 8192
        · have h3 : ¬ N < 131 := by omega
          rw [if_pos (by omega)] at HB
          go_wp2_with fail
          go_ret2
          exact ⟨ret2 (by rw [HB.out]) (by rw [HB.out]), hq⟩
        · by_cases h4 : N < 4
          · rw [if_neg (by omega)] at HB
            go_wp2_with fail
            go_ret2
            exact ⟨ret2 (by rw [HB.out]; rfl) (by rw [HB.out]; rfl), hq⟩
          · rw [if_pos (by omega)] at HB
            go_wp2_with fail
            go_ret2
            exact ⟨ret2 (by rw [HB.out]) (by rw [HB.out]), hq⟩
      · by_cases h4 : N < 4
        · rw [if_neg (by omega)] at HB
          go_wp2_with fail
          go_ret2
          exact ⟨ret2 (by rw [HB.out]; rfl) (by rw [HB.out]; rfl), hq⟩
        · rw [if_pos (by omega)] at HB
          go_wp2_with fail
          go_ret2
          exact ⟨ret2 (by rw [HB.out]) (by rw [HB.out]), hq⟩
end Go.Proofs.Ytdkfenmhfkggdaa
