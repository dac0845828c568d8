/- The library's search by halves, at the closure of Find. -/
import Derived.Test.YtmhmohkeekmmgaaTxf
namespace Go.Proofs.Ytmhmohkeekmmgaa
open Go.RowKit
set_option maxRecDepth 20000 in
set_option maxHeartbeats 2000000 in
theorem search_any {T : TypeId} (pb sb tb x : Nat) (t : Int) (v : Value) (l : List En) (w : World) (h : Ix T w x v l) (hO : Ord l) (hn : l.length ≤ 8796093022208) (hB : Bx w pb sb tb x t 0) (hp : pb ≠ x) (hpr : ∀ g, v.ownBlock = some g → g ≠ pb) : Calls Try.prog 47 #[.int .i64 l.length, .func (.func 49) #[] #[.pointer (some ⟨pb, 0, none⟩), .pointer (some ⟨sb, 0, none⟩), .pointer (some ⟨tb, 0, none⟩)]] w fun r w' => r = .returned (.int .i64 (cnt l t)) ∧ Bx w' pb sb tb x t (pr l t) ∧ Ch (fun i => i = pb) w w' := by
  have HW : Hid (∀ wx (j : Nat) (c : Int), Ch (fun i => i = pb) w wx → Bx wx pb sb tb x t c → j < l.length → 0 ≤ c → c ≤ 64 → Calls Try.prog 49 #[.int .i64 j, .pointer (some ⟨pb, 0, none⟩), .pointer (some ⟨sb, 0, none⟩), .pointer (some ⟨tb, 0, none⟩)] wx fun r w' => r = .returned (.bool (decide (t ≤ (l.getD j en0).k))) ∧ Bx w' pb sb tb x t (c + 1) ∧ Ch (fun i => i = pb) wx w') := fun wx j c hx hb hj h0 h1 => find1_any pb sb tb x j t c v l wx (h.ch hx (fun i hi => by
      rcases hi with rfl | hi
      · exact fun e => hp e.symm
      · exact hpr i hi)) hb hj h0 h1 hp hpr
  have HO := hid hO
  have HBx := hid hB
  have HPL := hid (pr_le44 l t hn)
  obtain ⟨N, hN⟩ : ∃ N, N = l.length := ⟨_, rfl⟩
  have HN := hid hN
  rw [← hN] at hn HW ⊢
  have HP0 : Hid (pr l t = prb l t 64 0 N) := by show _ = _; unfold pr; rw [hN]
  clear h hO hN hB hp hpr
  go_enter Try.func47, Try.ntmps47
  go_wp2_with fail
  go_loopg [5, 6] N (fun k vl vh wr => ∃ lo hi c f : Nat, lo + k = hi ∧ hi ≤ N ∧ vl = .int .i64 lo ∧ vh = .int .i64 hi ∧ Hid (k < 2 ^ f) ∧ Hid (c + prb l t f lo hi = pr l t) ∧ Hid (∀ j, j < lo → (l.getD j en0).k < t) ∧ Hid (∀ j, hi ≤ j → j < N → t ≤ (l.getD j en0).k) ∧ Hid (Bx wr pb sb tb x t c) ∧ Hid (Ch (fun i => i = pb) w wr))
  case atStart => exact ⟨0, N, 0, 64, by omega, Nat.le_refl _, rfl, rfl, by show N < 2 ^ 64; omega, by show 0 + _ = _; rw [HP0.out]; omega, fun j hj => absurd hj (by omega), fun j hj hj' => absurd hj (by omega), HBx.out, Ch.refl _ _⟩
  case round =>
    obtain ⟨lo, hi, c, f, hk, hhi, rfl, rfl, HF, HC, HL, HH, HB, HCh⟩ := hrel
    by_cases hlt : lo < hi
    · have hltI : (lo : Int) < hi := by omega
      obtain ⟨m, hm⟩ : ∃ m : Nat, m = (lo + hi) / 2 := ⟨_, rfl⟩
      have hmI : ((lo : Int) + (hi : Int)) / 2 = (m : Int) := by omega
      have hmN : m < N := by omega
      have hm1 : lo ≤ m := by omega
      have hm2 : m < hi := by omega
      have hc44 : (c : Int) ≤ 44 := by have := HC.out; have := HPL.out; omega
      obtain ⟨f', rfl⟩ : ∃ f', f = f' + 1 := ⟨f - 1, by have := HF.out; cases f with | zero => simp at this; omega | succ f => omega⟩
      have HW1 := hid (HW.out wr m c HCh.out HB.out hmN (by omega) (by omega))
      have HK : Hid ((∀ j, j < m → (l.getD j en0).k ≤ (l.getD m en0).k) ∧ (∀ j, m ≤ j → j < N → (l.getD m en0).k ≤ (l.getD j en0).k)) := ⟨fun j hj => HO.out.le (by omega) (by rw [← HN.out]; exact hmN), fun j h1 h2 => HO.out.le h1 (by rw [← HN.out]; exact h2)⟩
      have HM := hid hm
      have HJ := hid (And.intro hk hhi)
      clear HW HO hm
      by_cases hle : t ≤ (l.getD m en0).k
      · have hd : decide (t ≤ (l.getD m en0).k) = true := decide_eq_true hle
        rw [hd] at HW1
        have HLE := hid hle
        clear hd hle
        go_wp2_with (go_at_call 49; refine HW1.out.mono ?_; rintro e w2 ⟨rfl, hb2, hc2⟩; have HB2 := hid hb2; have HC2 := hid hc2; clear hb2 hc2)
        go_roundg (m - lo)
        case measure => omega
        case rel =>
          refine ⟨lo, m, c + 1, f', by omega, by omega, rfl, rfl, ?_, ?_, HL.out, fun j h1 h2 => Int.le_trans HLE.out (HK.out.2 j h1 h2), HB2.out, HCh.out.trans HC2.out⟩
          · have := HF.out; have := HJ.out.1; have := HM.out; show _ < _; rw [Nat.pow_succ] at *; omega
          · have h1 := HC.out
            rw [prb_down hlt (by rw [← HM.out]; have := HLE.out; omega), ← HM.out] at h1
            show _ = _; omega
      · have hd : decide (t ≤ (l.getD m en0).k) = false := decide_eq_false hle
        rw [hd] at HW1
        have HLE : Hid ((l.getD m en0).k < t) := by show _ < _; omega
        clear hd hle
        go_wp2_with (go_at_call 49; refine HW1.out.mono ?_; rintro e w2 ⟨rfl, hb2, hc2⟩; have HB2 := hid hb2; have HC2 := hid hc2; clear hb2 hc2)
        go_roundg (hi - (m + 1))
        case measure => omega
        case rel =>
          refine ⟨m + 1, hi, c + 1, f', by omega, hhi, by go_num, rfl, ?_, ?_, fun j hj => ?_, HH.out, HB2.out, HCh.out.trans HC2.out⟩
          · have := HF.out; have := HJ.out.1; have := HM.out; show _ < _; rw [Nat.pow_succ] at *; omega
          · have h1 := HC.out
            rw [prb_up hlt (by rw [← HM.out]; exact HLE.out), ← HM.out] at h1
            show _ = _; omega
          · rcases Nat.lt_or_ge j m with h1 | h1
            · exact Int.lt_of_le_of_lt (HK.out.1 j h1) HLE.out
            · have e : j = m := by omega
              subst e
              exact HLE.out
    · have hltI : ¬ (lo : Int) < hi := by omega
      have hlo : lo = hi := by omega
      subst hlo
      have HCN : Hid (cnt l t = lo) := cnt_eq (by rw [← HN.out]; exact hhi) HL.out (fun j h1 h2 => HH.out j h1 (by rw [HN.out]; exact h2))
      have HCE : Hid (c = pr l t) := by have := HC.out; rw [prb_end] at this; exact this
      clear HW HO HL HH HC
      go_wp2_with fail
      go_ret
      refine ⟨by rw [HCN.out]; rfl, ?_, HCh.out⟩
      have := HB.out
      rw [HCE.out] at this
      exact this
end Go.Proofs.Ytmhmohkeekmmgaa
