/- The document's disk: Append. -/
import Derived.Test.YthjbhfhdepepmaaRov
namespace Go.Proofs.Ythjbhfhdepepmaa
open Go.RowKit
set_option maxHeartbeats 2000000 in
set_option maxRecDepth 20000 in
theorem rappend_any (d : Nat) (fl : Value) (rm : Nat) (cl cb : Int) (V : Vw) (nm : ByteArray) (s : ByteArray) (w : World) (h : Rk w d fl rm cl cb V) (hs : SV rm V) :
    Calls Try.prog 31 #[.pointer (some ⟨d, 0, none⟩), .string nm, .string s] w fun e w' => e = .returned (.tuple #[.int .i64 (apN (vl nm V) rm (vt V) s), .int .i64 (apE (vl nm V) rm (vt V) s)]) ∧ RAft w (Rt d fl) d rm cl cb (apV nm rm s V) w' := by
  have c1 := h.c1
  have c0 := h.c0
  have HS := hid' (fun n => RAft.same h n)
  unfold apV
  cases hv : vl nm V with
  | none =>
    obtain ⟨l, r, _, _, _, HA⟩ := h.at_none hs hv
    have HA := hid' HA
    clear h hs hv
    go_enter Try.func31, Try.ntmps31
    go_wp2_with (go_at_call 68; refine HA.out.mono ?_; rintro e w' ⟨rfl, k, rfl⟩)
    go_ret2
    exact ⟨rfl, HS.out _⟩
  | some x =>
    obtain ⟨l, r, g, cap, hV, k1, k2, rfl, hlt, q1, q2, fz, _, HA⟩ := h.at_some hs hv
    have HA := hid' HA
    have HU := hid' (fun k n => (rused_any d _ rm cl cb V (w.drewN (k + n)) (h.ch ((Ch.refl (fun _ => False) w).drewN (k + n)) (fun _ _ e => e)) hs).mono (R' := fun e w' => e = .returned (.int .i64 (vt V)) ∧ ∃ m, w' = w.drewN (k + m)) (fun _ _ ⟨he, m, hm⟩ => ⟨he, n + m, by rw [hm, World.drewN_drewN, Nat.add_assoc]⟩))
    have hc := hs.cnt
    have hx30 := (hs.at hv).1
    have hrm := hs.rom
    have hltI : (l.length : Int) < V.length := by omega
    have hsz := ba_size x.1
    show Calls _ _ _ _ (fun e w' => e = .returned (.tuple #[.int .i64 (apN (some x) rm (vt V) s), .int .i64 (apE (some x) rm (vt V) s)]) ∧ RAft w _ d rm cl cb (vset nm (x.1 ++ s.data.toList.take (apN (some x) rm (vt V) s), x.2) V) w')
    have e0 : ∀ z, vset nm z V = l ++ (nm, z) :: r := fun z => by rw [hV]; exact vset_mid k1 k2
    rw [e0]
    obtain ⟨K, hK⟩ : ∃ K, K = min (rm - vt V) (1073741824 - x.1.length) := ⟨_, rfl⟩
    have hsl : s.data.toList.length = s.size := Array.length_toList
    have fz1 := fz (l.length * 3 + 1)
    unfold apE
    by_cases hf : s.size ≤ K
    · have eN : apN (some x) rm (vt V) s = s.size := by unfold apN; simp only; omega
      rw [eN, if_neg (by omega)]
      have A2 := hid' (fun m => RAft.put (y := (x.1 ++ s.data.toList.take s.size, x.2)) h hV 1 (.string (ba (x.1 ++ s.data.toList.take s.size))) (by omega) rfl m)
      have hx : ba x.1 ++ s = ba (x.1 ++ s.data.toList.take s.size) := by rw [← ba_app, List.take_of_length_le (by omega), ba_of']
      clear e0 hV h hs hv HS k1 k2 fz eN hsl
      generalize ba (x.1 ++ s.data.toList.take s.size) = X' at *
      generalize l ++ (nm, (x.1 ++ s.data.toList.take s.size, x.2)) :: r = V' at *
      generalize ba x.1 = X at *
      generalize x.1.length = XN at *
      generalize l.length = L at *
      generalize vt V = T at *
      generalize V.length = N at *
      by_cases hb : 1073741824 - XN < rm - T
      · have eK : (0 : Int) = 0 := rfl
        go_enter Try.func31, Try.ntmps31
        go_wp2_with (go_at_call 68; refine HA.out.mono ?_; rintro e w' ⟨rfl, k, rfl⟩)
        go_quiet ((go_at_call 62; exact HU.out _ _))
        go_wp2
        all_goals first | (exfalso; omega) | skip
        go_region
        go_wp2
        go_ret2
        exact ⟨by first | rfl | (rw [eK]; rfl), A2.out _⟩
      · have eK : (0 : Int) = 0 := rfl
        go_enter Try.func31, Try.ntmps31
        go_wp2_with (go_at_call 68; refine HA.out.mono ?_; rintro e w' ⟨rfl, k, rfl⟩)
        go_quiet ((go_at_call 62; exact HU.out _ _))
        go_wp2
        all_goals first | (exfalso; omega) | skip
        go_region
        go_wp2
        go_ret2
        exact ⟨by first | rfl | (rw [eK]; rfl), A2.out _⟩
    · have eN : apN (some x) rm (vt V) s = K := by unfold apN; simp only; omega
      rw [eN, if_pos (by omega)]
      have A2 := hid' (fun m => RAft.put (y := (x.1 ++ s.data.toList.take K, x.2)) h hV 1 (.string (ba (x.1 ++ s.data.toList.take K))) (by omega) rfl m)
      have hx : ba x.1 ++ s.extract 0 K = ba (x.1 ++ s.data.toList.take K) := by
        rw [← ba_app]
        congr 1
        conv => lhs; rw [← ba_of' s]
        rw [ba_ext0]
      clear e0 hV h hs hv HS k1 k2 fz eN hsl
      generalize ba (x.1 ++ s.data.toList.take K) = X' at *
      generalize l ++ (nm, (x.1 ++ s.data.toList.take K, x.2)) :: r = V' at *
      generalize ba x.1 = X at *
      generalize x.1.length = XN at *
      generalize l.length = L at *
      generalize vt V = T at *
      generalize V.length = N at *
      by_cases hb : 1073741824 - XN < rm - T
      · have eK : ((K : Nat) : Int) = (1073741824 : Int) - XN := by omega
        have eKn : K = 1073741824 - XN := by omega
        have hx' : X ++ s.extract 0 (1073741824 - XN) = X' := by rw [← eKn]; exact hx
        have i1 : (1073741824 : Int) - XN ≤ s.size := by omega
        have i2 : (0 : Int) ≤ (1073741824 : Int) - XN := by omega
        go_enter Try.func31, Try.ntmps31
        go_wp2_with (go_at_call 68; refine HA.out.mono ?_; rintro e w' ⟨rfl, k, rfl⟩)
        go_quiet ((go_at_call 62; exact HU.out _ _))
        go_wp2
        all_goals first | (exfalso; omega) | skip
        go_region
        go_wp2
        go_ret2
        exact ⟨by first | rfl | (rw [eK]; rfl), A2.out _⟩
      · have eK : ((K : Nat) : Int) = (rm : Int) - T := by omega
        have eKn : K = rm - T := by omega
        have hx' : X ++ s.extract 0 (rm - T) = X' := by rw [← eKn]; exact hx
        have i1 : (rm : Int) - T ≤ s.size := by omega
        have i2 : (0 : Int) ≤ (rm : Int) - T := by omega
        go_enter Try.func31, Try.ntmps31
        go_wp2_with (go_at_call 68; refine HA.out.mono ?_; rintro e w' ⟨rfl, k, rfl⟩)
        go_quiet ((go_at_call 62; exact HU.out _ _))
        go_wp2
        all_goals first | (exfalso; omega) | skip
        go_region
        go_wp2
        go_ret2
        exact ⟨by first | rfl | (rw [eK]; rfl), A2.out _⟩
end Go.Proofs.Ythjbhfhdepepmaa
