/- The document's disk: Overwrite, Read. -/
import Derived.Test.YthjbhfhdepepmaaRcu
namespace Go.Proofs.Ythjbhfhdepepmaa
open Go.RowKit
theorem ba_app (a b : List UInt8) : ba a ++ ba b = ba (a ++ b) := by
  apply ByteArray.ext
  rw [ByteArray.data_append]
  apply Array.toList_inj.1
  simp [ba]
theorem ba_of' (s : ByteArray) : ba s.data.toList = s := by apply ByteArray.ext; show s.data.toList.toArray = s.data; simp
set_option maxHeartbeats 2000000 in
set_option maxRecDepth 20000 in
theorem rover_any (d : Nat) (fl : Value) (rm : Nat) (cl cb : Int) (V : Vw) (nm : ByteArray) (a : Int) (s : ByteArray) (w : World) (h : Rk w d fl rm cl cb V) (hs : SV rm V) (ha : a ≤ 9223372036854775807) :
    Calls Try.prog 80 #[.pointer (some ⟨d, 0, none⟩), .string nm, .int .i64 a, .string s] w fun e w' => e = .returned (.int .i64 (ovE (vl nm V) a s)) ∧ RAft w (Rt d fl) d rm cl cb (ovV nm a s V) w' := by
  have c1 := h.c1
  have HS := hid' (fun n => RAft.same h n)
  unfold ovV
  cases hv : vl nm V with
  | none =>
    obtain ⟨l, r, _, _, _, HA⟩ := h.at_none hs hv
    have HA := hid' HA
    clear h hs hv ha
    go_enter Try.func80, Try.ntmps80
    go_wp2_with (go_at_call 68; refine HA.out.mono ?_; rintro e w' ⟨rfl, k, rfl⟩)
    go_ret
    exact ⟨rfl, HS.out _⟩
  | some x =>
    obtain ⟨l, r, g, cap, hV, k1, k2, rfl, hlt, q1, q2, fz, _, HA⟩ := h.at_some hs hv
    have HA := hid' HA
    have hc := hs.cnt
    have hx30 := (hs.at hv).1
    have hltI : (l.length : Int) < V.length := by omega
    have hsz := ba_size x.1
    show Calls _ _ _ _ (fun e w' => e = .returned (.int .i64 (ovE (some x) a s)) ∧ RAft w _ d rm cl cb (if has5 x.1.length a s.size then vset nm (ovr x.1 a.toNat s.data.toList, x.2) V else V) w')
    unfold ovE
    by_cases hh : 0 ≤ a ∧ (s.size : Int) ≤ x.1.length - a
    · have e5 : has5 x.1.length a s.size = true := by unfold has5; simp; omega
      simp only [e5, if_true]
      obtain ⟨n, rfl⟩ : ∃ n : Nat, a = n := ⟨a.toNat, by omega⟩
      have hsl : s.data.toList.length = s.size := Array.length_toList
      have hx : (ba x.1).extract 0 n ++ s ++ (ba x.1).extract (n + s.size) x.1.length = ba (ovr x.1 n s.data.toList) := by
        have e1 : (ba x.1).extract (n + s.size) x.1.length = ba (x.1.drop (n + s.size)) := by
          rw [ba_ext, List.take_of_length_le (by rw [List.length_drop]; omega)]
        have e2 : (ba x.1).extract 0 n ++ s = ba (x.1.take n ++ s.data.toList) := by
          rw [ba_ext0, ← ba_app, ba_of']
        rw [e1, e2, ba_app]
        unfold ovr
        rw [hsl]
      have d1 : decide ((n : Int) < 0) = false := by simp
      have d2 : decide ((x.1.length : Int) < (n : Int)) = false := by simp; omega
      have d3 : decide ((x.1.length : Int) - (n : Int) < (s.size : Int)) = false := by simp; omega
      have en : ((n : Int)).toNat = n := by omega
      rw [en]
      have A1 := fun m => RAft.put (y := (ovr x.1 n s.data.toList, x.2)) h hV 1 (.string (ba (ovr x.1 n s.data.toList))) (by omega) rfl m
      have e0 : ∀ z, vset nm z V = l ++ (nm, z) :: r := fun z => by rw [hV]; exact vset_mid k1 k2
      rw [e0]
      have A2 := hid' A1
      have fz1 := fz (l.length * 3 + 1)
      have b1 : n + s.size ≤ x.1.length := by omega
      clear A1 e0 hV h hs hv HS k1 k2 hh e5 fz hsl
      generalize ba (ovr x.1 n s.data.toList) = X' at *
      generalize l ++ (nm, (ovr x.1 n s.data.toList, x.2)) :: r = V' at *
      generalize ba x.1 = X at *
      generalize x.1.length = XN at *
      generalize l.length = L at *
      generalize V.length = N at *
      have i1 : (n : Int) ≤ XN := by omega
      have i2 : (n : Int) + s.size ≤ XN := by omega
      have i3 : wrap64 ((n : Int) + s.size) = ((n + s.size : Nat) : Int) := by unfold wrap64; omega
      have i4 : wrap64 ((XN : Int) - n) = (XN : Int) - n := by unfold wrap64; omega
      go_enter Try.func80, Try.ntmps80
      go_wp2_with (go_at_call 68; refine HA.out.mono ?_; rintro e w' ⟨rfl, k, rfl⟩)
      go_region
      go_wp2
      go_ret
      exact ⟨rfl, A2.out _⟩
    · have e5 : has5 x.1.length a s.size = false := by unfold has5; simp; omega
      simp only [e5, Bool.false_eq_true, if_false]
      generalize x.1.length = XN at *
      generalize ba x.1 = X at *
      generalize l.length = L at *
      clear hV h hs hv k1 k2 e5 fz
      generalize V.length = N at *
      by_cases h0 : a < 0
      · have d1 : decide (a < 0) = true := by simpa using h0
        go_enter Try.func80, Try.ntmps80
        go_wp2_with (go_at_call 68; refine HA.out.mono ?_; rintro e w' ⟨rfl, k, rfl⟩)
        go_ret
        exact ⟨rfl, HS.out _⟩
      · have d1 : decide (a < 0) = false := by simpa using h0
        by_cases h2 : (XN : Int) < a
        · have d2 : decide ((XN : Int) < a) = true := by simp; omega
          go_enter Try.func80, Try.ntmps80
          go_wp2_with (go_at_call 68; refine HA.out.mono ?_; rintro e w' ⟨rfl, k, rfl⟩)
          go_ret
          exact ⟨rfl, HS.out _⟩
        · have d2 : decide ((XN : Int) < a) = false := by simp; omega
          have d3 : decide (wrap64 ((XN : Int) - a) < (s.size : Int)) = true := by simp; unfold wrap64; omega
          go_enter Try.func80, Try.ntmps80
          go_wp2_with (go_at_call 68; refine HA.out.mono ?_; rintro e w' ⟨rfl, k, rfl⟩)
          go_ret
          exact ⟨rfl, HS.out _⟩
end Go.Proofs.Ythjbhfhdepepmaa
