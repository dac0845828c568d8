/- The document's disk: Read. -/
import Derived.Test.YtclelafnjfhdjaaRov
namespace Go.Proofs.Ytclelafnjfhdjaa
open Go.RowKit
theorem RAft.cnt {w : World} {d : Nat} {fl : Value} {rm : Nat} {cl cb : Int} {V : Vw} (h : Rk w d fl rm cl cb V) (k1 k2 : Nat) (cl' cb' : Int) :
    RAft w (Rt d fl) d rm cl' cb' V ((((w.drewN k1).setCell ⟨d, 2, none⟩ (.int .i64 cl')).setCell ⟨d, 3, none⟩ (.int .i64 cb')).drewN k2) := by
  have h1 := h.ch ((Ch.refl (fun _ => False) w).drewN k1) (fun _ _ e => e)
  have hb := heap_set (i := 3) (v := .int .i64 cb') (heap_set (i := 2) (v := .int .i64 cl') h1.blk)
  have hc : Ch (fun i => i = d) w ((((w.drewN k1).setCell ⟨d, 2, none⟩ (.int .i64 cl')).setCell ⟨d, 3, none⟩ (.int .i64 cb')).drewN k2) :=
    ((((Ch.refl (fun i => i = d) w).drewN k1).setCell ⟨d, 2, none⟩ (.int .i64 cl') (fun _ => rfl)).setCell ⟨d, 3, none⟩ (.int .i64 cb') (fun _ => rfl)).drewN k2
  exact ⟨_, ⟨fl, ⟨hb, own_ch h.row hc (fun i hi e => h.ne hi e)⟩, rfl⟩, hc.mono (fun _ _ e => Or.inl e), fun _ hi => Or.inl hi⟩
theorem rd_wrap (a n x : Nat) (h : a + n ≤ x) (hx : x ≤ 1073741824) : wrap64 ((x : Int) - a) = (x : Int) - a ∧ wrap64 ((a : Int) + n) = ((a + n : Nat) : Int) := by unfold wrap64; omega
set_option maxHeartbeats 2000000 in
set_option maxRecDepth 20000 in
theorem rread_any (d : Nat) (fl : Value) (rm : Nat) (cl cb : Int) (V : Vw) (nm : ByteArray) (a n : Int) (w : World) (h : Rk w d fl rm cl cb V) (hs : SV rm V) (ha : a ≤ 9223372036854775807) :
    Calls Try.prog 31 #[.pointer (some ⟨d, 0, none⟩), .string nm, .int .i64 a, .int .i64 n] w fun e w' => e = .returned (.tuple #[.string (rdS (vl nm V) a n), .int .i64 (rdE (vl nm V) a n)]) ∧ RAft w (Rt d fl) d rm (rdC (vl nm V) a n cl) (rdB (vl nm V) a n cb) V w' := by
  have c1 := h.c1
  have c2 := h.c2
  have c3 := h.c3
  have f2 := h.fz 2
  have f3 := h.fz 3
  have HS := hid' (fun n => RAft.same h n)
  unfold rdC rdB
  cases hv : vl nm V with
  | none =>
    have eE : rdE (none : Option (List UInt8 × Nat)) a n = 4 := rfl
    rw [eE, if_neg (by omega), if_neg (by omega)]
    obtain ⟨l, r, _, _, _, HA⟩ := h.at_none hs hv
    have HA := hid' HA
    clear h hs hv ha
    go_enter Try.func31, Try.ntmps31
    go_wp2_with (go_at_call 53; refine HA.out.mono ?_; rintro e w' ⟨rfl, k, rfl⟩)
    go_ret2
    exact ⟨rfl, HS.out _⟩
  | some x =>
    obtain ⟨l, r, g, cap, hV, k1, k2, rfl, hlt, q1, q2, fz, _, HA⟩ := h.at_some hs hv
    have HA := hid' HA
    have hc := hs.cnt
    have hx30 := (hs.at hv).1
    have hltI : (l.length : Int) < V.length := by omega
    have hsz := ba_size x.1
    by_cases hh : 0 ≤ a ∧ 0 ≤ n ∧ n ≤ x.1.length - a
    · have e5 : has5 x.1.length a n = true := by unfold has5; simp; omega
      have eE : rdE (some x) a n = 0 := by unfold rdE; simp only [e5, if_true]
      have eS : rdS (some x) a n = ba ((x.1.drop a.toNat).take n.toNat) := by unfold rdS; simp only [e5, if_true]
      rw [eE, eS, if_pos rfl, if_pos rfl]
      obtain ⟨a', rfl⟩ : ∃ a' : Nat, a = a' := ⟨a.toNat, by omega⟩
      obtain ⟨n', rfl⟩ : ∃ n' : Nat, n = n' := ⟨n.toNat, by omega⟩
      have hX : (ba x.1).extract a' (a' + n') = ba ((x.1.drop (a' : Int).toNat).take (n' : Int).toNat) := by rw [ba_ext]; congr 2; omega
      rw [← hX]
      have HP := hid' (fun k1 k2 => RAft.cnt h k1 k2 (wrap64 (cl + 1)) (wrap64 (cb + n')))
      have i1 : (a' : Int) ≤ x.1.length := by omega
      have i2 : (a' : Int) + n' ≤ x.1.length := by omega
      have i3 : a' + n' ≤ x.1.length := by omega
      have d1 : decide ((a' : Int) < 0) = false := by simp
      have d2 : decide ((n' : Int) < 0) = false := by simp
      have W1 := hid' (rd_wrap a' n' x.1.length i3 hx30)
      clear h hs hv hV k1 k2 HS hh e5 eE eS hX fz
      generalize x.1.length = XN at *
      generalize ba x.1 = X at *
      generalize l.length = L at *
      generalize V.length = N at *
      have w1 := W1.out.1
      have w2 := W1.out.2
      go_enter Try.func31, Try.ntmps31
      go_wp2_with (go_at_call 53; refine HA.out.mono ?_; rintro e w' ⟨rfl, k, rfl⟩)
      go_ret2
      exact ⟨rfl, HP.out k 0⟩
    · have e5 : has5 x.1.length a n = false := by unfold has5; simp; omega
      have eE : rdE (some x) a n = 1 := by unfold rdE; simp only [e5, Bool.false_eq_true, if_false]
      have eS : rdS (some x) a n = ba [] := by unfold rdS; simp only [e5, Bool.false_eq_true, if_false]
      rw [eE, eS, if_neg (by omega), if_neg (by omega)]
      generalize x.1.length = XN at *
      generalize ba x.1 = X at *
      generalize l.length = L at *
      clear hV h hs hv k1 k2 e5 fz eE eS q2
      generalize V.length = N at *
      by_cases h0 : a < 0
      · have d1 : decide (a < 0) = true := by simpa using h0
        go_enter Try.func31, Try.ntmps31
        go_wp2_with (go_at_call 53; refine HA.out.mono ?_; rintro e w' ⟨rfl, k, rfl⟩)
        go_ret2
        exact ⟨rfl, HS.out _⟩
      · have d1 : decide (a < 0) = false := by simpa using h0
        by_cases h1 : n < 0
        · have d2 : decide (n < 0) = true := by simpa using h1
          go_enter Try.func31, Try.ntmps31
          go_wp2_with (go_at_call 53; refine HA.out.mono ?_; rintro e w' ⟨rfl, k, rfl⟩)
          go_ret2
          exact ⟨rfl, HS.out _⟩
        · have d2 : decide (n < 0) = false := by simpa using h1
          by_cases h2 : (XN : Int) < a
          · have d3 : decide ((XN : Int) < a) = true := by simp; omega
            go_enter Try.func31, Try.ntmps31
            go_wp2_with (go_at_call 53; refine HA.out.mono ?_; rintro e w' ⟨rfl, k, rfl⟩)
            go_ret2
            exact ⟨rfl, HS.out _⟩
          · have d3 : decide ((XN : Int) < a) = false := by simp; omega
            have d4 : decide (wrap64 ((XN : Int) - a) < n) = true := by simp; unfold wrap64; omega
            go_enter Try.func31, Try.ntmps31
            go_wp2_with (go_at_call 53; refine HA.out.mono ?_; rintro e w' ⟨rfl, k, rfl⟩)
            go_ret2
            exact ⟨rfl, HS.out _⟩
end Go.Proofs.Ytclelafnjfhdjaa
