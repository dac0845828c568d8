/- Ask of any request, ReadAsk of any bytes. -/
import Derived.Test.YtgdaaohlongmlaaPaq
import Derived.Test.YtgdaaohlongmlaaPrr
import Derived.Test.YtgdaaohlongmlaaPm2
namespace Go.Proofs.Ytgdaaohlongmlaa
open Go.RowKit
def rqV (x : Rq × Nat) : Value := .tuple #[.agg x.1.c, .int .i64 x.2]
theorem ra2_Q (r : Rq) (E : Nat) : ra2 r.c zq.c E = rqV (finQ r E) := by
  unfold ra2 finQ rqV
  by_cases h : E = 0
  · rw [if_pos h, if_pos h, h]
  · rw [if_neg h, if_neg h]
theorem toQ (r : Rq) (E : Nat) {s : ByteArray} (hq : raQ s = finQ r E) {e : Ending} {w w' : World} (h : e = .returned (ra2 r.c zq.c E) ∧ Below w.heap.size w w') : e = .returned (rqV (raQ s)) ∧ Below w.heap.size w w' := by
  rw [hq, ← ra2_Q]; exact h
theorem size_small {s : ByteArray} {k : Nat} (h : dcut k s 0 0 = true) : False := by
  unfold dcut at h
  rw [decide_eq_false (by omega), decide_eq_false (by omega)] at h
  exact absurd h (by decide)
theorem dcut_no {M n k : Nat} {s : ByteArray} (h : ¬ dcut M s n k = true) : n ≤ M ∧ n ≤ s.size - k := by
  constructor
  · apply Nat.le_of_not_lt; intro h1; apply h; unfold dcut; rw [decide_eq_true h1]; rfl
  · apply Nat.le_of_not_lt; intro h1; apply h; unfold dcut; rw [decide_eq_true h1, Bool.or_true]
theorem rf_cut {M n k : Nat} {s : ByteArray} (h : dcut M s n k = true) (d : Nat) : fl (rf (dcut M s n k) 21 0 0) d = 21 := by rw [h]; rfl
theorem rf_late {c : Bool} {e d why : Nat} (h : e ≠ 0) : fl (rf c why 0 e) d = d := by
  have : rf c why 0 e = 0 := by unfold rf; rw [fl_0, if_neg (fun h2 => h h2.2)]
  rw [this, fl_0]
set_option maxHeartbeats 1000000 in
theorem readask_any (s : ByteArray) (w : World) (hs : s.size ≤ 9223372036854775807) :
    Calls Try.prog 8 #[.string s] w fun e w' => e = .returned (rqV (raQ s)) ∧ Below w.heap.size w w' := by
  obtain ⟨v, k1, e1, h0⟩ := ex3 (fx 1 s 0 0)
  by_cases he : e1 = 0
  · subst he
    obtain ⟨hv, hS, rfl⟩ := fx_iff.1 h0
    rw [Nat.zero_add] at h0
    obtain ⟨x2, k2, e2, h1⟩ := ex3 (fx 8 s 1 0)
    obtain ⟨x3, k3, e3, h2⟩ := ex3 (fx 8 s k2 e2)
    obtain ⟨n, kn, en, hn⟩ := ex3 (fx 4 s 1 0)
    by_cases hk : v = 1
    · subst hk
      by_cases hen : en = 0
      · subst hen
        obtain ⟨hnl, hSn, rfl⟩ := fx_iff.1 hn
        have hk5 := hSn.le
        rw [nb_len] at hk5
        by_cases hc : dcut 16777216 s n (1 + 4) = true
        · refine (rask_1bad s n (1 + 4) 0 _ 21 w hs h0 hn (Or.inr hc) rfl (rf_cut hc _)).mono fun e w' h => toQ ⟨1, ⟨#[]⟩, 0, 0, 0⟩ 21 ?_ h
          unfold raQ rdD
          rw [h0, hn]
          dsimp only
          rw [if_neg (by decide)]
          (first | rw [if_pos rfl] | rw [if_pos trivial])
          rw [if_neg (by decide)]
          rw [if_pos hc]
        · obtain ⟨hM, hL⟩ := dcut_no hc
          refine (rask_1 s n (1 + 4) _ w hs h0 hn hM (by omega) (fl_0 _)).mono fun e w' h => toQ ⟨1, s.extract (1 + 4) (1 + 4 + n), 0, 0, 0⟩ _ ?_ h
          unfold raQ rdD
          rw [h0, hn]
          dsimp only
          rw [if_neg (by decide)]
          (first | rw [if_pos rfl] | rw [if_pos trivial])
          rw [if_neg (by decide)]
          rw [if_neg hc]
      · obtain ⟨rfl, rfl, rfl⟩ := fx_bad hn hen
        refine (rask_1bad s 0 1 20 _ 20 w hs h0 hn (Or.inl hen) rfl (by rw [rf_late hen]; exact dq_bad hen)).mono fun e w' h => toQ ⟨1, ⟨#[]⟩, 0, 0, 0⟩ 20 ?_ h
        unfold raQ rdD
        rw [h0, hn]
        dsimp only
        rw [if_neg (by decide)]
        (first | rw [if_pos rfl] | rw [if_pos trivial])
        rw [if_pos hen]
    by_cases hk2 : v = 2
    · subst hk2
      refine (rask_2 s x2 k2 e2 x3 k3 e3 _ w hs h0 h1 h2 (fl_0 _)).mono fun e w' h => toQ ⟨2, ⟨#[]⟩, wrap64 (x2 : Int), 0, wrap64 (x3 : Int)⟩ _ ?_ h
      unfold raQ
      rw [h0, h1]
      dsimp only
      rw [h2]
      rw [if_neg (by decide)]
      rw [if_neg (by decide)]
      (first | rw [if_pos rfl] | rw [if_pos trivial])
    by_cases hk3 : v = 3
    · subst hk3
      refine (rask_3 s x2 k2 e2 _ w hs h0 h1 (fl_0 _)).mono fun e w' h => toQ ⟨3, ⟨#[]⟩, 0, wrap64 (x2 : Int), 0⟩ _ ?_ h
      unfold raQ
      rw [h0, h1]
      dsimp only
      rw [if_neg (by decide)]
      rw [if_neg (by decide)]
      rw [if_neg (by decide)]
      (first | rw [if_pos rfl] | rw [if_pos trivial])
    by_cases hk4 : v = 4
    · subst hk4
      refine (rask_4 s _ w hs h0 (fl_0 _)).mono fun e w' h => toQ ⟨4, ⟨#[]⟩, 0, 0, 0⟩ _ ?_ h
      unfold raQ
      rw [h0]
      dsimp only
      rw [if_neg (by decide)]
      rw [if_neg (by decide)]
      rw [if_neg (by decide)]
      rw [if_neg (by decide)]
      (first | rw [if_pos rfl] | rw [if_pos trivial])
    by_cases hk5 : v = 5
    · subst hk5
      refine (rask_5 s x2 k2 e2 _ w hs h0 h1 (fl_0 _)).mono fun e w' h => toQ ⟨5, ⟨#[]⟩, wrap64 (x2 : Int), 0, 0⟩ _ ?_ h
      unfold raQ
      rw [h0, h1]
      dsimp only
      rw [if_neg (by decide)]
      rw [if_neg (by decide)]
      rw [if_neg (by decide)]
      rw [if_neg (by decide)]
      rw [if_neg (by decide)]
      (first | rw [if_pos rfl] | rw [if_pos trivial])
    by_cases hk6 : v = 6
    · subst hk6
      refine (rask_6 s _ w hs h0 (fl_0 _)).mono fun e w' h => toQ ⟨6, ⟨#[]⟩, 0, 0, 0⟩ _ ?_ h
      unfold raQ
      rw [h0]
      dsimp only
      rw [if_neg (by decide)]
      rw [if_neg (by decide)]
      rw [if_neg (by decide)]
      rw [if_neg (by decide)]
      rw [if_neg (by decide)]
      rw [if_neg (by decide)]
      (first | rw [if_pos rfl] | rw [if_pos trivial])
    · refine (rask_no s v w hs h0 (by omega)).mono fun e w' h => ?_
      have hq : raQ s = (zq, 6) := by
        unfold raQ
        rw [h0]
        dsimp only
        rw [if_neg (by decide)]
        rw [if_neg hk]
        rw [if_neg hk2]
        rw [if_neg hk3]
        rw [if_neg hk4]
        rw [if_neg hk5]
        rw [if_neg hk6]
      rw [hq]; exact h
  · obtain ⟨rfl, rfl, rfl⟩ := fx_bad h0 he
    refine (rask_short s w hs h0).mono fun e w' h => ?_
    have hq : raQ s = (zq, 20) := by
      unfold raQ
      rw [h0]
      dsimp only
      rw [if_pos he]
    rw [hq]; exact h
def asV (r : Rq) : Value := .tuple #[.string (askS r), .int .i64 (askE r)]
theorem asV_ok {r : Rq} (h : askE r = 0) : asV r = .tuple #[.string (bs (askL r)), .int .i64 0] := by unfold asV askS; rw [h, if_pos rfl]; rfl
theorem asV_no {r : Rq} {E : Nat} (h : askE r = E) (hE : E ≠ 0) : asV r = .tuple #[.string ⟨#[]⟩, .int .i64 E] := by unfold asV askS; rw [h, if_neg hE]
set_option maxHeartbeats 1000000 in
theorem ask_any (r : Rq) (w : World) :
    Calls Try.prog 7 #[.agg r.c] w fun e w' => e = .returned (asV r) ∧ Below w.heap.size w w' := by
  obtain ⟨k, d, o, t, m⟩ := r
  by_cases hk : 1 ≤ k ∧ k ≤ 6
  · rcases (by omega : k = 1 ∨ k = 2 ∨ k = 3 ∨ k = 4 ∨ k = 5 ∨ k = 6) with rfl | rfl | rfl | rfl | rfl | rfl
    · by_cases hd : d.size ≤ 16777216
      · rw [asV_ok (askE_ok hk (fun _ => hd)), askL_1]
        exact ask_1 d o t m w hd
      · have hE : askE ⟨1, d, o, t, m⟩ = 21 := by unfold askE; rw [if_neg (fun h => h hk), if_pos ⟨rfl, by dsimp only; omega⟩]
        rw [asV_no hE (by decide)]
        exact ask_long d o t m w (by omega)
    · rw [asV_ok (askE_ok hk (fun h => by dsimp only at h; omega)), askL_2, ← List.append_assoc]
      exact ask_2 d o t m w
    · rw [asV_ok (askE_ok hk (fun h => by dsimp only at h; omega)), askL_3]
      exact ask_3 d o t m w
    · rw [asV_ok (askE_ok hk (fun h => by dsimp only at h; omega)), askL_4, List.append_nil]
      exact ask_4 d o t m w
    · rw [asV_ok (askE_ok hk (fun h => by dsimp only at h; omega)), askL_5]
      exact ask_5 d o t m w
    · rw [asV_ok (askE_ok hk (fun h => by dsimp only at h; omega)), askL_6, List.append_nil]
      exact ask_6 d o t m w
  · have hE : askE ⟨k, d, o, t, m⟩ = 6 := by unfold askE; rw [if_pos hk]
    rw [asV_no hE (by decide)]
    exact ask_no k d o t m w hk
end Go.Proofs.Ytgdaaohlongmlaa
