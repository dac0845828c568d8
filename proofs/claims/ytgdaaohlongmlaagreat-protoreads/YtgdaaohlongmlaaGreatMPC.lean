/- Texts of the proof, put together: Pcq, Pcp. -/
import Derived.Test.YtgdaaohlongmlaaGreatPaq
import Derived.Test.YtgdaaohlongmlaaGreatPrr
import Derived.Test.YtgdaaohlongmlaaGreatMPM
import Derived.Test.YtgdaaohlongmlaaGreatPap
import Derived.Test.YtgdaaohlongmlaaGreatPaq2
import Derived.Test.YtgdaaohlongmlaaGreatPar
import Derived.Test.YtgdaaohlongmlaaGreatPar2
import Derived.Test.YtgdaaohlongmlaaGreatPrp
import Derived.Test.YtgdaaohlongmlaaGreatPrs
import Derived.Test.YtgdaaohlongmlaaGreatPrt
import Derived.Test.YtgdaaohlongmlaaGreatPru
import Derived.Test.YtgdaaohlongmlaaGreatPrv
namespace Go.Proofs.YtgdaaohlongmlaaGreat
open Go.RowKit
def rqV (x : Rq × Nat) : Value := .tuple #[.agg x.1.c, .int .i64 x.2]
theorem ra2_Q (r : Rq) (E : Nat) : ra2 r.c zq.c E = rqV (finQ r E) := by
  unfold ra2 finQ rqV
  by_cases h : E = 0
  · rw [if_pos h, if_pos h, h]
  · rw [if_neg h, if_neg h]
theorem toQ (r : Rq) (E : Nat) {s : ByteArray} (hq : raQ s = finQ r E) {e : Ending} {w w' : World} (h : e = .returned (ra2 r.c zq.c E) ∧ Below w.heap.size w w') : e = .returned (rqV (raQ s)) ∧ Below w.heap.size w w' := by
  rw [hq, ← ra2_Q]; exact h
theorem size_small {s : ByteArray} {k : Nat} (h : dcut k s 0 0 = true) : False := by
  unfold dcut at h
  rw [decide_eq_false (by omega), decide_eq_false (by omega)] at h
  exact absurd h (by decide)
theorem dcut_no {M n k : Nat} {s : ByteArray} (h : ¬ dcut M s n k = true) : n ≤ M ∧ n ≤ s.size - k := by
  constructor
  · apply Nat.le_of_not_lt; intro h1; apply h; unfold dcut; rw [decide_eq_true h1]; rfl
  · apply Nat.le_of_not_lt; intro h1; apply h; unfold dcut; rw [decide_eq_true h1, Bool.or_true]
theorem rf_cut {M n k : Nat} {s : ByteArray} (h : dcut M s n k = true) (d : Nat) : fl (rf (dcut M s n k) 21 0 0) d = 21 := by rw [h]; rfl
theorem rf_late {c : Bool} {e d why : Nat} (h : e ≠ 0) : fl (rf c why 0 e) d = d := by
  have : rf c why 0 e = 0 := by unfold rf; rw [fl_0, if_neg (fun h2 => h h2.2)]
  rw [this, fl_0]
set_option maxHeartbeats 1000000 in
theorem readask_any (s : ByteArray) (w : World) (hs : s.size ≤ 9223372036854775807) :
    Calls Tryz.prog 14 #[.string s] w fun e w' => e = .returned (rqV (raQ s)) ∧ Below w.heap.size w w' := by
  obtain ⟨v, k1, e1, h0⟩ := ex3 (fx 1 s 0 0)
  by_cases he : e1 = 0
  · subst he
    obtain ⟨hv, hS, rfl⟩ := fx_iff.1 h0
    rw [Nat.zero_add] at h0
    obtain ⟨x2, k2, e2, h1⟩ := ex3 (fx 8 s 1 0)
    obtain ⟨x3, k3, e3, h2⟩ := ex3 (fx 8 s k2 e2)
    obtain ⟨n, kn, en, hn⟩ := ex3 (fx 4 s 1 0)
    by_cases hk : v = 1
    · subst hk
      by_cases hen : en = 0
      · subst hen
        obtain ⟨hnl, hSn, rfl⟩ := fx_iff.1 hn
        have hk5 := hSn.le
        rw [nb_len] at hk5
        by_cases hc : dcut 16777216 s n (1 + 4) = true
        · refine (rask_1bad s n (1 + 4) 0 _ 21 w hs h0 hn (Or.inr hc) rfl (rf_cut hc _)).mono fun e w' h => toQ ⟨1, ⟨#[]⟩, 0, 0, 0⟩ 21 ?_ h
          unfold raQ rdD
          rw [h0, hn]
          dsimp only
          rw [if_neg (by decide)]
          (first | rw [if_pos rfl] | rw [if_pos trivial])
          rw [if_neg (by decide)]
          rw [if_pos hc]
        · obtain ⟨hM, hL⟩ := dcut_no hc
          refine (rask_1 s n (1 + 4) _ w hs h0 hn hM (by omega) (fl_0 _)).mono fun e w' h => toQ ⟨1, s.extract (1 + 4) (1 + 4 + n), 0, 0, 0⟩ _ ?_ h
          unfold raQ rdD
          rw [h0, hn]
          dsimp only
          rw [if_neg (by decide)]
          (first | rw [if_pos rfl] | rw [if_pos trivial])
          rw [if_neg (by decide)]
          rw [if_neg hc]
      · obtain ⟨rfl, rfl, rfl⟩ := fx_bad hn hen
        refine (rask_1bad s 0 1 20 _ 20 w hs h0 hn (Or.inl hen) rfl (by rw [rf_late hen]; exact dq_bad hen)).mono fun e w' h => toQ ⟨1, ⟨#[]⟩, 0, 0, 0⟩ 20 ?_ h
        unfold raQ rdD
        rw [h0, hn]
        dsimp only
        rw [if_neg (by decide)]
        (first | rw [if_pos rfl] | rw [if_pos trivial])
        rw [if_pos hen]
    by_cases hk2 : v = 2
    · subst hk2
      refine (rask_2 s x2 k2 e2 x3 k3 e3 _ w hs h0 h1 h2 (fl_0 _)).mono fun e w' h => toQ ⟨2, ⟨#[]⟩, wrap64 (x2 : Int), 0, wrap64 (x3 : Int)⟩ _ ?_ h
      unfold raQ
      rw [h0, h1]
      dsimp only
      rw [h2]
      rw [if_neg (by decide)]
      rw [if_neg (by decide)]
      (first | rw [if_pos rfl] | rw [if_pos trivial])
    by_cases hk3 : v = 3
    · subst hk3
      refine (rask_3 s x2 k2 e2 _ w hs h0 h1 (fl_0 _)).mono fun e w' h => toQ ⟨3, ⟨#[]⟩, 0, wrap64 (x2 : Int), 0⟩ _ ?_ h
      unfold raQ
      rw [h0, h1]
      dsimp only
      rw [if_neg (by decide)]
      rw [if_neg (by decide)]
      rw [if_neg (by decide)]
      (first | rw [if_pos rfl] | rw [if_pos trivial])
    by_cases hk4 : v = 4
    · subst hk4
      refine (rask_4 s _ w hs h0 (fl_0 _)).mono fun e w' h => toQ ⟨4, ⟨#[]⟩, 0, 0, 0⟩ _ ?_ h
      unfold raQ
      rw [h0]
      dsimp only
      rw [if_neg (by decide)]
      rw [if_neg (by decide)]
      rw [if_neg (by decide)]
      rw [if_neg (by decide)]
      (first | rw [if_pos rfl] | rw [if_pos trivial])
    by_cases hk5 : v = 5
    · subst hk5
      refine (rask_5 s x2 k2 e2 _ w hs h0 h1 (fl_0 _)).mono fun e w' h => toQ ⟨5, ⟨#[]⟩, wrap64 (x2 : Int), 0, 0⟩ _ ?_ h
      unfold raQ
      rw [h0, h1]
      dsimp only
      rw [if_neg (by decide)]
      rw [if_neg (by decide)]
      rw [if_neg (by decide)]
      rw [if_neg (by decide)]
      rw [if_neg (by decide)]
      (first | rw [if_pos rfl] | rw [if_pos trivial])
    by_cases hk6 : v = 6
    · subst hk6
      refine (rask_6 s _ w hs h0 (fl_0 _)).mono fun e w' h => toQ ⟨6, ⟨#[]⟩, 0, 0, 0⟩ _ ?_ h
      unfold raQ
      rw [h0]
      dsimp only
      rw [if_neg (by decide)]
      rw [if_neg (by decide)]
      rw [if_neg (by decide)]
      rw [if_neg (by decide)]
      rw [if_neg (by decide)]
      rw [if_neg (by decide)]
      (first | rw [if_pos rfl] | rw [if_pos trivial])
    · refine (rask_no s v w hs h0 (by omega)).mono fun e w' h => ?_
      have hq : raQ s = (zq, 6) := by
        unfold raQ
        rw [h0]
        dsimp only
        rw [if_neg (by decide)]
        rw [if_neg hk]
        rw [if_neg hk2]
        rw [if_neg hk3]
        rw [if_neg hk4]
        rw [if_neg hk5]
        rw [if_neg hk6]
      rw [hq]; exact h
  · obtain ⟨rfl, rfl, rfl⟩ := fx_bad h0 he
    refine (rask_short s w hs h0).mono fun e w' h => ?_
    have hq : raQ s = (zq, 20) := by
      unfold raQ
      rw [h0]
      dsimp only
      rw [if_pos he]
    rw [hq]; exact h
def asV (r : Rq) : Value := .tuple #[.string (askS r), .int .i64 (askE r)]
theorem asV_ok {r : Rq} (h : askE r = 0) : asV r = .tuple #[.string (bs (askL r)), .int .i64 0] := by unfold asV askS; rw [h, if_pos rfl]; rfl
theorem asV_no {r : Rq} {E : Nat} (h : askE r = E) (hE : E ≠ 0) : asV r = .tuple #[.string ⟨#[]⟩, .int .i64 E] := by unfold asV askS; rw [h, if_neg hE]
set_option maxHeartbeats 1000000 in
theorem ask_any (r : Rq) (w : World) :
    Calls Tryz.prog 6 #[.agg r.c] w fun e w' => e = .returned (asV r) ∧ Below w.heap.size w w' := by
  obtain ⟨k, d, o, t, m⟩ := r
  by_cases hk : 1 ≤ k ∧ k ≤ 6
  · rcases (by omega : k = 1 ∨ k = 2 ∨ k = 3 ∨ k = 4 ∨ k = 5 ∨ k = 6) with rfl | rfl | rfl | rfl | rfl | rfl
    · by_cases hd : d.size ≤ 16777216
      · rw [asV_ok (askE_ok hk (fun _ => hd)), askL_1]
        exact ask_1 d o t m w hd
      · have hE : askE ⟨1, d, o, t, m⟩ = 21 := by unfold askE; rw [if_neg (fun h => h hk), if_pos ⟨rfl, by dsimp only; omega⟩]
        rw [asV_no hE (by decide)]
        exact ask_long d o t m w (by omega)
    · rw [asV_ok (askE_ok hk (fun h => by dsimp only at h; omega)), askL_2, ← List.append_assoc]
      exact ask_2 d o t m w
    · rw [asV_ok (askE_ok hk (fun h => by dsimp only at h; omega)), askL_3]
      exact ask_3 d o t m w
    · rw [asV_ok (askE_ok hk (fun h => by dsimp only at h; omega)), askL_4, List.append_nil]
      exact ask_4 d o t m w
    · rw [asV_ok (askE_ok hk (fun h => by dsimp only at h; omega)), askL_5]
      exact ask_5 d o t m w
    · rw [asV_ok (askE_ok hk (fun h => by dsimp only at h; omega)), askL_6, List.append_nil]
      exact ask_6 d o t m w
  · have hE : askE ⟨k, d, o, t, m⟩ = 6 := by unfold askE; rw [if_pos hk]
    rw [asV_no hE (by decide)]
    exact ask_no k d o t m w hk
end Go.Proofs.YtgdaaohlongmlaaGreat
namespace Go.Proofs.YtgdaaohlongmlaaGreat
open Go.RowKit
def rpV (x : Rp × Nat) : Value := .tuple #[.agg x.1.c, .int .i64 x.2]
theorem ra2_P (r : Rp) (E : Nat) : ra2 r.c zp.c E = rpV (finP r E) := by
  unfold ra2 finP rpV
  by_cases h : E = 0
  · rw [if_pos h, if_pos h, h]
  · rw [if_neg h, if_neg h]
theorem toP (r : Rp) (E : Nat) {s : ByteArray} (hq : rrQ s = finP r E) {e : Ending} {w w' : World} (h : e = .returned (ra2 r.c zp.c E) ∧ Below w.heap.size w w') : e = .returned (rpV (rrQ s)) ∧ Below w.heap.size w w' := by
  rw [hq, ← ra2_P]; exact h
theorem finP_no {r : Rp} {E : Nat} (h : E ≠ 0) : (zp, E) = finP r E := by unfold finP; rw [if_neg h]
set_option maxHeartbeats 1000000 in
theorem readreply_any (s : ByteArray) (w : World) (hs : s.size ≤ 9223372036854775807) :
    Calls Tryz.prog 16 #[.string s] w fun e w' => e = .returned (rpV (rrQ s)) ∧ Below w.heap.size w w' := by
  obtain ⟨v, k1, e1, h0⟩ := ex3 (fx 1 s 0 0)
  by_cases he : e1 = 0
  · subst he
    obtain ⟨hv, hS, rfl⟩ := fx_iff.1 h0
    rw [Nat.zero_add] at h0
    obtain ⟨y, k2, e2, hy⟩ := ex3 (fx 4 s 1 0)
    obtain ⟨R, hR⟩ : ∃ R, wrap32 (y : Int) = R := ⟨_, rfl⟩
    by_cases hv6 : 6 < v
    · have hq : ∀ r : Rp, rrQ s = finP r 6 := fun r => by
        rw [← finP_no (by decide)]
        unfold rrQ
        rw [h0]
        dsimp only
        rw [if_neg (by decide)]
        rw [if_pos hv6]
      by_cases hr : R < 0
      · exact (rrep_nolo s v y k2 e2 R 6 w hs h0 hy hR (by omega) (by omega) hr rfl).mono fun e w' h => toP ⟨v, R, false, 0, 0, ⟨#[]⟩⟩ 6 (hq _) h
      · exact (rrep_no s v y k2 e2 R 6 w hs h0 hy hR (by omega) (by omega) (by omega) rfl).mono fun e w' h => toP ⟨v, R, false, 0, 0, ⟨#[]⟩⟩ 6 (hq _) h
    by_cases he2 : e2 = 0
    · subst he2
      obtain ⟨hyl, hS4, rfl⟩ := fx_iff.1 hy
      rw [show 1 + 4 = 5 from rfl] at hy
      by_cases hr : R < 0
      · have hq : ∀ r : Rp, rrQ s = finP r 1 := fun r => by
          rw [← finP_no (by decide)]
          unfold rrQ
          rw [h0, hy]
          dsimp only
          rw [if_neg (by decide)]
          rw [if_neg hv6]
          rw [if_neg (by decide)]
          rw [hR]
          rw [if_pos hr]
        by_cases hv0 : v = 0
        · subst hv0
          exact (rrep_zneg s y 5 R 1 w hs h0 hy hR hr rfl).mono fun e w' h => toP ⟨0, R, false, 0, 0, ⟨#[]⟩⟩ 1 (hq _) h
        · exact (rrep_neg s v y 5 R 1 w hs h0 hy hR (by omega) hr rfl).mono fun e w' h => toP ⟨v, R, false, 0, 0, ⟨#[]⟩⟩ 1 (hq _) h
      by_cases hp : 0 < R
      · have hq : rrQ s = finP ⟨v, R, false, 0, 0, ⟨#[]⟩⟩ (dq s 5 0) := by
          unfold rrQ
          rw [h0, hy]
          dsimp only
          rw [if_neg (by decide)]
          rw [if_neg hv6]
          rw [if_neg (by decide)]
          rw [hR]
          rw [if_neg hr]
          rw [if_pos hp]
        by_cases hv0 : v = 0
        · subst hv0
          exact (rrep_zpos s y 5 R _ w hs h0 hy hR hp (fl_0 _)).mono fun e w' h => toP ⟨(0 : Nat), R, false, 0, 0, ⟨#[]⟩⟩ _ hq h
        · exact (rrep_pos s v y 5 R _ w hs h0 hy hR (by omega) hp (fl_0 _)).mono fun e w' h => toP ⟨v, R, false, 0, 0, ⟨#[]⟩⟩ _ hq h
      have hR0 : R = 0 := by omega
      subst hR0
      by_cases hv0 : v = 0
      · subst hv0
        refine (rrep_zz s y 5 6 w hs h0 hy hR rfl).mono fun e w' h => toP ⟨0, 0, false, 0, 0, ⟨#[]⟩⟩ 6 ?_ h
        rw [← finP_no (by decide)]
        unfold rrQ
        rw [h0, hy]
        dsimp only
        rw [if_neg (by decide)]
        rw [if_neg hv6]
        rw [if_neg (by decide)]
        rw [hR]
        rw [if_neg hr]
        rw [if_neg hp]
        (first | rw [if_pos rfl] | rw [if_pos trivial])
      obtain ⟨x3, k3, e3, h1⟩ := ex3 (fx 8 s 5 0)
      obtain ⟨x4, k4, e4, h2⟩ := ex3 (fx 8 s k3 e3)
      obtain ⟨c, kc, ec, hc⟩ := ex3 (fx 1 s 5 0)
      obtain ⟨g, kg, eg, hg⟩ := ex3 (fx 8 s kc ec)
      obtain ⟨n, kn, en, hn⟩ := ex3 (fx 4 s k3 e3)
      by_cases hk : v = 1
      · subst hk
        by_cases hec : ec = 0
        · subst hec
          obtain ⟨hcl, hSc, rfl⟩ := fx_iff.1 hc
          rw [show 5 + 1 = 6 from rfl] at hc hg
          by_cases h1c : 1 < c
          · refine (rrep_1 s y 5 c 6 0 91 g kg eg 91 w hs h0 hy hR hc (by rw [decide_eq_true h1c]; rfl) hg rfl).mono fun e w' h => toP ⟨1, 0, decide (c = 1), wrap64 (g : Int), 0, ⟨#[]⟩⟩ 91 ?_ h
            rw [← finP_no (by decide)]
            unfold rrQ
            rw [h0, hy]
            dsimp only
            rw [if_neg (by decide)]
            rw [if_neg hv6]
            rw [if_neg (by decide)]
            rw [hR]
            rw [if_neg hr]
            rw [if_neg hp]
            rw [if_neg (by decide)]
            (first | rw [if_pos rfl] | rw [if_pos trivial])
            rw [hc]
            dsimp only
            rw [if_neg (by decide)]
            rw [if_pos h1c]
          · refine (rrep_1 s y 5 c 6 0 0 g kg eg _ w hs h0 hy hR hc (by rw [decide_eq_false h1c]; rfl) hg (fl_0 _)).mono fun e w' h => toP ⟨1, 0, decide (c = 1), wrap64 (g : Int), 0, ⟨#[]⟩⟩ _ ?_ h
            unfold rrQ
            rw [h0, hy]
            dsimp only
            rw [if_neg (by decide)]
            rw [if_neg hv6]
            rw [if_neg (by decide)]
            rw [hR]
            rw [if_neg hr]
            rw [if_neg hp]
            rw [if_neg (by decide)]
            (first | rw [if_pos rfl] | rw [if_pos trivial])
            rw [hc]
            dsimp only
            rw [if_neg (by decide)]
            rw [if_neg h1c]
            rw [hg]
        · obtain ⟨rfl, rfl, rfl⟩ := fx_bad hc hec
          obtain ⟨rfl, rfl, rfl⟩ := fx_err hec hg
          refine (rrep_1 s y _ 0 _ 20 0 0 _ 20 20 w hs h0 hy hR hc (by decide) hg (by rw [fl_0]; exact dq_bad hec)).mono fun e w' h => toP ⟨1, 0, decide (0 = 1), wrap64 ((0 : Nat) : Int), 0, ⟨#[]⟩⟩ 20 ?_ h
          rw [← finP_no (by decide)]
          unfold rrQ
          rw [h0, hy]
          dsimp only
          rw [if_neg (by decide)]
          rw [if_neg hv6]
          rw [if_neg (by decide)]
          rw [hR]
          rw [if_neg hr]
          rw [if_neg hp]
          rw [if_neg (by decide)]
          (first | rw [if_pos rfl] | rw [if_pos trivial])
          rw [hc]
          dsimp only
          rw [if_pos hec]
      by_cases hk2 : v = 2
      · subst hk2
        by_cases hec : e3 = 0
        · subst hec
          obtain ⟨hcl, hSc, rfl⟩ := fx_iff.1 h1
          rw [show 5 + 8 = 13 from rfl] at h1 hn
          by_cases hen : en = 0
          · subst hen
            obtain ⟨hnl, hSn, rfl⟩ := fx_iff.1 hn
            have hk5 := hSn.le
            rw [nb_len] at hk5
            by_cases hcut : dcut 1073741824 s n (13 + 4) = true
            · refine (rrep_2bad s y 5 x3 13 0 n (13 + 4) 0 _ 21 w hs h0 hy hR h1 hn (Or.inr hcut) rfl (rf_cut hcut _)).mono fun e w' h => toP ⟨2, 0, false, 0, wrap64 (x3 : Int), ⟨#[]⟩⟩ 21 ?_ h
              unfold rrQ rdD
              rw [h0, hy]
              dsimp only
              rw [if_neg (by decide)]
              rw [if_neg hv6]
              rw [if_neg (by decide)]
              rw [hR]
              rw [if_neg hr]
              rw [if_neg hp]
              rw [if_neg (by decide)]
              rw [if_neg (by decide)]
              (first | rw [if_pos rfl] | rw [if_pos trivial])
              rw [h1]
              dsimp only
              rw [if_neg (by decide)]
              rw [hn]
              dsimp only
              rw [if_neg (by decide)]
              rw [if_pos hcut]
            · obtain ⟨hM, hL⟩ := dcut_no hcut
              refine (rrep_2 s y 5 x3 13 n (13 + 4) _ w hs h0 hy hR h1 hn hM (by omega) (fl_0 _)).mono fun e w' h => toP ⟨2, 0, false, 0, wrap64 (x3 : Int), s.extract (13 + 4) (13 + 4 + n)⟩ _ ?_ h
              unfold rrQ rdD
              rw [h0, hy]
              dsimp only
              rw [if_neg (by decide)]
              rw [if_neg hv6]
              rw [if_neg (by decide)]
              rw [hR]
              rw [if_neg hr]
              rw [if_neg hp]
              rw [if_neg (by decide)]
              rw [if_neg (by decide)]
              (first | rw [if_pos rfl] | rw [if_pos trivial])
              rw [h1]
              dsimp only
              rw [if_neg (by decide)]
              rw [hn]
              dsimp only
              rw [if_neg (by decide)]
              rw [if_neg hcut]
          · obtain ⟨rfl, rfl, rfl⟩ := fx_bad hn hen
            refine (rrep_2bad s y 5 x3 13 0 0 13 20 _ 20 w hs h0 hy hR h1 hn (Or.inl hen) rfl (by rw [rf_late hen]; exact dq_bad hen)).mono fun e w' h => toP ⟨2, 0, false, 0, wrap64 (x3 : Int), ⟨#[]⟩⟩ 20 ?_ h
            unfold rrQ rdD
            rw [h0, hy]
            dsimp only
            rw [if_neg (by decide)]
            rw [if_neg hv6]
            rw [if_neg (by decide)]
            rw [hR]
            rw [if_neg hr]
            rw [if_neg hp]
            rw [if_neg (by decide)]
            rw [if_neg (by decide)]
            (first | rw [if_pos rfl] | rw [if_pos trivial])
            rw [h1]
            dsimp only
            rw [if_neg (by decide)]
            rw [hn]
            dsimp only
            rw [if_pos hen]
        · obtain ⟨rfl, rfl, rfl⟩ := fx_bad h1 hec
          obtain ⟨rfl, rfl, rfl⟩ := fx_err hec hn
          refine (rrep_2bad s y _ 0 _ 20 0 _ 20 _ 20 w hs h0 hy hR h1 hn (Or.inl hec) rfl (by rw [rf_late hec]; exact dq_bad hec)).mono fun e w' h => toP ⟨2, 0, false, 0, wrap64 ((0 : Nat) : Int), ⟨#[]⟩⟩ 20 ?_ h
          rw [← finP_no (by decide)]
          unfold rrQ
          rw [h0, hy]
          dsimp only
          rw [if_neg (by decide)]
          rw [if_neg hv6]
          rw [if_neg (by decide)]
          rw [hR]
          rw [if_neg hr]
          rw [if_neg hp]
          rw [if_neg (by decide)]
          rw [if_neg (by decide)]
          (first | rw [if_pos rfl] | rw [if_pos trivial])
          rw [h1]
          dsimp only
          rw [if_pos hec]
      by_cases hk3 : v = 3
      · subst hk3
        refine (rrep_3 s y 5 x3 k3 e3 _ w hs h0 hy hR h1 (fl_0 _)).mono fun e w' h => toP ⟨3, 0, false, wrap64 (x3 : Int), 0, ⟨#[]⟩⟩ _ ?_ h
        unfold rrQ
        rw [h0, hy]
        dsimp only
        rw [if_neg (by decide)]
        rw [if_neg hv6]
        rw [if_neg (by decide)]
        rw [hR]
        rw [if_neg hr]
        rw [if_neg hp]
        rw [if_neg (by decide)]
        rw [if_neg (by decide)]
        rw [if_neg (by decide)]
        (first | rw [if_pos rfl] | rw [if_pos trivial])
        rw [h1]
      by_cases hk4 : v = 4
      · subst hk4
        refine (rrep_4 s y 5 x3 k3 e3 _ w hs h0 hy hR h1 (fl_0 _)).mono fun e w' h => toP ⟨4, 0, false, 0, wrap64 (x3 : Int), ⟨#[]⟩⟩ _ ?_ h
        unfold rrQ
        rw [h0, hy]
        dsimp only
        rw [if_neg (by decide)]
        rw [if_neg hv6]
        rw [if_neg (by decide)]
        rw [hR]
        rw [if_neg hr]
        rw [if_neg hp]
        rw [if_neg (by decide)]
        rw [if_neg (by decide)]
        rw [if_neg (by decide)]
        rw [if_neg (by decide)]
        (first | rw [if_pos rfl] | rw [if_pos trivial])
        rw [h1]
      by_cases hk5 : v = 5
      · subst hk5
        refine (rrep_5 s y 5 x3 k3 e3 _ w hs h0 hy hR h1 (fl_0 _)).mono fun e w' h => toP ⟨5, 0, false, wrap64 (x3 : Int), 0, ⟨#[]⟩⟩ _ ?_ h
        unfold rrQ
        rw [h0, hy]
        dsimp only
        rw [if_neg (by decide)]
        rw [if_neg hv6]
        rw [if_neg (by decide)]
        rw [hR]
        rw [if_neg hr]
        rw [if_neg hp]
        rw [if_neg (by decide)]
        rw [if_neg (by decide)]
        rw [if_neg (by decide)]
        rw [if_neg (by decide)]
        rw [if_neg (by decide)]
        (first | rw [if_pos rfl] | rw [if_pos trivial])
        rw [h1]
      have hk6 : v = 6 := by omega
      subst hk6
      refine (rrep_6 s y 5 x3 k3 e3 x4 k4 e4 _ w hs h0 hy hR h1 h2 (fl_0 _)).mono fun e w' h => toP ⟨6, 0, false, wrap64 (x3 : Int), wrap64 (x4 : Int), ⟨#[]⟩⟩ _ ?_ h
      unfold rrQ
      rw [h0, hy]
      dsimp only
      rw [if_neg (by decide)]
      rw [if_neg hv6]
      rw [if_neg (by decide)]
      rw [hR]
      rw [if_neg hr]
      rw [if_neg hp]
      rw [if_neg (by decide)]
      rw [if_neg (by decide)]
      rw [if_neg (by decide)]
      rw [if_neg (by decide)]
      rw [if_neg (by decide)]
      rw [if_neg (by decide)]
      rw [h1]
      dsimp only
      rw [h2]
    · obtain ⟨rfl, rfl, rfl⟩ := fx_bad hy he2
      have hR0 : R = 0 := by rw [← hR]; exact w32_0
      subst hR0
      have hq : ∀ r : Rp, rrQ s = finP r 20 := fun r => by
        rw [← finP_no (by decide)]
        unfold rrQ
        rw [h0, hy]
        dsimp only
        rw [if_neg (by decide)]
        rw [if_neg hv6]
        rw [if_pos he2]
      by_cases hv0 : v = 0
      · subst hv0
        exact (rrep_zcut s 0 _ 20 20 w hs h0 hy hR he2 (by rw [fl_0]; exact dq_bad he2)).mono fun e w' h => toP ⟨0, 0, false, 0, 0, ⟨#[]⟩⟩ 20 (hq _) h
      · exact (rrep_cut s v 0 _ 20 20 w hs h0 hy hR (by omega) he2 (by rw [fl_0]; exact dq_bad he2)).mono fun e w' h => toP ⟨v, 0, false, 0, 0, ⟨#[]⟩⟩ 20 (hq _) h
  · obtain ⟨rfl, rfl, rfl⟩ := fx_bad h0 he
    obtain ⟨x, k2, e2, hx⟩ := ex3 (fx 4 s 0 20)
    obtain ⟨rfl, rfl, rfl⟩ := fx_err he hx
    refine (rrep_empty s 0 _ 20 w hs h0 hx w32_0 (by rw [fl_0]; exact dq_bad he)).mono fun e w' h => toP ⟨0, 0, false, 0, 0, ⟨#[]⟩⟩ 20 ?_ h
    rw [← finP_no (by decide)]
    unfold rrQ
    rw [h0]
    dsimp only
    rw [if_pos he]
def rsV (r : Rp) : Value := .tuple #[.string (repS r), .int .i64 (repE r)]
theorem rsV_ok {r : Rp} (h : repE r = 0) : rsV r = .tuple #[.string (bs (repL r)), .int .i64 0] := by unfold rsV repS; rw [h, if_pos rfl]; rfl
theorem rsV_no {r : Rp} {E : Nat} (h : repE r = E) (hE : E ≠ 0) : rsV r = .tuple #[.string ⟨#[]⟩, .int .i64 E] := by unfold rsV repS; rw [h, if_neg hE]
theorem repE_1 {p : Rp} (h1 : (1 ≤ p.k ∧ p.k ≤ 6) ∨ (p.k = 0 ∧ p.r ≠ 0)) (h2 : p.r < 0 ∨ 2147483647 < p.r) : repE p = 1 := by
  unfold repE
  rw [if_neg, if_pos h2]
  rintro ⟨a, b⟩
  rcases h1 with h1 | h1
  · exact a h1
  · rcases b with b | b
    · exact b h1.1
    · exact h1.2 b
theorem repE_6 {p : Rp} (h1 : ¬ (1 ≤ p.k ∧ p.k ≤ 6)) (h2 : p.k ≠ 0 ∨ p.r = 0) : repE p = 6 := by unfold repE; rw [if_pos ⟨h1, h2⟩]
set_option maxHeartbeats 1000000 in
theorem reply_any (r : Rp) (w : World) :
    Calls Tryz.prog 8 #[.agg r.c] w fun e w' => e = .returned (rsV r) ∧ Below w.heap.size w w' := by
  obtain ⟨k, r, b, o, n, d⟩ := r
  by_cases hk : 1 ≤ k ∧ k ≤ 6
  · by_cases hlo : r < 0
    · rw [rsV_no (repE_1 (p := ⟨k, r, b, o, n, d⟩) (Or.inl hk) (Or.inl hlo)) (by decide)]
      rcases (by omega : k = 1 ∨ k = 2 ∨ k = 3 ∨ k = 4 ∨ k = 5 ∨ k = 6) with rfl | rfl | rfl | rfl | rfl | rfl
      · exact reply_lo1 r b o n d w hlo
      · exact reply_lo2 r b o n d w hlo
      · exact reply_lo3 r b o n d w hlo
      · exact reply_lo4 r b o n d w hlo
      · exact reply_lo5 r b o n d w hlo
      · exact reply_lo6 r b o n d w hlo
    by_cases hhi : 2147483647 < r
    · rw [rsV_no (repE_1 (p := ⟨k, r, b, o, n, d⟩) (Or.inl hk) (Or.inr hhi)) (by decide)]
      rcases (by omega : k = 1 ∨ k = 2 ∨ k = 3 ∨ k = 4 ∨ k = 5 ∨ k = 6) with rfl | rfl | rfl | rfl | rfl | rfl
      · exact reply_hi1 r b o n d w hhi
      · exact reply_hi2 r b o n d w hhi
      · exact reply_hi3 r b o n d w hhi
      · exact reply_hi4 r b o n d w hhi
      · exact reply_hi5 r b o n d w hhi
      · exact reply_hi6 r b o n d w hhi
    by_cases hr0 : r = 0
    · subst hr0
      by_cases hd : k = 2 ∧ 1073741824 < d.size
      · obtain ⟨rfl, hd⟩ := hd
        have hE : repE ⟨2, 0, b, o, n, d⟩ = 21 := by
          unfold repE
          rw [if_neg (fun h => h.1 hk), if_neg (by dsimp only; omega), if_pos ⟨rfl, rfl, hd⟩]
        rw [rsV_no hE (by decide)]
        exact reply_long b o n d w hd
      · have hd' : k = 2 → d.size ≤ 1073741824 := fun h => Nat.le_of_not_lt (fun h2 => hd ⟨h, h2⟩)
        rw [rsV_ok (repE_ok (p := ⟨k, 0, b, o, n, d⟩) (Or.inl hk) ⟨by dsimp only; omega, by dsimp only; omega⟩ (fun _ h => hd' h))]
        rcases (by omega : k = 1 ∨ k = 2 ∨ k = 3 ∨ k = 4 ∨ k = 5 ∨ k = 6) with rfl | rfl | rfl | rfl | rfl | rfl
        · rw [repL_1, ← List.append_assoc]
          exact reply_1 b o n d w _ rfl
        · rw [repL_2, ← List.append_assoc]
          exact reply_2 b o n d w (hd' rfl)
        · rw [repL_3]
          exact reply_3 b o n d w
        · rw [repL_4]
          exact reply_4 b o n d w
        · rw [repL_5]
          exact reply_5 b o n d w
        · rw [repL_6, ← List.append_assoc]
          exact reply_6 b o n d w
    · rw [rsV_ok (repE_ok (p := ⟨k, r, b, o, n, d⟩) (Or.inl hk) ⟨by dsimp only; omega, by dsimp only; omega⟩ (fun h => absurd h hr0)), repL_err hr0]
      rcases (by omega : k = 1 ∨ k = 2 ∨ k = 3 ∨ k = 4 ∨ k = 5 ∨ k = 6) with rfl | rfl | rfl | rfl | rfl | rfl
      · exact reply_err1 r b o n d w hr0 (by omega) (by omega)
      · exact reply_err2 r b o n d w hr0 (by omega) (by omega)
      · exact reply_err3 r b o n d w hr0 (by omega) (by omega)
      · exact reply_err4 r b o n d w hr0 (by omega) (by omega)
      · exact reply_err5 r b o n d w hr0 (by omega) (by omega)
      · exact reply_err6 r b o n d w hr0 (by omega) (by omega)
  · by_cases hk0 : k = 0
    · subst hk0
      by_cases hr0 : r = 0
      · subst hr0
        rw [rsV_no (repE_6 (p := ⟨0, 0, b, o, n, d⟩) hk (Or.inr rfl)) (by decide)]
        exact reply_zero b o n d w
      · by_cases hlo : r < 0
        · rw [rsV_no (repE_1 (p := ⟨0, r, b, o, n, d⟩) (Or.inr ⟨rfl, hr0⟩) (Or.inl hlo)) (by decide)]
          exact reply_nolo r b o n d w hlo
        · by_cases hhi : 2147483647 < r
          · rw [rsV_no (repE_1 (p := ⟨0, r, b, o, n, d⟩) (Or.inr ⟨rfl, hr0⟩) (Or.inr hhi)) (by decide)]
            exact reply_nohi r b o n d w hhi
          · rw [rsV_ok (repE_ok (p := ⟨0, r, b, o, n, d⟩) (Or.inr ⟨rfl, hr0⟩) ⟨by dsimp only; omega, by dsimp only; omega⟩ (fun h => absurd h hr0)), repL_err hr0]
            exact reply_noerr r b o n d w hr0 (by omega) (by omega)
    · rw [rsV_no (repE_6 (p := ⟨k, r, b, o, n, d⟩) hk (Or.inl hk0)) (by decide)]
      exact reply_kind k r b o n d w hk hk0
end Go.Proofs.YtgdaaohlongmlaaGreat
