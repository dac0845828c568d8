import Derived.Test.YtlbkkeoffeohnabRdr2
/- Plain facts: a reader that goes on behind its first fault, and keeps that, finds what one finds that stops there. -/
namespace Go.Proofs.Ytlbkkeoffeohnab
open Go.RowKit
theorem stop_fl {f1 e1 e2 : Nat} (b : Bool) (why : Nat) (h : fl f1 e1 ≠ 0) (he : e1 ≠ 0 → e2 = e1) : fl (rf b why f1 e2) e2 = fl f1 e1 := by
  have := fl_read h he
  rw [fl_rf _ _ (by rw [this]; exact h), this]
theorem vq_keep {s : ByteArray} {k e k' e' : Nat} {d : Int} (h : vq s k e = (d, k', e')) : e ≠ 0 → e' = e := fun he => by rw [vq_stale he] at h; injection h with _ h; injection h with _ h; exact h.symm
theorem uq_keep {s : ByteArray} {k e k' e' d : Nat} (h : uq s k e = (d, k', e')) : e ≠ 0 → e' = e := fun he => by rw [uq_stale he] at h; injection h with _ h; injection h with _ h; exact h.symm
theorem oq_keep {m : Int} {s : ByteArray} {k e k' e' : Nat} {b : Bool} {d : ByteArray} (h : oq m s k e = (b, d, k', e')) : e ≠ 0 → e' = e := fun he => by rw [oq_stale he] at h; injection h with _ h; injection h with _ h; injection h with _ h; exact h.symm
theorem rf_zero {b : Bool} {why e : Nat} (h : fl (rf b why 0 e) e = 0) (hw : why ≠ 0) : e = 0 ∧ b = false := by
  obtain ⟨h1, h2⟩ := fl_zero h
  refine ⟨h2, ?_⟩
  cases b with
  | false => rfl
  | true => subst h2; rw [rf_yes rfl] at h1; exact absurd h1 hw
theorem rf_one {b : Bool} {why e : Nat} (h : fl (rf b why 0 e) e ≠ 0) : (e ≠ 0 ∧ fl (rf b why 0 e) e = e) ∨ (e = 0 ∧ b = true ∧ fl (rf b why 0 e) e = why) := by
  by_cases he : e = 0
  · subst he
    right
    cases b with
    | false => rw [rf_no] at h; exact absurd rfl h
    | true =>
      rw [rf_yes rfl] at h ⊢
      refine ⟨rfl, rfl, ?_⟩
      unfold fl at *
      split
      · rfl
      · rename_i h'; rw [if_neg h'] at h; exact absurd rfl h
  · left
    exact ⟨he, by rw [fl_rf _ _ (show fl 0 e ≠ 0 from he)]; rfl⟩
theorem chain {p : ByteArray} {first : Int} {n : Nat} {a k1 e1 : Nat} {b1 : Bool} {f1 : Nat} {d : Int} {k2 e2 : Nat} {b2 : Bool} {f2 m k3 e3 : Nat} {b3 : Bool} {f3 : Nat} {kh : Bool} {kd : ByteArray} {k4 e4 : Nat} {vh : Bool} {vd : ByteArray} {k5 e5 : Nat} {hs : List Hdr} {f' k' e' : Nat}
    (hA : fx 1 p 0 0 = (a, k1, e1)) (hb1 : b1 = true ↔ a ≠ 0) (hf1 : f1 = rf b1 26 0 e1)
    (hD : vq p k1 e1 = (d, k2, e2)) (hb2 : b2 = true ↔ ¬ I64 (first + d)) (hf2 : f2 = rf b2 27 f1 e2)
    (hU : uq p k2 e2 = (m, k3, e3)) (hb3 : b3 = true ↔ m ≠ n) (hf3 : f3 = rf b3 27 f2 e3)
    (hK : oq MX p k3 e3 = (kh, kd, k4, e4)) (hV : oq MX p k4 e4 = (vh, vd, k5, e5))
    (h1 : fl f' e' ≠ 0 → hres f3 e5 p k5 = .error (fl f' e')) (h2 : fl f' e' = 0 → hres f3 e5 p k5 = .ok (hs, k')) :
    (fl f' e' ≠ 0 → r1 p first n = .error (fl f' e')) ∧ (fl f' e' = 0 → r1 p first n = (if k' < p.size then .error 26 else .ok ⟨first + d, kh, kd, vh, vd, hs⟩) ∧ I64 (first + d)) := by
  have stop : ∀ X, X ≠ 0 → fl f3 e5 = X → r1 p first n = .error X → (fl f' e' ≠ 0 → r1 p first n = .error (fl f' e')) ∧ (fl f' e' = 0 → r1 p first n = (if k' < p.size then .error 26 else .ok ⟨first + d, kh, kd, vh, vd, hs⟩) ∧ I64 (first + d)) := by
    intro X hX h3 hr
    have hh : hres f3 e5 p k5 = .error X := by unfold hres; rw [h3, if_pos hX]
    refine ⟨fun h => ?_, fun h => ?_⟩
    · have := h1 h
      rw [hh] at this
      injection this with this
      rw [hr, this]
    · have := h2 h
      rw [hh] at this
      cases this
  by_cases z1 : fl f1 e1 = 0
  · rw [hf1] at z1
    obtain ⟨rfl, hb⟩ := rf_zero z1 (by decide)
    have ha : a = 0 := by
      apply Classical.byContradiction
      intro h
      have := hb1.2 h
      rw [hb] at this
      cases this
    subst ha
    have f10 : f1 = 0 := by rw [hf1, hb, rf_no]
    subst f10
    have q1 : r1 p first n = r2 p first n k1 := by
      unfold r1
      rw [hA, if_neg (by simp)]
      dsimp only
      rw [if_neg (by simp)]
    by_cases z2 : fl f2 e2 = 0
    · rw [hf2] at z2
      obtain ⟨rfl, hb⟩ := rf_zero z2 (by decide)
      have hi : I64 (first + d) := by
        apply Classical.byContradiction
        intro h
        have := hb2.2 h
        rw [hb] at this
        cases this
      have f20 : f2 = 0 := by rw [hf2, hb, rf_no]
      subst f20
      have q2 : r2 p first n k1 = r3 p (first + d) n k2 := by
        unfold r2
        rw [hD, if_neg (by simp)]
        dsimp only
        rw [if_neg (by simpa using hi)]
      by_cases z3 : fl f3 e3 = 0
      · rw [hf3] at z3
        obtain ⟨rfl, hb⟩ := rf_zero z3 (by decide)
        have hm : m = n := by
          apply Classical.byContradiction
          intro h
          have := hb3.2 h
          rw [hb] at this
          cases this
        subst hm
        have f30 : f3 = 0 := by rw [hf3, hb, rf_no]
        subst f30
        have q3 : r3 p (first + d) m k2 = r4 p (first + d) k3 := by
          unfold r3
          rw [hU, if_neg (by simp)]
          dsimp only
          rw [if_neg (by simp)]
        by_cases z4 : e4 = 0
        · subst z4
          have q4 : r4 p (first + d) k3 = r5 p (first + d) kh kd k4 := by
            unfold r4
            rw [hK, if_neg (by simp)]
          by_cases z5 : e5 = 0
          · subst z5
            have q5 : r5 p (first + d) kh kd k4 = r6 p (first + d) kh kd vh vd k5 := by
              unfold r5
              rw [hV, if_neg (by simp)]
            have q6 : r6 p (first + d) kh kd vh vd k5 = (match hres 0 0 p k5 with
                | .error e => .error e
                | .ok (hs, k') => if k' < p.size then .error 26 else .ok ⟨first + d, kh, kd, vh, vd, hs⟩) := by
              unfold r6 hres
              rw [if_neg (show ¬ fl 0 0 ≠ 0 by simp [fl])]
              dsimp only
              split
              · rfl
              · split
                · rfl
                · rfl
            rw [q1, q2, q3, q4, q5, q6]
            refine ⟨fun h => by rw [h1 h], fun h => ⟨by rw [h2 h], hi⟩⟩
          · refine stop e5 z5 rfl ?_
            rw [q1, q2, q3, q4]
            unfold r5
            rw [hV, if_pos z5]
        · have e54 := oq_keep hV z4
          refine stop e4 z4 (by rw [e54]; rfl) ?_
          rw [q1, q2, q3]
          unfold r4
          rw [hK, if_pos z4]
      · rw [hf3] at z3
        have k4 := oq_keep hK
        have k5 := oq_keep hV
        have x4 := fl_read z3 k4
        have x5 := fl_read (f := rf b3 27 0 e3) (e := e4) (e' := e5) (by rw [x4]; exact z3) k5
        refine stop (fl (rf b3 27 0 e3) e3) z3 (by rw [hf3, x5, x4]) ?_
        rw [q1, q2]
        unfold r3
        rw [hU]
        dsimp only
        rcases rf_one z3 with ⟨he, e⟩ | ⟨he, hb, e⟩
        · rw [e, if_pos he]
        · rw [e, if_neg (by simpa using he), if_pos (hb3.1 hb)]
    · rw [hf2] at z2
      have x3 : fl f3 e3 = fl (rf b2 27 0 e2) e2 := by rw [hf3, hf2]; exact stop_fl _ _ z2 (uq_keep hU)
      have x4 := fl_read (f := f3) (e := e3) (e' := e4) (by rw [x3]; exact z2) (oq_keep hK)
      have x5 := fl_read (f := f3) (e := e4) (e' := e5) (by rw [x4, x3]; exact z2) (oq_keep hV)
      refine stop (fl (rf b2 27 0 e2) e2) z2 (by rw [x5, x4, x3]) ?_
      rw [q1]
      unfold r2
      rw [hD]
      dsimp only
      rcases rf_one z2 with ⟨he, e⟩ | ⟨he, hb, e⟩
      · rw [e, if_pos he]
      · rw [e, if_neg (by simpa using he), if_pos (hb2.1 hb)]
  · rw [hf1] at z1
    have x2 : fl f2 e2 = fl (rf b1 26 0 e1) e1 := by rw [hf2, hf1]; exact stop_fl _ _ z1 (vq_keep hD)
    have x3 : fl f3 e3 = fl f2 e2 := by rw [hf3]; exact stop_fl _ _ (by rw [x2]; exact z1) (uq_keep hU)
    have x4 := fl_read (f := f3) (e := e3) (e' := e4) (by rw [x3, x2]; exact z1) (oq_keep hK)
    have x5 := fl_read (f := f3) (e := e4) (e' := e5) (by rw [x4, x3, x2]; exact z1) (oq_keep hV)
    refine stop (fl (rf b1 26 0 e1) e1) z1 (by rw [x5, x4, x3, x2]) ?_
    unfold r1
    rw [hA]
    dsimp only
    rcases rf_one z1 with ⟨he, e⟩ | ⟨he, hb, e⟩
    · rw [e, if_pos he]
    · rw [e, if_neg (by simpa using he), if_pos (hb1.1 hb)]
end Go.Proofs.Ytlbkkeoffeohnab
