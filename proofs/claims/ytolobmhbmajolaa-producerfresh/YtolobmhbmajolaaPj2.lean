/- To forget is to have had the later ones alone: plain facts. -/
import Derived.Test.YtolobmhbmajolaaPj1
namespace Go.Proofs.Ytolobmhbmajolaa
open Go.RowKit
def isG (q : Int) (x : Hd) : Bool := goodB x.b x.c x.p x.s && decide (x.p ≠ -1) && decide (x.p = q)
/-- A producer's good heads. -/
def gd (hs : List Hd) (q : Int) : List Nt := (hs.filter (isG q)).map toNt
theorem gd_snoc (hs : List Hd) (x : Hd) (q : Int) : gd (hs ++ [x]) q = if isG q x = true then gd hs q ++ [toNt x] else gd hs q := by
  unfold gd
  rw [List.filter_append]
  by_cases h : isG q x = true
  · rw [if_pos h, List.map_append]
    simp [h]
  · rw [if_neg h]
    simp [h]
theorem rf_gd {hs : List Hd} (ok : ∀ x ∈ hs, HdOk x) (q : Int) : ∀ j, j ≤ hs.length → RF (rof (hs.take j)) q = kp (gd (hs.take j) q)
  | 0, _ => rfl
  | j + 1, h => by
    have ih := rf_gd ok q j (by omega)
    have r5 : R5 (rof (hs.take j)) := (rof6 (fun x hx => ok x (List.mem_of_mem_take hx))).r
    rw [take_next hs hd0 (show j < hs.length by omega), rof_snoc, ← note_rf r5, gd_snoc]
    generalize hs.getD j hd0 = x
    unfold noteF
    by_cases hg : goodB x.b x.c x.p x.s = true ∧ x.p ≠ -1
    · rw [if_pos hg]
      unfold kpF'
      by_cases e : q = x.p
      · subst e
        have : isG x.p x = true := by unfold isG; rw [hg.1]; simp [hg.2]
        rw [if_pos rfl, if_pos this, ih, kp_kp]
        rfl
      · have : ¬ isG q x = true := by
          unfold isG
          intro k
          simp only [Bool.and_eq_true, decide_eq_true_eq] at k
          exact e k.2.symm
        rw [if_neg e, if_neg this, ih]
    · have : ¬ isG q x = true := by
        unfold isG
        intro k
        simp only [Bool.and_eq_true, decide_eq_true_eq] at k
        exact hg k.1
      rw [if_neg hg, if_neg this, ih]
theorem rf_all {hs : List Hd} (ok : ∀ x ∈ hs, HdOk x) (q : Int) : RF (rof hs) q = kp (gd hs q) := by
  have := rf_gd ok q hs.length (Nat.le_refl _)
  rwa [List.take_length] at this
theorem gd_rfg (below : Int) (hs : List Hd) (q : Int) : gd (rfg below hs) q = fg below (gd hs q) := by
  unfold gd rfg fg
  rw [List.filter_map, List.filter_filter, List.filter_filter]
  congr 1
  exact List.filter_congr fun x _ => Bool.and_comm _ _
theorem fg_drop (below : Int) : ∀ (L : List Nt), L.Pairwise (fun x y => x.b < y.b) → ∃ m, m ≤ L.length ∧ ∀ i, fg below (L.drop i) = L.drop (max i m)
  | [], _ => ⟨0, Nat.le_refl _, fun i => by simp [fg]⟩
  | x :: r, h => by
    obtain ⟨h1, h2⟩ := List.pairwise_cons.1 h
    by_cases e : below ≤ x.b
    · refine ⟨0, Nat.zero_le _, fun i => ?_⟩
      rw [Nat.max_zero]
      unfold fg
      refine List.filter_eq_self.2 fun y hy => ?_
      have hy' : y ∈ x :: r := List.mem_of_mem_drop hy
      rcases List.mem_cons.1 hy' with rfl | hy'
      · simpa using e
      · have := h1 y hy'
        simp
        omega
    · obtain ⟨m, hm, hd⟩ := fg_drop below r h2
      refine ⟨m + 1, by simp; omega, fun i => ?_⟩
      cases i with
      | zero =>
        have e1 : fg below (x :: r) = fg below r := by
          unfold fg
          rw [List.filter_cons]
          simp [e]
        rw [List.drop_zero, e1]
        have := hd 0
        rw [List.drop_zero] at this
        rw [this, show max 0 (m + 1) = max 0 m + 1 from by omega, List.drop_succ_cons]
      | succ i =>
        rw [List.drop_succ_cons, hd i, show max (i + 1) (m + 1) = max i m + 1 from by omega, List.drop_succ_cons]
theorem fg_kp (below : Int) {L : List Nt} (h : L.Pairwise (fun x y => x.b < y.b)) : fg below (kp L) = kp (fg below L) := by
  obtain ⟨m, hm, hd⟩ := fg_drop below L h
  have h0 := hd 0
  rw [List.drop_zero, Nat.zero_max] at h0
  unfold kp
  rw [hd, h0, List.drop_drop, List.length_drop]
  congr 1
  omega
theorem gd_rise {hs : List Hd} (h : hs.Pairwise (fun x y => x.b < y.b)) (q : Int) : (gd hs q).Pairwise (fun x y => x.b < y.b) := by
  unfold gd
  exact List.pairwise_map.2 (h.filter _)
/-- To forget is to have had the later ones alone. -/
theorem forget_later {hs : List Hd} (ok : ∀ x ∈ hs, HdOk x) (below : Int) (h : hs.Pairwise (fun x y => x.b < y.b)) (q : Int) : fg below (RF (rof hs) q) = RF (rof (rfg below hs)) q := by
  rw [rf_all ok, rf_all (hs := rfg below hs) (fun x hx => ok x (List.mem_filter.1 hx).1), gd_rfg, fg_kp below (gd_rise h q)]
theorem rise_snoc {l : List Hd} {x : Hd} (h : l.Pairwise (fun x y => x.b < y.b)) (hx : ∀ y, l.getLast? = some y → y.b < x.b) : (l ++ [x]).Pairwise (fun x y => x.b < y.b) := by
  refine List.pairwise_append.2 ⟨h, List.pairwise_singleton _ _, fun a ha c hc => ?_⟩
  rw [List.mem_singleton.1 hc]
  cases hl : l.getLast? with
  | none => rw [List.getLast?_eq_none_iff.1 hl] at ha; cases ha
  | some y =>
    have hy := hx y hl
    obtain ⟨r, e⟩ : ∃ r, l = r ++ [y] := by
      rw [List.getLast?_eq_some_iff] at hl
      exact hl
    rw [e] at ha h
    rcases List.mem_append.1 ha with ha | ha
    · have := (List.pairwise_append.1 h).2.2 a ha y (by simp)
      omega
    · rw [List.mem_singleton.1 ha]
      exact hy
end Go.Proofs.Ytolobmhbmajolaa
