/- What NamesParts counts. -/
import Derived.Test.YtgffipkbbenddaaDoorGrw
namespace Go.Proofs.YtgffipkbbenddaaDoor
open Go.RowKit Go.Lib
def par (T : List (List UInt8)) (b : Nat) : Nat → Nat
  | 0 => 0
  | k + 1 => par T b k + T.count (nm b k)
theorem par_le (T : List (List UInt8)) (b : Nat) : ∀ k, par T b k ≤ k * T.length
  | 0 => by simp [par]
  | k + 1 => by
    have h1 := par_le T b k
    have h2 : T.count (nm b k) ≤ T.length := List.count_le_length
    rw [par, Nat.succ_mul]
    omega
theorem par3 (T : List (List UInt8)) (b : Nat) : par T b 3 = tri T b := by simp [par, tri]
theorem tld_take {T : List (List UInt8)} {l : List Sg} {i : Nat} (h : i < l.length) : tld T (l.take (i + 1)) = tld T (l.take i) + tri T l[i].b.toNat := by
  unfold tld
  rw [List.take_succ_eq_append_getElem h, List.map_append, List.sum_append]
  simp
theorem tld_le (T : List (List UInt8)) : ∀ (l : List Sg) (i : Nat), tld T (l.take i) ≤ tld T l
  | [], i => by simp
  | s :: l, 0 => by show 0 ≤ _; omega
  | s :: l, i + 1 => by
    have := tld_le T l i
    show tri T s.b.toNat + tld T (l.take i) ≤ tri T s.b.toNat + tld T l
    omega
theorem count_step {T : List (List UInt8)} {x : List UInt8} {j : Nat} (h : j < T.length) : (T.take (j + 1)).count x = (T.take j).count x + (if T[j] = x then 1 else 0) := by
  rw [List.take_succ_eq_append_getElem h, List.count_append, List.count_singleton]
  by_cases e : T[j] = x
  · rw [if_pos e, if_pos (by simpa using e)]
  · rw [if_neg e, if_neg (by simpa using e)]
theorem OwX.txs {w : World} {B : Nat} {v : Value} {l : List (List UInt8)} (h : OwX w B v l) : ∃ a cap, v = .slice a l.length cap ∧ Txs w a (l.map ba) := by
  have hr : w.ownsRow B 9 1 v l.length (l.map fun t => Value.string (ba t)) := h
  rcases h.2 with ⟨rfl, h2⟩ | ⟨g, cap, cur, rfl, h3, h4, h5⟩
  · exact ⟨none, 0, by rw [h2], Or.inl (by rw [List.eq_nil_of_length_eq_zero h2]; rfl)⟩
  · refine ⟨_, cap, rfl, Or.inr ⟨g, 0, rfl, lt_of_heap h4, fun j hj => ?_⟩⟩
    have hj' : j < l.length := by simpa using hj
    rw [Nat.zero_add, hr.cellAt j (by omega), List.getElem?_map, List.getElem?_eq_getElem hj', List.getD_eq_getElem?_getD, List.getElem?_map, List.getElem?_eq_getElem hj']
    rfl
/-- All that NamesParts asks of the two lists. -/
structure Pts (T : List (List UInt8)) (l1 : List Sg) (l2 : List (List UInt8)) : Prop where
  each : ∀ i (h : i < l1.length), ∃ b : Nat, b ≤ 4611686018427387904 ∧ l1[i].b = b ∧ (∀ k, k ≤ 2 → bit l1[i] k = decide (0 < T.count (nm b k))) ∧ (l1[i].x || (l1[i].y || l1[i].z)) = true
  rise : ∀ i (h : i + 1 < l1.length), l1[i].b < l1[i + 1].b
  strays : ∀ i (h : i < l2.length), prs l2[i] = none
  order : ∀ i (h : i + 1 < l2.length), Op.bytesLess l2[i + 1] l2[i] = false
  sum : tld T l1 + l2.length = T.length
theorem pts_of (T : List (List UInt8)) : Pts T (grp (srt T)).1 (grp (srt T)).2 := by
  obtain ⟨hg, hf⟩ := grp_sorted (srt_sorted T)
  have hg' := hg.perm (srt_perm T)
  have h1 : ∀ s ∈ (grp (srt T)).1, ∃ b : Nat, b ≤ 4611686018427387904 ∧ s.b = b := fun s hs => by
    obtain ⟨b, hb, e, _⟩ := hg'.each s hs
    exact ⟨b, hb, e⟩
  have hs := tld_all h1 hg'.rise T hg'.all
  have hl : (T.filter bad).length = (grp (srt T)).2.length := by rw [hf]; exact ((srt_perm T).filter bad).length_eq.symm
  have hso : (grp (srt T)).2.Pairwise fun x y => x ≤ y := by rw [hf]; exact (srt_sorted T).filter bad
  refine ⟨fun i h => ?_, fun i h => List.pairwise_iff_getElem.1 hg'.rise i (i + 1) (by omega) h (by omega), fun i h => ?_, fun i h => ?_, by rw [← hl]; exact hs⟩
  · obtain ⟨b, hb, e, h2, k, hk, h3⟩ := hg'.each _ (List.getElem_mem h)
    refine ⟨b, hb, e, fun k hk => ?_, ?_⟩
    · have h4 := h2 k hk
      rw [← List.count_pos_iff] at h4
      cases hq : bit (grp (srt T)).1[i] k with
      | true => exact (decide_eq_true (h4.1 hq)).symm
      | false => exact (decide_eq_false fun hc => by rw [h4.2 hc] at hq; cases hq).symm
    · have h5 := (h2 k hk).2 h3
      generalize (grp (srt T)).1[i] = s at *
      rcases (by omega : k = 0 ∨ k = 1 ∨ k = 2) with rfl | rfl | rfl
      · simp only [bit] at h5; rw [h5]; rfl
      · simp only [bit] at h5; rw [h5]; simp
      · simp only [bit] at h5; rw [h5]; simp
  · have hm := List.getElem_mem h
    have hm' : (grp (srt T)).2[i] ∈ (srt T).filter bad := hf ▸ hm
    have := (List.mem_filter.1 hm').2
    unfold bad at this
    exact Option.isNone_iff_eq_none.1 this
  · rw [bytesLess_eq]
    have := List.pairwise_iff_getElem.1 hso i (i + 1) (by omega) h (by omega)
    exact decide_eq_false (List.not_lt.2 this)
end Go.Proofs.YtgffipkbbenddaaDoor
