/- Batches that follow on one another: plain facts. -/
import Derived.Test.YtolobmhbmajolaaPd9
namespace Go.Proofs.Ytolobmhbmajolaa
open Go.RowKit
def Chn : List Nt → Prop
  | [] => True
  | [_] => True
  | x :: y :: r => y.s = nx x ∧ Chn (y :: r)
theorem chn_tail {x : Nt} {r : List Nt} (h : Chn (x :: r)) : Chn r := by
  cases r with
  | nil => trivial
  | cons y r => exact h.2
theorem chn_drop : ∀ (n : Nat) {l : List Nt}, Chn l → Chn (l.drop n)
  | 0, _, h => h
  | _ + 1, [], h => h
  | n + 1, _ :: _, h => chn_drop n (chn_tail h)
theorem chn_snoc : ∀ {l : List Nt} {x : Nt}, Chn l → (∀ y, l.getLast? = some y → x.s = nx y) → Chn (l ++ [x])
  | [], x, _, _ => trivial
  | [y], x, _, h => ⟨h y rfl, trivial⟩
  | y :: z :: r, x, h, k => ⟨h.1, chn_snoc (l := z :: r) h.2 (fun w hw => k w (by rw [List.getLast?_cons_cons]; exact hw))⟩
theorem chn_dist : ∀ (r : List Nt) (x : Nt), Chn (x :: r) → (∀ z ∈ x :: r, NtOk z) → (∀ y ∈ r, ∃ d, 1 ≤ d ∧ d ≤ 65536 * (r.length : Int) ∧ y.s = (x.s + d) % 2147483648) ∧ ∀ y, (x :: r).getLast? = some y → ∃ d, 1 ≤ d ∧ d ≤ 65536 * ((r.length : Int) + 1) ∧ nx y = (x.s + d) % 2147483648
  | [], x, _, ok => by
    refine ⟨fun y hy => (by cases hy), fun y hy => ?_⟩
    injection hy with hy
    subst hy
    have := ok x (by simp)
    exact ⟨x.c, this.c0, by have := this.c1; simp; omega, rfl⟩
  | y :: r, x, h, ok => by
    have hx := ok x (by simp)
    have c0 := hx.c0
    have c1 := hx.c1
    obtain ⟨i1, i2⟩ := chn_dist r y h.2 (fun z hz => ok z (by simp only [List.mem_cons] at hz ⊢; exact Or.inr hz))
    have hy : y.s = (x.s + x.c) % 2147483648 := h.1
    have hl : ((y :: r).length : Int) = (r.length : Int) + 1 := by simp
    refine ⟨fun z hz => ?_, fun z hz => ?_⟩
    · rw [hl]
      rcases List.mem_cons.1 hz with rfl | hz
      · exact ⟨x.c, c0, by omega, hy⟩
      · obtain ⟨d, d0, d1, d2⟩ := i1 z hz
        exact ⟨x.c + d, by omega, by omega, by rw [d2, hy]; omega⟩
    · rw [hl]
      obtain ⟨d, d0, d1, d2⟩ := i2 z (by rw [List.getLast?_cons_cons] at hz; exact hz)
      exact ⟨x.c + d, by omega, by omega, by rw [d2, hy]; omega⟩
theorem bkw_take (ns : List Nt) : ∀ k, k ≤ ns.length → (bkw ns k).map (fun y => y.2) = (ns.take k).reverse
  | 0, _ => by simp [bkw]
  | k + 1, h => by
    show ns.getD k nt0 :: (bkw ns k).map (fun y => y.2) = _
    rw [bkw_take ns k (by omega), List.take_succ_eq_append_getElem (by omega), List.reverse_append]
    simp [List.getD_eq_getElem?_getD, List.getElem?_eq_getElem (show k < ns.length by omega)]
theorem fnd_rev (l : List Nt) (seq cnt : Int) : fnd (bkw l l.length) seq cnt = l.reverse.find? (isB seq cnt) := by
  have := bkw_take l l.length (Nat.le_refl _)
  rw [List.take_length] at this
  rw [← this, List.find?_map]
  rfl
theorem isB_self (y : Nt) : isB y.s y.c y = true := by simp [isB]
theorem good_of {p seq cnt : Int} (hp : 0 ≤ p) (hs : 0 ≤ seq) (h0 : 1 ≤ cnt) (h1 : cnt ≤ 65536) (base : Int) (b0 : 0 ≤ base) (b1 : base ≤ 4611686018427387904) : goodB base cnt p seq = true := by
  unfold goodB sndB
  rw [if_neg (by omega)]
  simp only [Bool.and_eq_true, decide_eq_true_eq]
  exact ⟨⟨⟨⟨⟨hp, hs⟩, h0⟩, h1⟩, b0⟩, b1⟩
/-- The next batch may come. -/
theorem chk_next {l : List Nt} {p seq cnt : Int} (hp : 0 ≤ p) (hs : 0 ≤ seq) (h0 : 1 ≤ cnt) (h1 : cnt ≤ 65536) (h : ∀ y, l.getLast? = some y → seq = nx y) : chk l p seq cnt = (0, 0) := by
  unfold chk
  rw [if_neg (by rw [good_of hp hs h0 h1 0 (by omega) (by omega)]; decide)]
  cases hl : l.getLast? with
  | none => rfl
  | some x =>
    dsimp only
    rw [if_pos (h x hl)]
/-- None of the last may come twice. -/
theorem chk_twice {l : List Nt} {p : Int} {y : Nt} (hp : 0 ≤ p) (hc : Chn l) (ok : ∀ z ∈ l, NtOk z) (h5 : l.length ≤ 5) (hy : y ∈ l) : chk l p y.s y.c = (y.b, 62) := by
  obtain ⟨a, c, rfl⟩ := List.append_of_mem hy
  have hk := ok y (by simp)
  have hch : Chn (y :: c) := by have := chn_drop a.length hc; rwa [List.drop_left] at this
  have hok : ∀ z ∈ y :: c, NtOk z := fun z hz => ok z (by simp only [List.mem_append]; exact Or.inr hz)
  obtain ⟨i1, i2⟩ := chn_dist c y hch hok
  have hlen : c.length ≤ 4 := by simp at h5; omega
  have s0 := hk.s0
  have s1 := hk.s1
  unfold chk
  rw [if_neg (by rw [good_of hp hk.s0 hk.c0 hk.c1 0 (by omega) (by omega)]; decide)]
  obtain ⟨x, hx, _⟩ := last_of (show a ++ y :: c ≠ [] by simp)
  have hx' : (y :: c).getLast? = some x := by
    have := hx
    rw [List.getLast?_append] at this
    obtain ⟨z, hz, _⟩ := last_of (show y :: c ≠ [] by simp)
    rw [hz] at this ⊢
    exact this
  rw [hx]
  dsimp only
  obtain ⟨d, d0, d1, d2⟩ := i2 x hx'
  rw [if_neg (by rw [d2]; omega), fnd_rev]
  have hf : (a ++ y :: c).reverse.find? (isB y.s y.c) = some y := by
    rw [List.reverse_append, List.reverse_cons, List.append_assoc, List.find?_append, List.find?_eq_none.2 ?_, Option.none_or]
    · show List.find? _ (y :: a.reverse) = _
      rw [List.find?_cons, isB_self]
    · intro z hz
      obtain ⟨d, d0, d1, d2⟩ := i1 z (by simpa using hz)
      have : ¬ z.s = y.s := by rw [d2]; omega
      simp [isB, this]
  rw [hf]
/-- Whatever else comes. -/
theorem chk_else {l : List Nt} {p seq cnt : Int} (hp : 0 ≤ p) (hs : 0 ≤ seq) (h0 : 1 ≤ cnt) (h1 : cnt ≤ 65536) (hne : l ≠ []) (h : ∀ y, l.getLast? = some y → seq ≠ nx y) :
    if l.any (isB seq cnt) = true then (chk l p seq cnt).2 = 62 else (chk l p seq cnt = (0, 63) ∨ chk l p seq cnt = (0, 64)) := by
  obtain ⟨x, hx, _⟩ := last_of hne
  have e : chk l p seq cnt = match fnd (bkw l l.length) seq cnt with
    | some y => (y.b, 62)
    | none => if (seq - nx x) % 2147483648 < 1073741824 then (0, 63) else (0, 64) := by
    unfold chk
    rw [if_neg (by rw [good_of hp hs h0 h1 0 (by omega) (by omega)]; decide), hx]
    dsimp only
    rw [if_neg (h x hx)]
    cases fnd (bkw l l.length) seq cnt <;> rfl
  rw [fnd_rev] at e
  split
  · rename_i ha
    cases hf : l.reverse.find? (isB seq cnt) with
    | none =>
      obtain ⟨y, hy, hb⟩ := List.any_eq_true.1 ha
      exact absurd hb (List.find?_eq_none.1 hf y (by simpa using hy))
    | some y => rw [hf] at e; rw [e]
  · rename_i ha
    cases hf : l.reverse.find? (isB seq cnt) with
    | none =>
      rw [hf] at e
      rw [e]
      dsimp only
      split
      · exact Or.inl rfl
      · exact Or.inr rfl
    | some y => exact absurd (List.any_eq_true.2 ⟨y, by simpa using List.mem_of_find?_eq_some hf, by simpa using List.find?_some hf⟩) ha
theorem kp_last {l : List Nt} : (kp l).getLast? = l.getLast? := by
  unfold kp
  rw [List.getLast?_drop]
  cases l with
  | nil => rfl
  | cons a r => rw [if_neg (by simp; omega)]
theorem kp_len (l : List Nt) : (kp l).length ≤ 5 := by unfold kp; rw [List.length_drop]; omega
theorem kp_kp (l : List Nt) (x : Nt) : kp (kp l ++ [x]) = kp (l ++ [x]) := by
  unfold kp
  by_cases h : l.length ≤ 5
  · rw [show l.length - 5 = 0 from by omega, List.drop_zero]
  · have hd : (l.drop (l.length - 5)).length = 5 := by rw [List.length_drop]; omega
    have e1 : (l.drop (l.length - 5) ++ [x]).length - 5 = 1 := by rw [List.length_append, hd]; rfl
    have e2 : (l ++ [x]).length - 5 = (l.length - 5) + 1 := by rw [List.length_append]; simp; omega
    rw [e1, e2, ← List.drop_drop, show List.drop (l.length - 5) (l ++ [x]) = List.drop (l.length - 5) l ++ [x] from List.drop_append_of_le_length (by omega)]
theorem kp_ne' {l : List Nt} (h : l ≠ []) : kp l ≠ [] := by
  intro e
  have := congrArg List.length e
  unfold kp at this
  rw [List.length_drop] at this
  have h2 : 0 < l.length := List.length_pos_iff.2 h
  simp at this
  omega
end Go.Proofs.Ytolobmhbmajolaa
