/- A search by halves: plain facts. -/
import Derived.Test.YtmhmohkeekmmgaaTxs
namespace Go.Proofs.Ytmhmohkeekmmgaa
/-- Each behind the one ahead of it, and not earlier. -/
def Abv (x y : En) : Prop := x.a < y.a ∧ x.k ≤ y.k
def Ord (l : List En) : Prop := l.Pairwise Abv ∧ ∀ e ∈ l, 0 ≤ e.a
theorem Ord.nil : Ord [] := ⟨List.Pairwise.nil, by simp⟩
theorem fitB_nil (e : En) : fitB [] e = decide (0 ≤ e.a) := by unfold fitB; rw [ordB_nil]; simp
theorem fitB_snoc (l : List En) (m e : En) : fitB (l ++ [m]) e = (decide (0 ≤ e.a) && (decide (m.a < e.a) && decide (m.k ≤ e.k))) := by unfold fitB; rw [ordB_snoc]
theorem Ord.snoc {l : List En} {e : En} (h : Ord l) (hf : fitB l e = true) : Ord (l ++ [e]) := by
  rcases List.eq_nil_or_concat l with rfl | ⟨r, m, rfl⟩
  · rw [fitB_nil] at hf
    refine ⟨List.pairwise_singleton _ _, fun x hx => ?_⟩
    rw [List.nil_append, List.mem_singleton] at hx
    subst hx
    simpa using hf
  · rw [List.concat_eq_append] at *
    rw [fitB_snoc] at hf
    simp only [Bool.and_eq_true, decide_eq_true_eq] at hf
    obtain ⟨h0, h1, h2⟩ := hf
    refine ⟨List.pairwise_append.2 ⟨h.1, List.pairwise_singleton _ _, fun x hx y hy => ?_⟩, fun x hx => ?_⟩
    · rw [List.mem_singleton] at hy
      subst hy
      rcases List.mem_append.1 hx with hx | hx
      · have := (List.pairwise_append.1 h.1).2.2 x hx m (by simp)
        exact ⟨by have := this.1; omega, by have := this.2; omega⟩
      · rw [List.mem_singleton] at hx
        subst hx
        exact ⟨h1, h2⟩
    · rcases List.mem_append.1 hx with hx | hx
      · exact h.2 x hx
      · rw [List.mem_singleton] at hx
        subst hx
        exact h0
theorem Ord.add {l : List En} (h : Ord l) (e : En) : Ord (addE l e) := by
  unfold addE
  split
  · exact h.snoc ‹_›
  · exact h
theorem Ord.take {l : List En} (h : Ord l) (n : Nat) : Ord (l.take n) := ⟨h.1.sublist (List.take_sublist _ _), fun e he => h.2 e (List.mem_of_mem_take he)⟩
theorem Ord.cut {l : List En} (h : Ord l) (n : Int) : Ord (cutE l n) := by
  unfold cutE
  split
  · exact h.take _
  · exact h
theorem Ord.le {l : List En} (h : Ord l) {i j : Nat} (hij : i ≤ j) (hj : j < l.length) : (l.getD i en0).k ≤ (l.getD j en0).k := by
  rcases Nat.lt_or_ge i j with h1 | h1
  · rw [getD_of (show i < l.length by omega), getD_of hj]
    exact (List.pairwise_iff_getElem.1 h.1 i j (by omega) hj h1).2
  · have : i = j := by omega
    subst this
    exact Int.le_refl _
/-- How many entries are below a time. -/
def cnt (l : List En) (t : Int) : Nat := (l.takeWhile (fun e => decide (e.k < t))).length
theorem cnt_le (l : List En) (t : Int) : cnt l t ≤ l.length := by
  unfold cnt
  exact (List.takeWhile_sublist _).length_le
theorem cnt_eq : ∀ {l : List En} {t : Int} {n : Nat}, n ≤ l.length → (∀ j, j < n → (l.getD j en0).k < t) → (∀ j, n ≤ j → j < l.length → t ≤ (l.getD j en0).k) → cnt l t = n
  | [], t, n, hn, _, _ => by simp at hn; subst hn; rfl
  | e :: r, t, 0, _, _, h2 => by
    have := h2 0 (Nat.le_refl _) (by simp)
    have h3 : ¬ e.k < t := by
      have : t ≤ e.k := this
      omega
    unfold cnt
    rw [List.takeWhile_cons, if_neg (by simp [h3])]
    rfl
  | e :: r, t, n + 1, hn, h1, h2 => by
    have h3 : e.k < t := h1 0 (by omega)
    have ih := cnt_eq (l := r) (t := t) (n := n) (by simp at hn; omega) (fun j hj => h1 (j + 1) (by omega)) (fun j hj hl => h2 (j + 1) (by omega) (by simp; omega))
    unfold cnt at *
    rw [List.takeWhile_cons, if_pos (by simp [h3]), List.length_cons, ih]
/-- How many halvings there are. -/
def bits (n : Nat) : Nat := if n = 0 then 0 else Nat.log2 n + 1
theorem bits_zero : bits 0 = 0 := rfl
theorem bits_half (n : Nat) (h : 0 < n) : bits (n / 2) + 1 = bits n := by
  unfold bits
  rw [if_neg (show ¬ n = 0 by omega)]
  by_cases h1 : n / 2 = 0
  · rw [if_pos h1]
    have : n = 1 := by omega
    subst this
    rfl
  · rw [if_neg h1]
    conv => rhs; rw [Nat.log2_def]
    rw [if_pos (by omega)]
theorem bits_mono {m n : Nat} (h : m ≤ n) : bits m ≤ bits n := by
  unfold bits
  by_cases h0 : m = 0
  · rw [if_pos h0]; exact Nat.zero_le _
  · rw [if_neg h0, if_neg (show ¬ n = 0 by omega)]
    have : Nat.log2 m ≤ Nat.log2 n := (Nat.le_log2 (by omega)).2 (Nat.le_trans (Nat.log2_self_le h0) h)
    omega
theorem bits_le (n : Nat) (h : n ≤ 8796093022208) : bits n ≤ 44 := by
  have := bits_mono h
  have e : bits 8796093022208 = 44 := by decide +kernel
  omega
/-- How many looks a search by halves takes: f bounds the rounds. -/
def prb (l : List En) (t : Int) : Nat → Nat → Nat → Nat
  | 0, _, _ => 0
  | f + 1, lo, hi => if lo < hi then (if (l.getD ((lo + hi) / 2) en0).k < t then prb l t f ((lo + hi) / 2 + 1) hi else prb l t f lo ((lo + hi) / 2)) + 1 else 0
theorem prb_le (l : List En) (t : Int) : ∀ f lo hi, prb l t f lo hi ≤ bits (hi - lo)
  | 0, _, _ => Nat.zero_le _
  | f + 1, lo, hi => by
    unfold prb
    split
    · have h1 := bits_half (hi - lo) (by omega)
      split
      · have := prb_le l t f ((lo + hi) / 2 + 1) hi
        have := bits_mono (show hi - ((lo + hi) / 2 + 1) ≤ (hi - lo) / 2 by omega)
        omega
      · have := prb_le l t f lo ((lo + hi) / 2)
        have := bits_mono (show (lo + hi) / 2 - lo ≤ (hi - lo) / 2 by omega)
        omega
    · exact Nat.zero_le _
theorem prb_up {l : List En} {t : Int} {f lo hi : Nat} (h : lo < hi) (hk : (l.getD ((lo + hi) / 2) en0).k < t) : prb l t (f + 1) lo hi = prb l t f ((lo + hi) / 2 + 1) hi + 1 := by
  conv => lhs; unfold prb
  rw [if_pos h, if_pos hk]
theorem prb_down {l : List En} {t : Int} {f lo hi : Nat} (h : lo < hi) (hk : ¬ (l.getD ((lo + hi) / 2) en0).k < t) : prb l t (f + 1) lo hi = prb l t f lo ((lo + hi) / 2) + 1 := by
  conv => lhs; unfold prb
  rw [if_pos h, if_neg hk]
theorem prb_end {l : List En} {t : Int} {f lo : Nat} : prb l t f lo lo = 0 := by
  cases f with
  | zero => rfl
  | succ f => unfold prb; rw [if_neg (by omega)]
/-- How many looks it takes. -/
def pr (l : List En) (t : Int) : Nat := prb l t 64 0 l.length
theorem pr_le (l : List En) (t : Int) : pr l t ≤ bits l.length := prb_le l t 64 0 l.length
theorem pr_le44 (l : List En) (t : Int) (h : l.length ≤ 8796093022208) : pr l t ≤ 44 := Nat.le_trans (pr_le l t) (bits_le _ h)
theorem pr_nil (t : Int) : pr [] t = 0 := rfl
end Go.Proofs.Ytmhmohkeekmmgaa
