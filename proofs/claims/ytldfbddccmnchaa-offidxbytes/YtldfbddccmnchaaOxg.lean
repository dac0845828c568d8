/- A search by halves: plain facts. -/
import Derived.Test.YtldfbddccmnchaaOxs
namespace Go.Proofs.Ytldfbddccmnchaa
/-- Each above the one ahead of it. -/
def Abv (x y : En) : Prop := x.k < y.k ∧ x.a < y.a
def Ord (l : List En) : Prop := l.Pairwise Abv ∧ ∀ e ∈ l, 0 ≤ e.k ∧ 0 ≤ e.a
theorem Ord.nil : Ord [] := ⟨List.Pairwise.nil, by simp⟩
theorem fitB_iff (l : List En) (e : En) : fitB l e = true ↔ (lastE l).k < e.k ∧ (lastE l).a < e.a := by unfold fitB; simp
theorem lastE_snoc (l : List En) (m : En) : lastE (l ++ [m]) = m := by unfold lastE; simp
theorem Ord.snoc {l : List En} {e : En} (h : Ord l) (hf : fitB l e = true) : Ord (l ++ [e]) := by
  rw [fitB_iff] at hf
  rcases List.eq_nil_or_concat l with rfl | ⟨r, m, rfl⟩
  · have hf' : (-1 : Int) < e.k ∧ (-1 : Int) < e.a := hf
    refine ⟨List.pairwise_singleton _ _, fun x hx => ?_⟩
    rw [List.nil_append, List.mem_singleton] at hx
    subst hx
    omega
  · rw [List.concat_eq_append] at *
    rw [lastE_snoc] at hf
    have hm := h.2 m (by simp)
    refine ⟨List.pairwise_append.2 ⟨h.1, List.pairwise_singleton _ _, fun x hx y hy => ?_⟩, fun x hx => ?_⟩
    · rw [List.mem_singleton] at hy
      subst hy
      rcases List.mem_append.1 hx with hx | hx
      · have := (List.pairwise_append.1 h.1).2.2 x hx m (by simp)
        exact ⟨by have := this.1; omega, by have := this.2; omega⟩
      · rw [List.mem_singleton] at hx
        subst hx
        exact hf
    · rcases List.mem_append.1 hx with hx | hx
      · exact h.2 x hx
      · rw [List.mem_singleton] at hx
        subst hx
        omega
theorem Ord.add {l : List En} (h : Ord l) (e : En) : Ord (addE l e) := by
  unfold addE
  split
  · exact h.snoc ‹_›
  · exact h
theorem Ord.take {l : List En} (h : Ord l) (n : Nat) : Ord (l.take n) := ⟨h.1.sublist (List.take_sublist _ _), fun e he => h.2 e (List.mem_of_mem_take he)⟩
theorem Ord.cut {l : List En} (h : Ord l) (n : Int) : Ord (cutE l n) := by
  unfold cutE
  split
  · exact h.take _
  · exact h
theorem Ord.lt {l : List En} (h : Ord l) {i j : Nat} (hij : i < j) (hj : j < l.length) : (l.getD i en0).k < (l.getD j en0).k := by
  rw [getD_of (show i < l.length by omega), getD_of hj]
  exact (List.pairwise_iff_getElem.1 h.1 i j (by omega) hj hij).1
theorem Ord.le {l : List En} (h : Ord l) {i j : Nat} (hij : i ≤ j) (hj : j < l.length) : (l.getD i en0).k ≤ (l.getD j en0).k := by
  rcases Nat.lt_or_ge i j with h1 | h1
  · exact Int.le_of_lt (h.lt h1 hj)
  · have : i = j := by omega
    subst this
    exact Int.le_refl _
/-- How many entries are not above a key. -/
def cnt (l : List En) (key : Int) : Nat := (l.takeWhile (fun e => decide (e.k ≤ key))).length
theorem cnt_le (l : List En) (key : Int) : cnt l key ≤ l.length := by
  unfold cnt
  exact (List.takeWhile_sublist _).length_le
theorem cnt_eq : ∀ {l : List En} {key : Int} {n : Nat}, n ≤ l.length → (∀ j, j < n → (l.getD j en0).k ≤ key) → (∀ j, n ≤ j → j < l.length → key < (l.getD j en0).k) → cnt l key = n
  | [], key, n, hn, _, _ => by simp at hn; subst hn; rfl
  | e :: r, key, 0, _, _, h2 => by
    have := h2 0 (Nat.le_refl _) (by simp)
    have h3 : ¬ e.k ≤ key := by
      have : key < e.k := this
      omega
    unfold cnt
    rw [List.takeWhile_cons, if_neg (by simp [h3])]
    rfl
  | e :: r, key, n + 1, hn, h1, h2 => by
    have h3 : e.k ≤ key := h1 0 (by omega)
    have ih := cnt_eq (l := r) (key := key) (n := n) (by simp at hn; omega) (fun j hj => h1 (j + 1) (by omega)) (fun j hj hl => h2 (j + 1) (by omega) (by simp; omega))
    unfold cnt at *
    rw [List.takeWhile_cons, if_pos (by simp [h3]), List.length_cons, ih]
/-- How many halvings there are. -/
def bits (n : Nat) : Nat := if n = 0 then 0 else Nat.log2 n + 1
theorem bits_zero : bits 0 = 0 := rfl
theorem bits_half (n : Nat) (h : 0 < n) : bits (n / 2) + 1 = bits n := by
  unfold bits
  rw [if_neg (show ¬ n = 0 by omega)]
  by_cases h1 : n / 2 = 0
  · rw [if_pos h1]
    have : n = 1 := by omega
    subst this
    rfl
  · rw [if_neg h1]
    conv => rhs; rw [Nat.log2_def]
    rw [if_pos (by omega)]
theorem bits_mono {m n : Nat} (h : m ≤ n) : bits m ≤ bits n := by
  unfold bits
  by_cases h0 : m = 0
  · rw [if_pos h0]; exact Nat.zero_le _
  · rw [if_neg h0, if_neg (show ¬ n = 0 by omega)]
    have : Nat.log2 m ≤ Nat.log2 n := (Nat.le_log2 (by omega)).2 (Nat.le_trans (Nat.log2_self_le h0) h)
    omega
theorem bits_step {s s' k N : Nat} (h : 0 < s) (hs : s' ≤ s / 2) (hk : k + bits s ≤ N) : k + 1 + bits s' ≤ N := by
  have h1 := bits_half s h
  have h2 := bits_mono hs
  omega
theorem bits_le (n : Nat) (h : n ≤ 8796093022208) : bits n ≤ 44 := by
  have := bits_mono h
  have e : bits 8796093022208 = 44 := by decide +kernel
  omega
end Go.Proofs.Ytldfbddccmnchaa
