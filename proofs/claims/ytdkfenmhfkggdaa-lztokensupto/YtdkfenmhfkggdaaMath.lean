/- Best matches, by plain numbers: the longest of those that begin at the distances 1 to D, the nearest of several. -/
namespace M
def by_ (l : List UInt8) (i : Nat) : UInt8 := l.getD i 0
/-- How many bytes from b on, m at most, are those from a on. -/
def alk (l : List UInt8) : Nat → Nat → Nat → Nat
  | 0, _, _ => 0
  | m + 1, a, b => if by_ l a = by_ l b then alk l m (a + 1) (b + 1) + 1 else 0
theorem alk_le (l : List UInt8) : ∀ m a b, alk l m a b ≤ m
  | 0, _, _ => Nat.le_refl _
  | m + 1, a, b => by
    unfold alk
    split
    · have := alk_le l m (a + 1) (b + 1); omega
    · omega
theorem alk_eq (l : List UInt8) : ∀ m a b k, k < alk l m a b → by_ l (a + k) = by_ l (b + k)
  | 0, _, _, _, h => by simp [alk] at h
  | m + 1, a, b, k, h => by
    unfold alk at h
    split at h
    · rename_i he
      cases k with
      | zero => exact he
      | succ k =>
        have := alk_eq l m (a + 1) (b + 1) k (by omega)
        rw [show a + (k + 1) = a + 1 + k from by omega, show b + (k + 1) = b + 1 + k from by omega]
        exact this
    · omega
theorem alk_ne (l : List UInt8) : ∀ m a b, alk l m a b < m → by_ l (a + alk l m a b) ≠ by_ l (b + alk l m a b)
  | 0, _, _, h => by omega
  | m + 1, a, b, h => by
    unfold alk at h ⊢
    split
    · rename_i he
      rw [if_pos he] at h
      have := alk_ne l m (a + 1) (b + 1) (by omega)
      rw [show a + (alk l m (a + 1) (b + 1) + 1) = a + 1 + alk l m (a + 1) (b + 1) from by omega, show b + (alk l m (a + 1) (b + 1) + 1) = b + 1 + alk l m (a + 1) (b + 1) from by omega]
      exact this
    · rename_i he
      exact he
/-- As many as all agree, if there are so many. -/
theorem alk_ge {l : List UInt8} {m a b n : Nat} (hn : n ≤ m) (h : ∀ k, k < n → by_ l (a + k) = by_ l (b + k)) : n ≤ alk l m a b := by
  rcases Nat.lt_or_ge (alk l m a b) n with h1 | h1
  · exact absurd (h _ h1) (alk_ne l m a b (by omega))
  · exact h1
theorem alk_is {l : List UInt8} {m a b n : Nat} (hn : n ≤ m) (h : ∀ k, k < n → by_ l (a + k) = by_ l (b + k)) (he : n < m → by_ l (a + n) ≠ by_ l (b + n)) : alk l m a b = n := by
  have h1 := alk_ge hn h
  rcases Nat.lt_or_ge n (alk l m a b) with h2 | h2
  · have := alk_le l m a b
    exact absurd (alk_eq l m a b n h2) (he (by omega))
  · omega
/-- A byte that differs: no more than so many. -/
theorem alk_lt {l : List UInt8} {m a b n : Nat} (h : by_ l (a + n) ≠ by_ l (b + n)) : alk l m a b ≤ n := by
  rcases Nat.lt_or_ge n (alk l m a b) with h2 | h2
  · exact absurd (alk_eq l m a b n h2) h
  · exact h2
/-- The best of the distances 1 to D that is longer than z bytes. -/
def bs (l : List UInt8) (z at' m : Nat) : Nat → Nat × Nat
  | 0 => (0, 0)
  | d + 1 => if max (bs l z at' m d).1 z < alk l m (at' - (d + 1)) at' then (alk l m (at' - (d + 1)) at', d + 1) else bs l z at' m d
theorem bs_le (l : List UInt8) (z at' m : Nat) : ∀ D, (bs l z at' m D).1 ≤ m ∧ (bs l z at' m D).2 ≤ D
  | 0 => by simp [bs]
  | d + 1 => by
    have := bs_le l z at' m d
    unfold bs
    split
    · exact ⟨alk_le _ _ _ _, by simp⟩
    · exact ⟨this.1, by omega⟩
/-- Either nothing, or a match. -/
theorem bs_is (l : List UInt8) (z at' m : Nat) : ∀ D, bs l z at' m D = (0, 0) ∨ (z < (bs l z at' m D).1 ∧ 1 ≤ (bs l z at' m D).2 ∧ alk l m (at' - (bs l z at' m D).2) at' = (bs l z at' m D).1)
  | 0 => Or.inl rfl
  | d + 1 => by
    have := bs_is l z at' m d
    unfold bs
    split
    · rename_i h
      exact Or.inr ⟨by omega, by simp, rfl⟩
    · exact this
theorem bs_ge (l : List UInt8) (z at' m : Nat) : ∀ D d, 1 ≤ d → d ≤ D → alk l m (at' - d) at' ≤ max (bs l z at' m D).1 z
  | 0, d, h1, h2 => by omega
  | D + 1, d, h1, h2 => by
    unfold bs
    by_cases he : d = D + 1
    · subst he
      split
      · omega
      · omega
    · have := bs_ge l z at' m D d h1 (by omega)
      split
      · omega
      · exact this
/-- Nearer ones are all shorter. -/
theorem bs_near (l : List UInt8) (z at' m : Nat) : ∀ D d, 1 ≤ d → d < (bs l z at' m D).2 → alk l m (at' - d) at' < (bs l z at' m D).1
  | 0, d, h1, h2 => by simp [bs] at h2
  | D + 1, d, h1, h2 => by
    unfold bs at h2 ⊢
    split
    · rename_i h
      rw [if_pos h] at h2
      have := bs_ge l z at' m D d h1 (by omega)
      have h3 : (alk l m (at' - (D + 1)) at', D + 1).fst = alk l m (at' - (D + 1)) at' := rfl
      omega
    · rename_i h
      rw [if_neg h] at h2
      exact bs_near l z at' m D d h1 h2
/-- Distances that bring nothing longer are passed over. -/
theorem bs_skip {l : List UInt8} {z at' m : Nat} : ∀ {D E : Nat}, D ≤ E → (∀ d, D < d → d ≤ E → alk l m (at' - d) at' ≤ max (bs l z at' m D).1 z) → bs l z at' m E = bs l z at' m D
  | D, 0, h, _ => by
    obtain rfl : D = 0 := by omega
    rfl
  | D, E + 1, h, k => by
    by_cases he : D = E + 1
    · rw [he]
    · have ih := bs_skip (D := D) (E := E) (by omega) (fun d h1 h2 => k d h1 (by omega))
      have h1 := k (E + 1) (by omega) (by omega)
      rw [← ih] at h1
      rw [← ih]
      conv => lhs; unfold bs
      rw [if_neg (by omega)]
theorem bs_take {l : List UInt8} {z at' m d n : Nat} (h : alk l m (at' - (d + 1)) at' = n) (hn : max (bs l z at' m d).1 z < n) : bs l z at' m (d + 1) = (n, d + 1) := by
  conv => lhs; unfold bs
  rw [h, if_pos hn]
/-- With a threshold, and without it. -/
theorem bs_zero (l : List UInt8) (z at' m : Nat) : ∀ D, bs l z at' m D = if z < (bs l 0 at' m D).1 then bs l 0 at' m D else (0, 0)
  | 0 => by simp [bs]
  | D + 1 => by
    have ih := bs_zero l z at' m D
    have e1 : bs l z at' m (D + 1) = if max (bs l z at' m D).1 z < alk l m (at' - (D + 1)) at' then (alk l m (at' - (D + 1)) at', D + 1) else bs l z at' m D := rfl
    have e2 : bs l 0 at' m (D + 1) = if max (bs l 0 at' m D).1 0 < alk l m (at' - (D + 1)) at' then (alk l m (at' - (D + 1)) at', D + 1) else bs l 0 at' m D := rfl
    rw [e1, e2]
    rw [ih]
    generalize bs l 0 at' m D = r at *
    generalize alk l m (at' - (D + 1)) at' = n at *
    by_cases h2 : r.1 < n
    · rw [if_pos (show max r.1 0 < n by omega)]
      by_cases h1 : z < r.1
      · rw [if_pos h1, if_pos (show max r.1 z < n by omega), if_pos (show z < (n, D + 1).1 by show z < n; omega)]
      · rw [if_neg h1]
        by_cases h3 : z < n
        · rw [if_pos (show max (0, 0).1 z < n by show max 0 z < n; omega), if_pos (show z < (n, D + 1).1 from h3)]
        · rw [if_neg (show ¬ max (0, 0).1 z < n by show ¬ max 0 z < n; omega), if_neg (show ¬ z < (n, D + 1).1 from h3)]
    · rw [if_neg (show ¬ max r.1 0 < n by omega)]
      by_cases h1 : z < r.1
      · rw [if_pos h1, if_neg (show ¬ max r.1 z < n by omega)]
      · rw [if_neg h1, if_neg (show ¬ max (0, 0).1 z < n by show ¬ max 0 z < n; omega)]
def most (l : List UInt8) (at' : Nat) : Nat := min (l.length - at') 131
def best (l : List UInt8) (at' : Nat) : Nat × Nat := bs l 3 at' (most l at') (min at' 8192)
theorem best_end {l : List UInt8} {at' : Nat} (h : l.length ≤ at' + 3) : best l at' = (0, 0) := by
  rcases bs_is l 3 at' (most l at') (min at' 8192) with h1 | h1
  · exact h1
  · have := (bs_le l 3 at' (most l at') (min at' 8192)).1
    unfold most at this h1
    omega
theorem best_le (l : List UInt8) (at' : Nat) : (best l at').1 ≤ l.length - at' ∧ (best l at').1 ≤ 131 ∧ (best l at').2 ≤ at' ∧ (best l at').2 ≤ 8192 := by
  have := bs_le l 3 at' (most l at') (min at' 8192)
  unfold best
  have h2 : most l at' ≤ l.length - at' ∧ most l at' ≤ 131 := by unfold most; omega
  omega
theorem best_is (l : List UInt8) (at' : Nat) : best l at' = (0, 0) ∨ (4 ≤ (best l at').1 ∧ 1 ≤ (best l at').2 ∧ alk l (most l at') (at' - (best l at').2) at' = (best l at').1) := bs_is l 3 at' (most l at') (min at' 8192)
/-- The place behind the last one ahead of p, from lo on, whose bucket is b; 0, if there is none. -/
def prv (h : Nat → Nat) (lo b : Nat) : Nat → Nat
  | 0 => 0
  | p + 1 => if lo ≤ p ∧ h p = b then p + 1 else prv h lo b p
theorem prv_le (h : Nat → Nat) (lo b : Nat) : ∀ p, prv h lo b p ≤ p
  | 0 => Nat.le_refl _
  | p + 1 => by
    unfold prv
    split
    · omega
    · have := prv_le h lo b p; omega
theorem prv_is (h : Nat → Nat) (lo b : Nat) : ∀ p, prv h lo b p = 0 ∨ (lo < prv h lo b p ∧ h (prv h lo b p - 1) = b)
  | 0 => Or.inl rfl
  | p + 1 => by
    unfold prv
    split
    · rename_i k
      exact Or.inr ⟨by omega, by simpa using k.2⟩
    · exact prv_is h lo b p
theorem prv_none (h : Nat → Nat) (lo b : Nat) : ∀ p q, prv h lo b p ≤ q → q < p → lo ≤ q → h q ≠ b
  | 0, q, _, h2, _ => by omega
  | p + 1, q, h1, h2, h3 => by
    unfold prv at h1
    split at h1
    · omega
    · rename_i k
      by_cases he : q = p
      · subst he
        intro h4
        exact k ⟨h3, h4⟩
      · exact prv_none h lo b p q h1 (by omega) h3
theorem prv_low (h : Nat → Nat) (lo b : Nat) : ∀ p, p ≤ lo → prv h lo b p = 0
  | 0, _ => rfl
  | p + 1, h1 => by
    unfold prv
    rw [if_neg (by omega)]
    exact prv_low h lo b p (by omega)
theorem prv_hit {h : Nat → Nat} {lo b p : Nat} (h1 : lo ≤ p) (h2 : h p = b) : prv h lo b (p + 1) = p + 1 := by
  conv => lhs; unfold prv
  rw [if_pos ⟨h1, h2⟩]
theorem prv_miss {h : Nat → Nat} {lo b p : Nat} (h2 : h p ≠ b) : prv h lo b (p + 1) = prv h lo b p := by
  conv => lhs; unfold prv
  rw [if_neg (fun k => h2 k.2)]
end M
