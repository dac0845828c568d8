/- Texts of the proof, put together: LMath, LPk, LPk2, LWld, LBuc, LChn, LZero, LCbe, LBst, LTok, LApp, LPck. -/
import Derived.Test.YtihokphamgkkcaaGreatRows
import Derived.WalkKit
import Derived.WalkSpells
import Derived.WalkLawsBesides
import Derived.WalkSmall
import Derived.Laws.ResultCell
import Derived.Deep.WholeRow
import Derived.Deep.Cut
import Derived.Deep.QuietTactic
import Derived.BigQuiet
import Derived.Deep.RegionHeld3
import Derived.Lib.AppendStr
import Derived.Deep.AppendLies
import Derived.Maps.AppendAt
import Derived.Lib.BufferRead
namespace Go.Proofs.YtihokphamgkkcaaGreat.Lz.M
def by_ (l : List UInt8) (i : Nat) : UInt8 := l.getD i 0
/-- How many bytes from b on, m at most, are those from a on. -/
def alk (l : List UInt8) : Nat → Nat → Nat → Nat
  | 0, _, _ => 0
  | m + 1, a, b => if by_ l a = by_ l b then alk l m (a + 1) (b + 1) + 1 else 0
theorem alk_le (l : List UInt8) : ∀ m a b, alk l m a b ≤ m
  | 0, _, _ => Nat.le_refl _
  | m + 1, a, b => by
    unfold alk
    split
    · have := alk_le l m (a + 1) (b + 1); omega
    · omega
theorem alk_eq (l : List UInt8) : ∀ m a b k, k < alk l m a b → by_ l (a + k) = by_ l (b + k)
  | 0, _, _, _, h => by simp [alk] at h
  | m + 1, a, b, k, h => by
    unfold alk at h
    split at h
    · rename_i he
      cases k with
      | zero => exact he
      | succ k =>
        have := alk_eq l m (a + 1) (b + 1) k (by omega)
        rw [show a + (k + 1) = a + 1 + k from by omega, show b + (k + 1) = b + 1 + k from by omega]
        exact this
    · omega
theorem alk_ne (l : List UInt8) : ∀ m a b, alk l m a b < m → by_ l (a + alk l m a b) ≠ by_ l (b + alk l m a b)
  | 0, _, _, h => by omega
  | m + 1, a, b, h => by
    unfold alk at h ⊢
    split
    · rename_i he
      rw [if_pos he] at h
      have := alk_ne l m (a + 1) (b + 1) (by omega)
      rw [show a + (alk l m (a + 1) (b + 1) + 1) = a + 1 + alk l m (a + 1) (b + 1) from by omega, show b + (alk l m (a + 1) (b + 1) + 1) = b + 1 + alk l m (a + 1) (b + 1) from by omega]
      exact this
    · rename_i he
      exact he
/-- As many as all agree, if there are so many. -/
theorem alk_ge {l : List UInt8} {m a b n : Nat} (hn : n ≤ m) (h : ∀ k, k < n → by_ l (a + k) = by_ l (b + k)) : n ≤ alk l m a b := by
  rcases Nat.lt_or_ge (alk l m a b) n with h1 | h1
  · exact absurd (h _ h1) (alk_ne l m a b (by omega))
  · exact h1
theorem alk_is {l : List UInt8} {m a b n : Nat} (hn : n ≤ m) (h : ∀ k, k < n → by_ l (a + k) = by_ l (b + k)) (he : n < m → by_ l (a + n) ≠ by_ l (b + n)) : alk l m a b = n := by
  have h1 := alk_ge hn h
  rcases Nat.lt_or_ge n (alk l m a b) with h2 | h2
  · have := alk_le l m a b
    exact absurd (alk_eq l m a b n h2) (he (by omega))
  · omega
/-- A byte that differs: no more than so many. -/
theorem alk_lt {l : List UInt8} {m a b n : Nat} (h : by_ l (a + n) ≠ by_ l (b + n)) : alk l m a b ≤ n := by
  rcases Nat.lt_or_ge n (alk l m a b) with h2 | h2
  · exact absurd (alk_eq l m a b n h2) h
  · exact h2
/-- The best of the distances 1 to D that is longer than z bytes. -/
def bs (l : List UInt8) (z at' m : Nat) : Nat → Nat × Nat
  | 0 => (0, 0)
  | d + 1 => if max (bs l z at' m d).1 z < alk l m (at' - (d + 1)) at' then (alk l m (at' - (d + 1)) at', d + 1) else bs l z at' m d
theorem bs_le (l : List UInt8) (z at' m : Nat) : ∀ D, (bs l z at' m D).1 ≤ m ∧ (bs l z at' m D).2 ≤ D
  | 0 => by simp [bs]
  | d + 1 => by
    have := bs_le l z at' m d
    unfold bs
    split
    · exact ⟨alk_le _ _ _ _, by simp⟩
    · exact ⟨this.1, by omega⟩
/-- Either nothing, or a match. -/
theorem bs_is (l : List UInt8) (z at' m : Nat) : ∀ D, bs l z at' m D = (0, 0) ∨ (z < (bs l z at' m D).1 ∧ 1 ≤ (bs l z at' m D).2 ∧ alk l m (at' - (bs l z at' m D).2) at' = (bs l z at' m D).1)
  | 0 => Or.inl rfl
  | d + 1 => by
    have := bs_is l z at' m d
    unfold bs
    split
    · rename_i h
      exact Or.inr ⟨by omega, by simp, rfl⟩
    · exact this
theorem bs_ge (l : List UInt8) (z at' m : Nat) : ∀ D d, 1 ≤ d → d ≤ D → alk l m (at' - d) at' ≤ max (bs l z at' m D).1 z
  | 0, d, h1, h2 => by omega
  | D + 1, d, h1, h2 => by
    unfold bs
    by_cases he : d = D + 1
    · subst he
      split
      · omega
      · omega
    · have := bs_ge l z at' m D d h1 (by omega)
      split
      · omega
      · exact this
/-- Nearer ones are all shorter. -/
theorem bs_near (l : List UInt8) (z at' m : Nat) : ∀ D d, 1 ≤ d → d < (bs l z at' m D).2 → alk l m (at' - d) at' < (bs l z at' m D).1
  | 0, d, h1, h2 => by simp [bs] at h2
  | D + 1, d, h1, h2 => by
    unfold bs at h2 ⊢
    split
    · rename_i h
      rw [if_pos h] at h2
      have := bs_ge l z at' m D d h1 (by omega)
      have h3 : (alk l m (at' - (D + 1)) at', D + 1).fst = alk l m (at' - (D + 1)) at' := rfl
      omega
    · rename_i h
      rw [if_neg h] at h2
      exact bs_near l z at' m D d h1 h2
/-- Distances that bring nothing longer are passed over. -/
theorem bs_skip {l : List UInt8} {z at' m : Nat} : ∀ {D E : Nat}, D ≤ E → (∀ d, D < d → d ≤ E → alk l m (at' - d) at' ≤ max (bs l z at' m D).1 z) → bs l z at' m E = bs l z at' m D
  | D, 0, h, _ => by
    obtain rfl : D = 0 := by omega
    rfl
  | D, E + 1, h, k => by
    by_cases he : D = E + 1
    · rw [he]
    · have ih := bs_skip (D := D) (E := E) (by omega) (fun d h1 h2 => k d h1 (by omega))
      have h1 := k (E + 1) (by omega) (by omega)
      rw [← ih] at h1
      rw [← ih]
      conv => lhs; unfold bs
      rw [if_neg (by omega)]
theorem bs_take {l : List UInt8} {z at' m d n : Nat} (h : alk l m (at' - (d + 1)) at' = n) (hn : max (bs l z at' m d).1 z < n) : bs l z at' m (d + 1) = (n, d + 1) := by
  conv => lhs; unfold bs
  rw [h, if_pos hn]
/-- With a threshold, and without it. -/
theorem bs_zero (l : List UInt8) (z at' m : Nat) : ∀ D, bs l z at' m D = if z < (bs l 0 at' m D).1 then bs l 0 at' m D else (0, 0)
  | 0 => by simp [bs]
  | D + 1 => by
    have ih := bs_zero l z at' m D
    have e1 : bs l z at' m (D + 1) = if max (bs l z at' m D).1 z < alk l m (at' - (D + 1)) at' then (alk l m (at' - (D + 1)) at', D + 1) else bs l z at' m D := rfl
    have e2 : bs l 0 at' m (D + 1) = if max (bs l 0 at' m D).1 0 < alk l m (at' - (D + 1)) at' then (alk l m (at' - (D + 1)) at', D + 1) else bs l 0 at' m D := rfl
    rw [e1, e2]
    rw [ih]
    generalize bs l 0 at' m D = r at *
    generalize alk l m (at' - (D + 1)) at' = n at *
    by_cases h2 : r.1 < n
    · rw [if_pos (show max r.1 0 < n by omega)]
      by_cases h1 : z < r.1
      · rw [if_pos h1, if_pos (show max r.1 z < n by omega), if_pos (show z < (n, D + 1).1 by show z < n; omega)]
      · rw [if_neg h1]
        by_cases h3 : z < n
        · rw [if_pos (show max (0, 0).1 z < n by show max 0 z < n; omega), if_pos (show z < (n, D + 1).1 from h3)]
        · rw [if_neg (show ¬ max (0, 0).1 z < n by show ¬ max 0 z < n; omega), if_neg (show ¬ z < (n, D + 1).1 from h3)]
    · rw [if_neg (show ¬ max r.1 0 < n by omega)]
      by_cases h1 : z < r.1
      · rw [if_pos h1, if_neg (show ¬ max r.1 z < n by omega)]
      · rw [if_neg h1, if_neg (show ¬ max (0, 0).1 z < n by show ¬ max 0 z < n; omega)]
def most (l : List UInt8) (at' : Nat) : Nat := min (l.length - at') 131
def best (l : List UInt8) (at' : Nat) : Nat × Nat := bs l 3 at' (most l at') (min at' 8192)
theorem best_end {l : List UInt8} {at' : Nat} (h : l.length ≤ at' + 3) : best l at' = (0, 0) := by
  rcases bs_is l 3 at' (most l at') (min at' 8192) with h1 | h1
  · exact h1
  · have := (bs_le l 3 at' (most l at') (min at' 8192)).1
    unfold most at this h1
    omega
theorem best_le (l : List UInt8) (at' : Nat) : (best l at').1 ≤ l.length - at' ∧ (best l at').1 ≤ 131 ∧ (best l at').2 ≤ at' ∧ (best l at').2 ≤ 8192 := by
  have := bs_le l 3 at' (most l at') (min at' 8192)
  unfold best
  have h2 : most l at' ≤ l.length - at' ∧ most l at' ≤ 131 := by unfold most; omega
  omega
theorem best_is (l : List UInt8) (at' : Nat) : best l at' = (0, 0) ∨ (4 ≤ (best l at').1 ∧ 1 ≤ (best l at').2 ∧ alk l (most l at') (at' - (best l at').2) at' = (best l at').1) := bs_is l 3 at' (most l at') (min at' 8192)
/-- The place behind the last one ahead of p, from lo on, whose bucket is b; 0, if there is none. -/
def prv (h : Nat → Nat) (lo b : Nat) : Nat → Nat
  | 0 => 0
  | p + 1 => if lo ≤ p ∧ h p = b then p + 1 else prv h lo b p
theorem prv_le (h : Nat → Nat) (lo b : Nat) : ∀ p, prv h lo b p ≤ p
  | 0 => Nat.le_refl _
  | p + 1 => by
    unfold prv
    split
    · omega
    · have := prv_le h lo b p; omega
theorem prv_is (h : Nat → Nat) (lo b : Nat) : ∀ p, prv h lo b p = 0 ∨ (lo < prv h lo b p ∧ h (prv h lo b p - 1) = b)
  | 0 => Or.inl rfl
  | p + 1 => by
    unfold prv
    split
    · rename_i k
      exact Or.inr ⟨by omega, by simpa using k.2⟩
    · exact prv_is h lo b p
theorem prv_none (h : Nat → Nat) (lo b : Nat) : ∀ p q, prv h lo b p ≤ q → q < p → lo ≤ q → h q ≠ b
  | 0, q, _, h2, _ => by omega
  | p + 1, q, h1, h2, h3 => by
    unfold prv at h1
    split at h1
    · omega
    · rename_i k
      by_cases he : q = p
      · subst he
        intro h4
        exact k ⟨h3, h4⟩
      · exact prv_none h lo b p q h1 (by omega) h3
theorem prv_low (h : Nat → Nat) (lo b : Nat) : ∀ p, p ≤ lo → prv h lo b p = 0
  | 0, _ => rfl
  | p + 1, h1 => by
    unfold prv
    rw [if_neg (by omega)]
    exact prv_low h lo b p (by omega)
theorem prv_hit {h : Nat → Nat} {lo b p : Nat} (h1 : lo ≤ p) (h2 : h p = b) : prv h lo b (p + 1) = p + 1 := by
  conv => lhs; unfold prv
  rw [if_pos ⟨h1, h2⟩]
theorem prv_miss {h : Nat → Nat} {lo b p : Nat} (h2 : h p ≠ b) : prv h lo b (p + 1) = prv h lo b p := by
  conv => lhs; unfold prv
  rw [if_neg (fun k => h2 k.2)]
end Go.Proofs.YtihokphamgkkcaaGreat.Lz.M
namespace Go.Proofs.YtihokphamgkkcaaGreat.Lz.M
inductive Tok where
  | lit (s : List UInt8)
  | mat (n d : Nat)
def Tok.ok : Tok → Prop
  | .lit s => 1 ≤ s.length ∧ s.length ≤ 128
  | .mat n d => 4 ≤ n ∧ n ≤ 131 ∧ 1 ≤ d ∧ d ≤ 8192
def Tok.bytes : Tok → List UInt8
  | .lit s => UInt8.ofNat (s.length - 1) :: s
  | .mat n d => [UInt8.ofNat (n + 124), UInt8.ofNat (d / 256), UInt8.ofNat (d % 256)]
def Tok.lits : Tok → List UInt8
  | .lit s => s
  | .mat _ _ => []
def Tok.len : Tok → Nat
  | .lit _ => 0
  | .mat n _ => n
def Tok.dist : Tok → Nat
  | .lit _ => 0
  | .mat _ d => d
def Tok.count (t : Tok) : Nat := t.lits.length + t.len
def bytesOf (ts : List Tok) : List UInt8 := ts.flatMap Tok.bytes
theorem bytesOf_nil : bytesOf [] = [] := rfl
theorem bytesOf_cons (t : Tok) (ts : List Tok) : bytesOf (t :: ts) = t.bytes ++ bytesOf ts := rfl
theorem bytesOf_append (a b : List Tok) : bytesOf (a ++ b) = bytesOf a ++ bytesOf b := by simp [bytesOf]
/-- Literals in tokens of at most 128. -/
def runF : Nat → List UInt8 → List Tok
  | 0, _ => []
  | f + 1, l => if l.length = 0 then [] else Tok.lit (l.take 128) :: runF f (l.drop 128)
theorem runF_eq : ∀ (f g : Nat) (l : List UInt8), l.length ≤ f → l.length ≤ g → runF f l = runF g l
  | 0, 0, _, _, _ => rfl
  | 0, g + 1, l, h, _ => by
    have : l.length = 0 := by omega
    simp [runF, this]
  | f + 1, 0, l, _, h => by
    have : l.length = 0 := by omega
    simp [runF, this]
  | f + 1, g + 1, l, h1, h2 => by
    unfold runF
    split
    · rfl
    · rw [runF_eq f g (l.drop 128) (by simp; omega) (by simp; omega)]
def runs (l : List UInt8) : List Tok := runF l.length l
theorem runs_nil : runs [] = [] := rfl
theorem runs_step {l : List UInt8} (h : l.length ≠ 0) : runs l = Tok.lit (l.take 128) :: runs (l.drop 128) := by
  unfold runs
  obtain ⟨n, hn⟩ : ∃ n, l.length = n + 1 := ⟨l.length - 1, by omega⟩
  rw [hn]
  conv => lhs; unfold runF
  rw [if_neg h, runF_eq n (l.drop 128).length (l.drop 128) (by simp; omega) (Nat.le_refl _)]
theorem runs_ind {P : List UInt8 → Prop} (h0 : P []) (h1 : ∀ l : List UInt8, l.length ≠ 0 → P (l.drop 128) → P l) : ∀ l, P l := by
  intro l
  generalize hn : l.length = n
  induction n using Nat.strongRecOn generalizing l with
  | ind n ih =>
    by_cases h : l.length = 0
    · rw [List.eq_nil_of_length_eq_zero h]; exact h0
    · exact h1 l h (ih (l.drop 128).length (by simp; omega) _ rfl)
theorem runs_ok : ∀ l : List UInt8, ∀ t ∈ runs l, t.ok := by
  refine runs_ind ?_ ?_
  · intro t h; simp [runs_nil] at h
  · intro l hl ih t ht
    rw [runs_step hl] at ht
    rcases List.mem_cons.1 ht with h | h
    · subst h
      simp [Tok.ok]
      omega
    · exact ih t h
theorem runs_size : ∀ l : List UInt8, (bytesOf (runs l)).length = l.length + (l.length + 127) / 128 := by
  refine runs_ind rfl ?_
  intro l hl ih
  rw [runs_step hl, bytesOf_cons, List.length_append, ih]
  simp [Tok.bytes]
  omega
/-- Packing: the tokens from the place at on, where the literals from fr on wait. -/
def pkF (l : List UInt8) : Nat → Nat → Nat → List Tok
  | 0, fr, _ => runs (l.drop fr)
  | f + 1, fr, at' =>
    if at' < l.length then
      if (best l at').1 = 0 then pkF l f fr (at' + 1)
      else runs ((l.take at').drop fr) ++ Tok.mat (best l at').1 (best l at').2 :: pkF l f (at' + (best l at').1) (at' + (best l at').1)
    else runs (l.drop fr)
theorem pkF_eq (l : List UInt8) : ∀ (f g fr at' : Nat), l.length ≤ at' + f → l.length ≤ at' + g → pkF l f fr at' = pkF l g fr at'
  | 0, 0, _, _, _, _ => rfl
  | 0, g + 1, fr, at', h, _ => by
    simp only [pkF]
    rw [if_neg (by omega)]
  | f + 1, 0, fr, at', _, h => by
    simp only [pkF]
    rw [if_neg (by omega)]
  | f + 1, g + 1, fr, at', h1, h2 => by
    simp only [pkF]
    split
    · split
      · exact pkF_eq l f g fr (at' + 1) (by omega) (by omega)
      · rename_i hn
        rw [pkF_eq l f g (at' + (best l at').1) (at' + (best l at').1) (by omega) (by omega)]
    · rfl
def pk (l : List UInt8) (fr at' : Nat) : List Tok := pkF l (l.length - at') fr at'
theorem pk_end {l : List UInt8} {fr at' : Nat} (h : l.length ≤ at') : pk l fr at' = runs (l.drop fr) := by
  unfold pk
  rw [show l.length - at' = 0 from by omega]
  rfl
theorem pk_lit {l : List UInt8} {fr at' : Nat} (h : at' < l.length) (hb : (best l at').1 = 0) : pk l fr at' = pk l fr (at' + 1) := by
  unfold pk
  rw [show l.length - at' = (l.length - (at' + 1)) + 1 from by omega]
  conv => lhs; unfold pkF
  rw [if_pos h, if_pos hb]
theorem pk_mat {l : List UInt8} {fr at' : Nat} (h : at' < l.length) (hb : (best l at').1 ≠ 0) : pk l fr at' = runs ((l.take at').drop fr) ++ Tok.mat (best l at').1 (best l at').2 :: pk l (at' + (best l at').1) (at' + (best l at').1) := by
  unfold pk
  rw [show l.length - at' = (l.length - (at' + 1)) + 1 from by omega]
  conv => lhs; unfold pkF
  rw [if_pos h, if_neg hb]
  rw [pkF_eq l (l.length - (at' + 1)) (l.length - (at' + (best l at').1)) _ _ (by omega) (by omega)]
def packT (l : List UInt8) : List Tok := pk l 0 0
def pack (l : List UInt8) : List UInt8 := bytesOf (packT l)
/-- An induction along packing. -/
theorem pk_ind {l : List UInt8} {P : Nat → Nat → Prop} (h0 : ∀ fr at', fr ≤ at' → l.length ≤ at' → P fr at')
    (h1 : ∀ fr at', fr ≤ at' → at' < l.length → (best l at').1 = 0 → P fr (at' + 1) → P fr at')
    (h2 : ∀ fr at', fr ≤ at' → at' < l.length → (best l at').1 ≠ 0 → P (at' + (best l at').1) (at' + (best l at').1) → P fr at') : ∀ fr at', fr ≤ at' → P fr at' := by
  intro fr at' hf
  generalize hn : l.length - at' = n
  induction n using Nat.strongRecOn generalizing fr at' with
  | ind n ih =>
    by_cases h : at' < l.length
    · by_cases hb : (best l at').1 = 0
      · exact h1 fr at' hf h hb (ih (l.length - (at' + 1)) (by omega) fr (at' + 1) (by omega) rfl)
      · exact h2 fr at' hf h hb (ih (l.length - (at' + (best l at').1)) (by omega) _ _ (Nat.le_refl _) rfl)
    · exact h0 fr at' hf (by omega)
theorem best_some {l : List UInt8} {at' : Nat} (h : (best l at').1 ≠ 0) : 4 ≤ (best l at').1 ∧ 1 ≤ (best l at').2 ∧ alk l (most l at') (at' - (best l at').2) at' = (best l at').1 := by
  rcases best_is l at' with h1 | h1
  · rw [h1] at h; exact absurd rfl h
  · exact h1
theorem pk_ok {l : List UInt8} : ∀ fr at', fr ≤ at' → ∀ t ∈ pk l fr at', t.ok := by
  refine pk_ind (l := l) ?_ ?_ ?_
  · intro fr at' _ h
    rw [pk_end h]; exact runs_ok _
  · intro fr at' _ h hb ih
    rw [pk_lit h hb]; exact ih
  · intro fr at' _ h hb ih t ht
    rw [pk_mat h hb] at ht
    have h1 := best_some hb
    have h2 := best_le l at'
    rcases List.mem_append.1 ht with h3 | h3
    · exact runs_ok _ t h3
    · rcases List.mem_cons.1 h3 with h4 | h4
      · subst h4
        exact ⟨h1.1, h2.2.1, h1.2.1, h2.2.2.2⟩
      · exact ih t h4
theorem pk_size {l : List UInt8} : ∀ fr at', fr ≤ at' → at' ≤ l.length → (bytesOf (pk l fr at')).length ≤ (l.length - fr) + (l.length - fr + 127) / 128 := by
  refine pk_ind (l := l) ?_ ?_ ?_
  · intro fr at' hf h _
    rw [pk_end h, runs_size]
    simp
  · intro fr at' hf h hb ih _
    rw [pk_lit h hb]; exact ih (by omega)
  · intro fr at' hf h hb ih _
    have h1 := best_some hb
    have h2 := best_le l at'
    have h3 := ih (by omega)
    rw [pk_mat h hb, bytesOf_append, List.length_append, runs_size, bytesOf_cons, List.length_append]
    simp only [Tok.bytes, List.length_cons, List.length_nil, List.length_drop, List.length_take]
    generalize (bytesOf (pk l (at' + (best l at').fst) (at' + (best l at').fst))).length = Z at *
    rw [show min at' l.length = at' from by omega]
    omega
theorem pack_size (l : List UInt8) : (pack l).length ≤ l.length + (l.length + 127) / 128 := pk_size 0 0 (Nat.le_refl _) (Nat.zero_le _)
/-- The first token of bytes that are not none, and how many bytes it has. -/
def fst' (p : List UInt8) : Except Nat (Tok × Nat) :=
  let c := (by_ p 0).toNat
  if c < 128 then if p.length < c + 2 then .error 20 else .ok (.lit ((p.drop 1).take (c + 1)), c + 2)
  else if p.length < 3 then .error 20
  else let d := (by_ p 1).toNat * 256 + (by_ p 2).toNat
    if d = 0 ∨ 8192 < d then .error 25 else .ok (.mat (c - 124) d, 3)
theorem u8_of {n : Nat} (h : n < 256) : (UInt8.ofNat n).toNat = n := by rw [UInt8.toNat_ofNat']; omega
/-- A token is read from its bytes, whatever stands behind them. -/
theorem fst_bytes {t : Tok} (h : t.ok) (p : List UInt8) : fst' (t.bytes ++ p) = .ok (t, t.bytes.length) := by
  cases t with
  | lit s =>
    obtain ⟨h1, h2⟩ := h
    unfold fst'
    have e0 : (by_ ((Tok.lit s).bytes ++ p) 0).toNat = s.length - 1 := by
      show (UInt8.ofNat (s.length - 1)).toNat = _
      exact u8_of (by omega)
    simp only [e0]
    rw [if_pos (by omega), if_neg (by simp [Tok.bytes]; omega)]
    have e3 : (((Tok.lit s).bytes ++ p).drop 1).take (s.length - 1 + 1) = s := by
      simp only [Tok.bytes, List.cons_append, List.drop_succ_cons, List.drop_zero]
      rw [show s.length - 1 + 1 = s.length from by omega, List.take_left]
    have e4 : s.length - 1 + 2 = (Tok.lit s).bytes.length := by simp [Tok.bytes]; omega
    rw [e3, e4]
  | mat n d =>
    obtain ⟨h1, h2, h3, h4⟩ := h
    unfold fst'
    have e0 : (by_ ((Tok.mat n d).bytes ++ p) 0).toNat = n + 124 := by
      show (UInt8.ofNat (n + 124)).toNat = _
      exact u8_of (by omega)
    have e1 : (by_ ((Tok.mat n d).bytes ++ p) 1).toNat = d / 256 := by
      show (UInt8.ofNat (d / 256)).toNat = _
      exact u8_of (by omega)
    have e2 : (by_ ((Tok.mat n d).bytes ++ p) 2).toNat = d % 256 := by
      show (UInt8.ofNat (d % 256)).toNat = _
      exact u8_of (by omega)
    simp only [e0, e1, e2]
    rw [if_neg (by omega), if_neg (by simp [Tok.bytes]), if_neg (by omega)]
    have e3 : n + 124 - 124 = n := by omega
    have e4 : d / 256 * 256 + d % 256 = d := by omega
    rw [e3, e4]
    rfl
/-- What is read is right, and has at least two bytes. -/
theorem fst_ok {p : List UInt8} {t : Tok} {n : Nat} (hp : p.length ≠ 0) (h : fst' p = .ok (t, n)) : t.ok ∧ 2 ≤ n ∧ n ≤ p.length ∧ t.bytes.length = n ∧ p = t.bytes ++ p.drop n := by
  unfold fst' at h
  have hb := (by_ p 0).toNat_lt
  have hb1 := (by_ p 1).toNat_lt
  have hb2 := (by_ p 2).toNat_lt
  simp only at h
  split at h
  · rename_i hc
    split at h
    · cases h
    · rename_i hl
      injection h with h
      injection h with h1 h2
      subst h1 h2
      have hlen : ((p.drop 1).take ((by_ p 0).toNat + 1)).length = (by_ p 0).toNat + 1 := by simp; omega
      refine ⟨⟨by rw [hlen]; omega, by rw [hlen]; omega⟩, by omega, by omega, by simp only [Tok.bytes, List.length_cons, hlen], ?_⟩
      simp only [Tok.bytes, hlen]
      cases p with
      | nil => simp at hp
      | cons c q =>
        have e0 : by_ (c :: q) 0 = c := rfl
        rw [e0]
        simp
  · rename_i hc
    split at h
    · cases h
    · rename_i hl
      split at h
      · cases h
      · rename_i hd
        injection h with h
        injection h with h1 h2
        subst h1 h2
        refine ⟨⟨by omega, by omega, by omega, by omega⟩, by omega, by omega, rfl, ?_⟩
        obtain ⟨a, b, c, q, rfl⟩ : ∃ a b c q, p = a :: b :: c :: q := by
          rcases p with _ | ⟨a, _ | ⟨b, _ | ⟨c, q⟩⟩⟩
          · exact absurd rfl hp
          · exact absurd (by decide : 1 < 3) hl
          · exact absurd (by decide : 2 < 3) hl
          · exact ⟨a, b, c, q, rfl⟩
        · have e0 : by_ (a :: b :: c :: q) 0 = a := rfl
          have e1 : by_ (a :: b :: c :: q) 1 = b := rfl
          have e2 : by_ (a :: b :: c :: q) 2 = c := rfl
          rw [e0] at hc hb
          rw [e1] at hb1
          rw [e2] at hb2
          rw [e0, e1, e2]
          clear e0 e1 e2
          simp only [Tok.bytes, List.drop_succ_cons, List.drop_zero, List.cons_append, List.nil_append]
          have f0 : UInt8.ofNat (a.toNat - 124 + 124) = a := by
            apply UInt8.toNat_inj.1
            rw [u8_of (by omega)]; omega
          have f1 : UInt8.ofNat ((b.toNat * 256 + c.toNat) / 256) = b := by
            apply UInt8.toNat_inj.1
            rw [u8_of (by omega)]; omega
          have f2 : UInt8.ofNat ((b.toNat * 256 + c.toNat) % 256) = c := by
            apply UInt8.toNat_inj.1
            rw [u8_of (by omega)]; omega
          rw [f0, f1, f2]
/-- Copied one by one from a distance. -/
def cpy (d : Nat) : Nat → List UInt8 → List UInt8
  | 0, out => out
  | n + 1, out => cpy d n (out ++ [by_ out (out.length - d)])
theorem cpy_len (d : Nat) : ∀ n out, (cpy d n out).length = out.length + n
  | 0, _ => rfl
  | n + 1, out => by unfold cpy; rw [cpy_len]; simp; omega
def app (out : List UInt8) (t : Tok) : List UInt8 := cpy t.dist t.len (out ++ t.lits)
theorem app_len (out : List UInt8) (t : Tok) : (app out t).length = out.length + t.count := by
  unfold app Tok.count; rw [cpy_len]; simp; omega
/-- Unpacking: the bytes p, behind out; an error's number, or all bytes. -/
def unF (len : Nat) : Nat → List UInt8 → List UInt8 → Except Nat (List UInt8)
  | 0, _, out => if out.length < len then .error 20 else .ok out
  | f + 1, p, out =>
    if p.length = 0 then (if out.length < len then .error 20 else .ok out) else
    match fst' p with
    | .error e => .error e
    | .ok (t, n) => if out.length < t.dist then .error 25 else if len - out.length < t.count then .error 22 else unF len f (p.drop n) (app out t)
def un (len : Nat) (p out : List UInt8) : Except Nat (List UInt8) := unF len p.length p out
theorem unF_eq (len : Nat) : ∀ (f g : Nat) (p out : List UInt8), p.length ≤ f → p.length ≤ g → unF len f p out = unF len g p out
  | 0, 0, _, _, _, _ => rfl
  | 0, g + 1, p, out, h, _ => by
    have h0 : p.length = 0 := by omega
    simp only [unF, h0, if_true]
  | f + 1, 0, p, out, _, h => by
    have h0 : p.length = 0 := by omega
    simp only [unF, h0, if_true]
  | f + 1, g + 1, p, out, h1, h2 => by
    simp only [unF]
    split
    · rfl
    · rename_i hp
      split
      · rfl
      · rename_i t n he
        have := fst_ok hp he
        rw [unF_eq len f g (p.drop n) (app out t) (by simp; omega) (by simp; omega)]
theorem un_nil (len : Nat) (out : List UInt8) : un len [] out = if out.length < len then .error 20 else .ok out := rfl
theorem un_step {len : Nat} {p out : List UInt8} (hp : p.length ≠ 0) : un len p out = match fst' p with
    | .error e => .error e
    | .ok (t, n) => if out.length < t.dist then .error 25 else if len - out.length < t.count then .error 22 else un len (p.drop n) (app out t) := by
  unfold un
  obtain ⟨n, hn⟩ : ∃ n, p.length = n + 1 := ⟨p.length - 1, by omega⟩
  rw [hn]
  conv => lhs; unfold unF
  rw [if_neg hp]
  split
  · rfl
  · rename_i t k he
    have := fst_ok hp he
    rw [unF_eq len n (p.drop k).length (p.drop k) (app out t) (by simp; omega) (Nat.le_refl _)]
end Go.Proofs.YtihokphamgkkcaaGreat.Lz.M
namespace Go.Proofs.YtihokphamgkkcaaGreat.Lz.M
def goT (len : Nat) : List Tok → List UInt8 → Except Nat (List UInt8)
  | [], out => if out.length < len then .error 20 else .ok out
  | t :: ts, out => if out.length < t.dist then .error 25 else if len - out.length < t.count then .error 22 else goT len ts (app out t)
theorem bytes_pos (t : Tok) : t.bytes.length ≠ 0 := by cases t <;> simp [Tok.bytes]
theorem un_goT (len : Nat) : ∀ (ts : List Tok) (out : List UInt8), (∀ t ∈ ts, t.ok) → un len (bytesOf ts) out = goT len ts out
  | [], out, _ => rfl
  | t :: ts, out, h => by
    have ht := h t (List.mem_cons_self ..)
    have hp : (bytesOf (t :: ts)).length ≠ 0 := by
      rw [bytesOf_cons, List.length_append]
      have := bytes_pos t
      omega
    rw [un_step hp, bytesOf_cons, fst_bytes ht]
    simp only [goT]
    rw [List.drop_left, un_goT len ts (app out t) (fun u hu => h u (List.mem_cons_of_mem _ hu))]
/-- The tokens ts tell the bytes of l from k on. -/
inductive Tl (l : List UInt8) : Nat → List Tok → Prop
  | nil : Tl l l.length []
  | cons {k t ts} (h1 : t.dist ≤ k) (h2 : k + t.count ≤ l.length) (h3 : app (l.take k) t = l.take (k + t.count)) (h4 : Tl l (k + t.count) ts) : Tl l k (t :: ts)
theorem Tl.le {l : List UInt8} {k : Nat} {ts : List Tok} (h : Tl l k ts) : k ≤ l.length := by
  cases h with
  | nil => exact Nat.le_refl _
  | cons h1 h2 h3 h4 => omega
theorem Tl.full {l : List UInt8} {k : Nat} {ts : List Tok} (h : Tl l k ts) : goT l.length ts (l.take k) = .ok l := by
  induction h with
  | nil => simp [goT]
  | @cons k t ts h1 h2 h3 h4 ih =>
    have hk : (l.take k).length = k := by simp; omega
    simp only [goT]
    rw [hk, if_neg (by omega), if_neg (by omega), h3, ih]
theorem Tl.long {l : List UInt8} {k len : Nat} {ts : List Tok} (h : Tl l k ts) (hl : l.length < len) : goT len ts (l.take k) = .error 20 := by
  induction h with
  | nil => simp [goT, hl]
  | @cons k t ts h1 h2 h3 h4 ih =>
    have hk : (l.take k).length = k := by simp; omega
    simp only [goT]
    rw [hk, if_neg (by omega), if_neg (by omega), h3, ih]
theorem Tl.short {l : List UInt8} {k len : Nat} {ts : List Tok} (h : Tl l k ts) (hl : len < l.length) (hk : k ≤ len) : goT len ts (l.take k) = .error 22 := by
  induction h with
  | nil => omega
  | @cons k t ts h1 h2 h3 h4 ih =>
    have hk' : (l.take k).length = k := by simp; omega
    simp only [goT]
    rw [hk', if_neg (by omega)]
    by_cases hc : len - k < t.count
    · rw [if_pos hc]
    · rw [if_neg hc, h3, ih (by omega)]
theorem by_take {l : List UInt8} {k i : Nat} (h : i < k) : by_ (l.take k) i = by_ l i := by
  unfold by_
  simp only [List.getD_eq_getElem?_getD]
  rw [List.getElem?_take_of_lt h]
theorem take_snoc {l : List UInt8} {k : Nat} (h : k < l.length) : l.take k ++ [by_ l k] = l.take (k + 1) := by
  rw [List.take_succ_eq_append_getElem h]
  unfold by_
  rw [List.getD_eq_getElem?_getD, List.getElem?_eq_getElem h]
  rfl
theorem cpy_take {l : List UInt8} {d : Nat} (hd : 1 ≤ d) : ∀ n k, d ≤ k → k + n ≤ l.length → (∀ j, j < n → by_ l (k - d + j) = by_ l (k + j)) → cpy d n (l.take k) = l.take (k + n)
  | 0, k, _, _, _ => rfl
  | n + 1, k, h1, h2, h3 => by
    have hk : (l.take k).length = k := by simp; omega
    unfold cpy
    rw [hk, by_take (by omega)]
    have h0 := h3 0 (by omega)
    rw [Nat.add_zero, Nat.add_zero] at h0
    rw [h0, take_snoc (by omega)]
    rw [cpy_take hd n (k + 1) (by omega) (by omega) ?_]
    · congr 1; omega
    · intro j hj
      have := h3 (j + 1) (by omega)
      rw [show k + 1 - d + j = k - d + (j + 1) from by omega, show k + 1 + j = k + (j + 1) from by omega]
      exact this
theorem Tl.runs {l : List UInt8} {e : Nat} {ts : List Tok} (he : e ≤ l.length) (h : Tl l e ts) : ∀ (n fr : Nat), fr + n = e → Tl l fr (runs ((l.take e).drop fr) ++ ts) := by
  intro n
  induction n using Nat.strongRecOn with
  | ind n ih =>
    intro fr hn
    have hl : ((l.take e).drop fr).length = n := by simp; omega
    by_cases h0 : n = 0
    · subst h0
      rw [List.eq_nil_of_length_eq_zero hl, runs_nil]
      obtain rfl : fr = e := by omega
      exact h
    · rw [runs_step (by omega), List.cons_append]
      have hc : (Tok.lit (((l.take e).drop fr).take 128)).count = min 128 n := by simp [Tok.count, Tok.lits, Tok.len]; omega
      refine Tl.cons (by simp [Tok.dist]) (by rw [hc]; omega) ?_ ?_
      · rw [hc]
        simp only [app, Tok.dist, Tok.len, Tok.lits, cpy]
        rw [List.take_drop]
        have h5 : (l.take e).take (fr + 128) = l.take (fr + min 128 n) := by
          rw [List.take_take]
          congr 1
          omega
        rw [h5]
        have h6 : l.take fr = (l.take (fr + min 128 n)).take fr := by
          rw [List.take_take]
          congr 1
          omega
        rw [h6, List.take_append_drop]
      · rw [hc, List.drop_drop]
        by_cases hs : n ≤ 128
        · have h7 : List.drop (fr + 128) (l.take e) = List.drop (fr + min 128 n) (l.take e) := by
            rw [List.drop_eq_nil_of_le (by simp; omega), List.drop_eq_nil_of_le (by simp; omega)]
          rw [h7]
          exact ih (n - min 128 n) (by omega) (fr + min 128 n) (by omega)
        · rw [show min 128 n = 128 from by omega]
          exact ih (n - 128) (by omega) (fr + 128) (by omega)
theorem Tl.pk {l : List UInt8} : ∀ fr at', fr ≤ at' → at' ≤ l.length → Tl l fr (pk l fr at') := by
  refine pk_ind (l := l) ?_ ?_ ?_
  · intro fr at' hf h h'
    rw [pk_end h]
    have := Tl.runs (l := l) (e := l.length) (ts := []) (Nat.le_refl _) .nil (l.length - fr) fr (by omega)
    simpa using this
  · intro fr at' hf h hb ih h'
    rw [pk_lit h hb]
    exact ih (by omega)
  · intro fr at' hf h hb ih h'
    have h1 := best_some hb
    have h2 := best_le l at'
    rw [pk_mat h hb]
    refine Tl.runs (by omega) ?_ (at' - fr) fr (by omega)
    have hc : (Tok.mat (best l at').1 (best l at').2).count = (best l at').1 := by simp [Tok.count, Tok.lits, Tok.len]
    refine Tl.cons (by simp only [Tok.dist]; omega) (by rw [hc]; omega) ?_ ?_
    · rw [hc]
      simp only [app, Tok.dist, Tok.len, Tok.lits, List.append_nil]
      refine cpy_take h1.2.1 _ _ (by omega) (by omega) ?_
      intro j hj
      exact alk_eq l (most l at') _ _ j (by rw [h1.2.2]; exact hj)
    · rw [hc]
      exact ih (by omega)
theorem un_pack (l : List UInt8) : un l.length (pack l) [] = .ok l := by
  unfold pack packT
  rw [un_goT _ _ _ (pk_ok 0 0 (Nat.le_refl _))]
  exact (Tl.pk 0 0 (Nat.le_refl _) (Nat.zero_le _)).full
theorem un_pack_long {l : List UInt8} {len : Nat} (h : l.length < len) : un len (pack l) [] = .error 20 := by
  unfold pack packT
  rw [un_goT _ _ _ (pk_ok 0 0 (Nat.le_refl _))]
  exact (Tl.pk 0 0 (Nat.le_refl _) (Nat.zero_le _)).long h
theorem un_pack_short {l : List UInt8} {len : Nat} (h : len < l.length) : un len (pack l) [] = .error 22 := by
  unfold pack packT
  rw [un_goT _ _ _ (pk_ok 0 0 (Nat.le_refl _))]
  exact (Tl.pk 0 0 (Nat.le_refl _) (Nat.zero_le _)).short h (Nat.zero_le _)
theorem pack_some {l : List UInt8} (h : l.length ≠ 0) : pack l ≠ [] := by
  intro h1
  have h2 := un_pack l
  rw [h1, un_nil] at h2
  rw [if_pos (by simp; omega)] at h2
  cases h2
/-- What the chapter says of abcabcabcd. -/
theorem pack_abc : pack [97, 98, 99, 97, 98, 99, 97, 98, 99, 100] = [2, 97, 98, 99, 130, 0, 3, 0, 100] := by decide +kernel
theorem un_abc : un 10 [2, 97, 98, 99, 130, 0, 3, 0, 100] [] = .ok [97, 98, 99, 97, 98, 99, 97, 98, 99, 100] := by
  have := un_pack [97, 98, 99, 97, 98, 99, 97, 98, 99, 100]
  rw [pack_abc] at this
  exact this
theorem un_bad : un 4 [128, 0, 1] [] = .error 25 := by
  rw [un_step (by simp)]
  have : fst' [128, 0, 1] = .ok (.mat 4 1, 3) := fst_bytes (t := .mat 4 1) (by simp [Tok.ok]) []
  rw [this]
  simp [Tok.dist]
theorem best_abc : best [97, 98, 99, 97, 98, 99, 97, 98, 99, 100] 3 = (6, 3) := by decide +kernel
end Go.Proofs.YtihokphamgkkcaaGreat.Lz.M
namespace Go.Proofs.YtihokphamgkkcaaGreat.Lz
open Go.RowKit
theorem ret_int {k : IntKind} {a b : Int} (h : a = b) : Ending.returned (.int k a) = .returned (.int k b) := by rw [h]
theorem hid {p : Prop} (h : p) : Hid p := h
/-- Nothing that was there has turned but what S names. -/
structure Ch (S : Nat → Prop) (w w' : World) : Prop where
  os : w'.os = w.os
  tape : w'.tape = w.tape
  output : w'.output = w.output
  size : w.heap.size ≤ w'.heap.size
  block : ∀ k, k < w.heap.size → ¬ S k → w'.heap[k]? = w.heap[k]?
theorem Ch.refl (S : Nat → Prop) (w : World) : Ch S w w := ⟨rfl, rfl, rfl, Nat.le_refl _, fun _ _ _ => rfl⟩
theorem Ch.trans {S : Nat → Prop} {a b c : World} (h : Ch S a b) (k : Ch S b c) : Ch S a c :=
  ⟨k.os.trans h.os, k.tape.trans h.tape, k.output.trans h.output, Nat.le_trans h.size k.size, fun i hi hs => (k.block i (Nat.lt_of_lt_of_le hi h.size) hs).trans (h.block i hi hs)⟩
/-- Behind one step another whose blocks are S's or new. -/
theorem Ch.then {S T : Nat → Prop} {a b c : World} (h : Ch S a b) (k : Ch T b c) (hT : ∀ i, i < a.heap.size → T i → S i) : Ch S a c :=
  ⟨k.os.trans h.os, k.tape.trans h.tape, k.output.trans h.output, Nat.le_trans h.size k.size, fun i hi hs => (k.block i (Nat.lt_of_lt_of_le hi h.size) (fun ht => hs (hT i hi ht))).trans (h.block i hi hs)⟩
theorem Ch.mono {S T : Nat → Prop} {a b : World} (h : Ch S a b) (hT : ∀ i, i < a.heap.size → S i → T i) : Ch T a b :=
  ⟨h.os, h.tape, h.output, h.size, fun i hi hs => h.block i hi (fun hs' => hs (hT i hi hs'))⟩
theorem Ch.of_below {S : Nat → Prop} {a b : World} (h : Below a.heap.size a b) : Ch S a b := ⟨h.os, h.tape, h.output, h.size, fun i hi _ => h.block i hi⟩
theorem Ch.below {S : Nat → Prop} {a b : World} {B : Nat} (h : Ch S a b) (hB : B ≤ a.heap.size) (hS : ∀ i, i < B → ¬ S i) : Below B a b := ⟨h.os, h.tape, h.output, h.size, fun i hi => h.block i (by omega) (hS i hi)⟩
theorem Ch.drew {S : Nat → Prop} {a b : World} (h : Ch S a b) : Ch S a b.drew := ⟨h.os, h.tape, h.output, h.size, h.block⟩
theorem Ch.alloc {S : Nat → Prop} {a b : World} (h : Ch S a b) (o : Obj) : Ch S a (b.alloc o) :=
  ⟨h.os, h.tape, h.output, by have := h.size; simp; omega, fun i hi hs => (Below.heap_alloc b o i (by have := h.size; omega)).trans (h.block i hi hs)⟩
theorem Ch.setCell {S : Nat → Prop} {a b : World} (h : Ch S a b) (p : Addr) (v : Value) (hp : p.block < a.heap.size → S p.block) : Ch S a (b.setCell p v) :=
  ⟨h.os, h.tape, h.output, by have := h.size; simp [World.setCell]; omega, fun i hi hs => (Below.heap_setCell b p v i (fun e => hs (e ▸ hp (e ▸ hi)))).trans (h.block i hi hs)⟩
theorem Ch.drewN {S : Nat → Prop} {a b : World} (h : Ch S a b) (n : Nat) : Ch S a (b.drewN n) := by
  refine h.trans ⟨rfl, rfl, rfl, Nat.le_refl _, fun _ _ _ => rfl⟩

theorem wrap_in {n : Int} (h1 : -9223372036854775808 ≤ n) (h2 : n ≤ 9223372036854775807) : IntKind.i64.wrap n = n := by
  simp only [IntKind.wrap, IntKind.bits, IntKind.signed, Bool.true_and]; split <;> rename_i h <;> simp at h <;> omega
theorem wrap_add {a b : Nat} (h : a + b ≤ 9223372036854775807) : IntKind.i64.wrap ((a : Int) + b) = ((a + b : Nat) : Int) := by rw [wrap_in (by omega) (by omega)]; rfl
/-- Only draws. -/
def Qt (a b : World) : Prop := ∃ n, b = a.drewN n
theorem Qt.refl (a : World) : Qt a a := ⟨0, rfl⟩
theorem drewN_drewN (w : World) (a b : Nat) : (w.drewN a).drewN b = w.drewN (a + b) := by simp only [World.drewN, Nat.add_assoc]
theorem Qt.drewN {a b : World} (h : Qt a b) (n : Nat) : Qt a (b.drewN n) := by obtain ⟨k, rfl⟩ := h; exact ⟨k + n, drewN_drewN a k n⟩
theorem Qt.trans {a b c : World} (h : Qt a b) (k : Qt b c) : Qt a c := by obtain ⟨n, rfl⟩ := k; exact h.drewN n
theorem Qt.heap {a b : World} (h : Qt a b) : b.heap = a.heap := by obtain ⟨n, rfl⟩ := h; rfl
theorem Ch.qt {S : Nat → Prop} {a b c : World} (h : Ch S a b) (k : Qt b c) : Ch S a c := by obtain ⟨n, rfl⟩ := k; exact h.drewN n
theorem below_qt {B : Nat} {a b c : World} (h : Below B a b) (k : Qt b c) : Below B a c := by obtain ⟨n, rfl⟩ := k; exact below_drewN h n
/-- Bytes of a text, by its list. -/
theorem at_ (s : ByteArray) (i : Nat) (h : i < s.size) : s[i] = M.by_ s.data.toList i := by
  unfold M.by_
  rw [List.getD_eq_getElem?_getD, List.getElem?_eq_getElem (by simpa using h)]
  rfl
theorem len_ (s : ByteArray) : s.data.toList.length = s.size := by simp
theorem bcell {W w1 : World} (hb : Below W.heap.size W w1) : (∀ b o, b < W.heap.size → w1.cell? ⟨b, o, none⟩ = W.cell? ⟨b, o, none⟩) ∧ (∀ b o, b < W.heap.size → w1.frozen? ⟨b, o, none⟩ = W.frozen? ⟨b, o, none⟩) :=
  ⟨fun b o h => hb.cell (p := ⟨b, o, none⟩) h, fun b o h => hb.frozen (p := ⟨b, o, none⟩) h⟩
theorem lt_of_heap {w : World} {b : Nat} {o : Obj} (h : w.heap[b]? = some o) : b < w.heap.size := by
  rcases Nat.lt_or_ge b w.heap.size with h1 | h1
  · exact h1
  · rw [Array.getElem?_eq_none h1] at h; cases h
theorem heap_alloc_at {w : World} {b : Nat} {o o' : Obj} (h : w.heap[b]? = some o) : (w.alloc o').heap[b]? = some o := by rw [Below.heap_alloc w o' b (lt_of_heap h), h]
theorem heap_new (w : World) (o : Obj) : (w.alloc o).heap[w.heap.size]? = some o := by show (w.heap.push o)[w.heap.size]? = _; simp
theorem heap_set_far {w : World} {b : Nat} {o : Obj} {p : Addr} {v : Value} (h : w.heap[b]? = some o) (hp : b ≠ p.block) : (w.setCell p v).heap[b]? = some o := by rw [Below.heap_setCell w p v b hp, h]
theorem heap_set {w : World} {b i : Nat} {c : Array Value} {T : TypeId} {fz : Nat × Nat} {v : Value} (h : w.heap[b]? = some (.cells c T fz)) : (w.setCell ⟨b, i, none⟩ v).heap[b]? = some (.cells (c.setIfInBounds i v) T fz) := by
  simp only [World.setCell, Array.getElem?_modify, if_true, h]
  rfl
theorem cell_of {w : World} {b i : Nat} {c : Array Value} {T : TypeId} {fz : Nat × Nat} (h : w.heap[b]? = some (.cells c T fz)) : w.cell? ⟨b, i, none⟩ = c[i]? := by simp [World.cell?, h]
theorem froz_of {w : World} {b i : Nat} {c : Array Value} {T : TypeId} (h : w.heap[b]? = some (.cells c T (0, 0))) : w.frozen? ⟨b, i, none⟩ = false := by simp [World.frozen?, h]


theorem ch_bel {S : Nat → Prop} {a b c : World} {B : Nat} (h : Below B a b) (hc : Ch S b c) (hB : B ≤ b.heap.size) (hS : ∀ i, i < B → ¬ S i) : Below B a c := h.trans (hc.below hB hS)
/-- Behind a world that has grown, another. -/
theorem bel_bel {a b c : World} {B : Nat} (h : Below B a b) (k : Below b.heap.size b c) (hB : B ≤ b.heap.size) : Below B a c := h.trans (k.mono hB)
theorem heap_new' (w : World) (o : Obj) (n : Nat) (h : w.heap.size = n) : (w.alloc o).heap[n]? = some o := by subst h; exact heap_new _ _
theorem heap_setRow_far (w : World) (g k : Nat) (c : Array Value) (h : k ≠ g) : (w.setRow g c).heap[k]? = w.heap[k]? := by
  simp only [World.setRow, Array.getElem?_modify]
  rw [if_neg (fun e => h e.symm)]
theorem size_setRow (w : World) (g : Nat) (c : Array Value) : (w.setRow g c).heap.size = w.heap.size := by simp [World.setRow]
theorem bel_setRow {B g : Nat} {a w : World} (h : Below B a w) (hg : B ≤ g) (c : Array Value) : Below B a (w.setRow g c) :=
  ⟨h.os, h.tape, h.output, by rw [size_setRow]; exact h.size, fun k hk => (heap_setRow_far w g k c (by omega)).trans (h.block k hk)⟩
/-- A load and a store of a whole array, as one step. -/
theorem oper_load {P : Program} {a : Act} {w : World} {next : Act → World → Prop} {Q : Exit → Act → World → Prop} {o : Oper} {t : TypeId} {x : Operand} {v : Value}
    (ho : o.op = .load t x) (h : (Instr.loadAt t (a.eval x)).run P w = .ok v w) (k : next (a.put o.dst v) w) : o.wp P a w next Q := by
  simp only [Oper.wp, execOp, ho, Sem.run_bind, h, Result.andThen, Sem.run_pure]
  exact k
theorem oper_store {P : Program} {a : Act} {w w' : World} {next : Act → World → Prop} {Q : Exit → Act → World → Prop} {o : Oper} {t : TypeId} {x y : Operand}
    (ho : o.op = .store t x y) (h : (Instr.storeAt t (a.eval x) (a.eval y)).run P w = .ok () w') (k : next (a.put o.dst undef) w') : o.wp P a w next Q := by
  simp only [Oper.wp, execOp, ho, Sem.run_bind, h, Result.andThen, Sem.run_pure]
  exact k
theorem load_row {P : Program} {w : World} {g : Nat} {t ty e : TypeId} {cs : Array Value} {fr : Nat × Nat} {n : Nat} (hg : w.heap[g]? = some (.cells cs t fr)) (hu : P.underlying ty = some (.array n e)) (hi : (P.info? ty).map (·.size) = some cs.size) :
    (Instr.loadAt ty (.pointer (some ⟨g, 0, none⟩))).run P w = .ok (.agg cs) w := by
  simp only [Instr.loadAt, Instr.sureAddr, Sem.run_bind, Sem.run_pure, Result.andThen]
  exact run_loadVar_row w g t ty cs fr _ hg hu rfl hi
theorem store_row {P : Program} {w : World} {g : Nat} {t ty : TypeId} {old cs : Array Value} (hg : w.heap[g]? = some (.cells old t (0, 0))) (hi : (P.info? ty).map (·.size) = some cs.size) (ho : old.size = cs.size) (h1 : ∀ v ∈ cs, v.oneCell' = true) :
    (Instr.storeAt ty (.pointer (some ⟨g, 0, none⟩)) (.agg cs)).run P w = .ok () (w.setRow g cs) := by
  simp only [Instr.storeAt, Instr.sureAddr, Sem.run_bind, Sem.run_pure, Result.andThen]
  exact run_storeVar_row w g t ty old cs hg hi ho (Array.all_eq_true_iff_forall_mem.2 h1)
theorem results_cell {fn : Func} {p : Tmp} {ty : TypeId} (h : fn.results = #[.cell p ty]) (tmps : Array Value) (P : Program) (w : World) :
    (results fn tmps).run P w = ((asAddr (tmps.getD p undef)).run P w).andThen fun a w1 => (loadVar ty a).run P w1 := by
  simp only [results, h]
  simp [Sem.run_bind, Result.andThen]
theorem results_ptr {fn : Func} {p : Tmp} {ty : TypeId} {tmps : Array Value} {P : Program} {w : World} {a : Addr} {v : Value} (h : fn.results = #[.cell p ty]) (hp : tmps.getD p undef = .pointer (some a)) (hl : (loadVar ty a).run P w = .ok v w) :
    (results fn tmps).run P w = .ok v w := by
  rw [results_cell h, hp]
  simp [asAddr, Result.andThen, hl]
end Go.Proofs.YtihokphamgkkcaaGreat.Lz
namespace Go.Proofs.YtihokphamgkkcaaGreat.Lz
open Go.RowKit
def hvI (a b c d : UInt8) : Int := bits BinOp.or IntKind.u32 (bits BinOp.or IntKind.u32 (bits BinOp.or IntKind.u32 ((a.toNat : Int) % 4294967296 * 16777216 % 4294967296) ((b.toNat : Int) % 4294967296 * 65536 % 4294967296)) ((c.toNat : Int) % 4294967296 * 256 % 4294967296)) ((d.toNat : Int) % 4294967296) * 2654435769 % 4294967296 / 524288
theorem hvI_bd (a b c d : UInt8) : 0 ≤ hvI a b c d ∧ hvI a b c d < 8192 := by
  unfold hvI
  generalize bits BinOp.or IntKind.u32 (bits BinOp.or IntKind.u32 (bits BinOp.or IntKind.u32 ((a.toNat : Int) % 4294967296 * 16777216 % 4294967296) ((b.toNat : Int) % 4294967296 * 65536 % 4294967296)) ((c.toNat : Int) % 4294967296 * 256 % 4294967296)) ((d.toNat : Int) % 4294967296) = x
  omega
/-- The bucket of a place; where too few bytes are left, none. -/
def hh (l : List UInt8) (q : Nat) : Nat := if q + 4 ≤ l.length then (hvI (M.by_ l q) (M.by_ l (q + 1)) (M.by_ l (q + 2)) (M.by_ l (q + 3))).toNat else 8192
theorem hh_lt {l : List UInt8} {q : Nat} (h : q + 4 ≤ l.length) : hh l q < 8192 := by
  unfold hh
  rw [if_pos h]
  have := hvI_bd (M.by_ l q) (M.by_ l (q + 1)) (M.by_ l (q + 2)) (M.by_ l (q + 3))
  omega
theorem hh_end {l : List UInt8} {q : Nat} (h : ¬ q + 4 ≤ l.length) : hh l q = 8192 := by
  unfold hh
  rw [if_neg h]
/-- Four bytes alike: one bucket. -/
theorem hh_alk {l : List UInt8} {a b m : Nat} (ha : a + 4 ≤ l.length) (hb : b + 4 ≤ l.length) (h : 4 ≤ M.alk l m a b) : hh l a = hh l b := by
  unfold hh
  rw [if_pos ha, if_pos hb]
  have e0 := M.alk_eq l m a b 0 (by omega)
  have e1 := M.alk_eq l m a b 1 (by omega)
  have e2 := M.alk_eq l m a b 2 (by omega)
  have e3 := M.alk_eq l m a b 3 (by omega)
  rw [Nat.add_zero, Nat.add_zero] at e0
  rw [e0, e1, e2, e3]
set_option maxHeartbeats 1000000 in
set_option maxRecDepth 20000 in
theorem bucket_any (s : ByteArray) (p : Nat) (w : World) (hs : s.size ≤ 9223372036854775807) (hp : p + 4 ≤ s.size) :
    Calls Tryz.prog 177 #[.string s, .int .i64 p] w fun e w' => e = .returned (.int .u32 (hh s.data.toList p : Nat)) ∧ Qt w w' := by
  have HH : Hid ((hh s.data.toList p : Int) = hvI s[p] s[p + 1] s[p + 2] s[p + 3]) := by
    show (hh s.data.toList p : Int) = _
    unfold hh
    rw [if_pos (by simpa using hp), at_ s p, at_ s (p + 1), at_ s (p + 2), at_ s (p + 3)]
    have := hvI_bd (M.by_ s.data.toList p) (M.by_ s.data.toList (p + 1)) (M.by_ s.data.toList (p + 2)) (M.by_ s.data.toList (p + 3))
    omega
  generalize hh s.data.toList p = R at *
  have h0 : p < s.size := by omega
  obtain ⟨p1, q1⟩ : ∃ q, q = p + 1 := ⟨_, rfl⟩
  obtain ⟨p2, q2⟩ : ∃ q, q = p + 2 := ⟨_, rfl⟩
  obtain ⟨p3, q3⟩ : ∃ q, q = p + 3 := ⟨_, rfl⟩
  have h1 : p1 < s.size := by omega
  have h2 : p2 < s.size := by omega
  have h3 : p3 < s.size := by omega
  have e1 : IntKind.i64.wrap ((p : Int) + 1) = (p1 : Int) := by rw [q1]; exact wrap_add (b := 1) (by omega)
  have e2 : IntKind.i64.wrap ((p : Int) + 2) = (p2 : Int) := by rw [q2]; exact wrap_add (b := 2) (by omega)
  have e3 : IntKind.i64.wrap ((p : Int) + 3) = (p3 : Int) := by rw [q3]; exact wrap_add (b := 3) (by omega)
  have H2 : Hid ((R : Int) = hvI s[p] s[p1] s[p2] s[p3]) := by
    subst q1 q2 q3
    exact HH.out
  clear q1 q2 q3 HH
  go_enter Tryz.func177, Tryz.ntmps177
  go_wp2
  go_quiet (fail)
  go_wp2
  go_ret
  exact ⟨ret_int H2.out.symm, (Qt.refl _).drewN _⟩
set_option maxHeartbeats 1000000 in
set_option maxRecDepth 20000 in
theorem alike_any (s : ByteArray) (a b m : Nat) (w : World) (hs : s.size ≤ 9223372036854775807) (ha : a + m ≤ s.size) (hb : b + m ≤ s.size) :
    Calls Tryz.prog 178 #[.string s, .int .i64 a, .int .i64 b, .int .i64 m] w fun e w' => e = .returned (.int .i64 (M.alk s.data.toList m a b : Nat)) ∧ Qt w w' := by
  go_enter Tryz.func178, Tryz.ntmps178
  go_wp2
  go_loopw [9] (fun i wr => ∃ k : Nat, k ≤ m ∧ i = .int .i64 k ∧ Hid (∀ j, j < k → M.by_ s.data.toList (a + j) = M.by_ s.data.toList (b + j)) ∧ Qt w wr) (fun i _ => m - (intOf i).toNat)
  case atStart => exact ⟨0, by omega, rfl, fun j hj => by omega, Qt.refl _⟩
  case round =>
    obtain ⟨k, hk, rfl, HK, hq⟩ := hrel
    by_cases hlt : k < m
    · obtain ⟨x, hx⟩ : ∃ x, x = a + k := ⟨_, rfl⟩
      obtain ⟨y, hy⟩ : ∃ y, y = b + k := ⟨_, rfl⟩
      have h1 : x < s.size := by omega
      have h2 : y < s.size := by omega
      have e1 : IntKind.i64.wrap ((a : Int) + k) = (x : Int) := by rw [hx]; exact wrap_add (by omega)
      have e2 : IntKind.i64.wrap ((b : Int) + k) = (y : Int) := by rw [hy]; exact wrap_add (by omega)
      have d1 : decide ((k : Int) < m) = true := by simp; omega
      have f1 : s[x] = M.by_ s.data.toList (a + k) := by rw [at_ s x h1, hx]
      have f2 : s[y] = M.by_ s.data.toList (b + k) := by rw [at_ s y h2, hy]
      by_cases he : s[x] = s[y]
      · have HK' : Hid (∀ j, j < k + 1 → M.by_ s.data.toList (a + j) = M.by_ s.data.toList (b + j)) := by
          intro j hj
          by_cases hjk : j = k
          · rw [hjk, ← f1, ← f2]; exact he
          · exact HK.out j (by omega)
        have he2 : (((s[x].toNat : Nat) : Int) == ((s[y].toNat : Nat) : Int)) = true := by rw [he]; simp
        clear he f1 f2 hx hy
        go_wp2
        go_quiet (fail)
        go_wp2
        go_roundw
        case rel => exact ⟨k + 1, by omega, by go_num, HK', hq.drewN _⟩
        case measure => simp [intOf]; omega
      · have hA : M.alk s.data.toList m a b = k := M.alk_is (by omega) HK.out (fun _ => by rw [← f1, ← f2]; exact he)
        have he2 : (((s[x].toNat : Nat) : Int) == ((s[y].toNat : Nat) : Int)) = false := by
          rw [beq_eq_false_iff_ne]
          intro h
          exact he (UInt8.toNat_inj.1 (by omega))
        have HA := hid hA
        clear he f1 f2 hx hy hA
        go_wp2
        go_quiet (fail)
        go_wp2
        go_ret
        exact ⟨ret_int (by rw [HA.out]), hq.drewN _⟩
    · have hA : M.alk s.data.toList m a b = k := M.alk_is (by omega) HK.out (fun h => absurd h hlt)
      have HA := hid hA
      have d1 : decide ((k : Int) < m) = false := by simp; omega
      clear hA
      go_wp2
      go_quiet (fail)
      go_wp2
      go_ret
      exact ⟨ret_int (by rw [HA.out]), hq.drewN _⟩
end Go.Proofs.YtihokphamgkkcaaGreat.Lz
namespace Go.Proofs.YtihokphamgkkcaaGreat.Lz
open Go.RowKit
/-- The cells of chains of the places from lo to p. -/
def ChnC (c : Array Value) (l : List UInt8) (lo p : Nat) : Prop := c.size = 16384 ∧ (∀ k, k < 8192 → c[k]? = some (.int .i64 (M.prv (hh l) lo k p : Nat))) ∧ (∀ q, lo ≤ q → q < p → p ≤ q + 8192 → q + 4 ≤ l.length → c[8192 + q % 8192]? = some (.int .i64 (M.prv (hh l) lo (hh l q) q : Nat))) ∧ ∀ k, k < 16384 → ∃ v, c[k]? = some v
def Chn (w : World) (g : Nat) (l : List UInt8) (lo p : Nat) : Prop := ∃ c, w.heap[g]? = some (.cells c 183 (0, 0)) ∧ ChnC c l lo p
theorem ChnC.skip {c : Array Value} {l : List UInt8} {lo p : Nat} (h : ChnC c l lo p) (hp : ¬ p + 4 ≤ l.length) : ChnC c l lo (p + 1) := by
  obtain ⟨h1, h2, h3, h4⟩ := h
  refine ⟨h1, ?_, ?_, h4⟩
  · intro k hk
    rw [M.prv_miss (by rw [hh_end hp]; omega)]
    exact h2 k hk
  · intro q a1 a2 a3 a4
    by_cases he : q = p
    · subst he; exact absurd a4 hp
    · exact h3 q a1 (by omega) (by omega) a4
theorem ChnC.step {c : Array Value} {l : List UInt8} {lo p : Nat} (h : ChnC c l lo p) (hp : p + 4 ≤ l.length) (hlo : lo ≤ p) :
    ChnC ((c.setIfInBounds (8192 + p % 8192) (.int .i64 (M.prv (hh l) lo (hh l p) p : Nat))).setIfInBounds (hh l p) (.int .i64 (p + 1 : Nat))) l lo (p + 1) := by
  obtain ⟨h1, h2, h3, h4⟩ := h
  have hb := hh_lt hp
  refine ⟨by simpa using h1, ?_, ?_, ?_⟩
  · intro k hk
    rw [Array.getElem?_setIfInBounds]
    by_cases he : hh l p = k
    · rw [if_pos he, if_pos (by simp; omega), M.prv_hit hlo he]
    · rw [if_neg he, Array.getElem?_setIfInBounds, if_neg (by omega), M.prv_miss he]
      exact h2 k hk
  · intro q a1 a2 a3 a4
    rw [Array.getElem?_setIfInBounds, if_neg (by omega), Array.getElem?_setIfInBounds]
    by_cases he : q = p
    · subst he
      rw [if_pos rfl, if_pos (by omega)]
    · rw [if_neg (by omega)]
      exact h3 q a1 (by omega) (by omega) a4
  · intro k hk
    refine ⟨_, Array.getElem?_eq_getElem (by simp; omega)⟩
theorem Chn.ch {S : Nat → Prop} {w w' : World} {g lo p : Nat} {l : List UInt8} (h : Chn w g l lo p) (hc : Ch S w w') (hS : ¬ S g) : Chn w' g l lo p := by
  obtain ⟨c, k, r⟩ := h
  exact ⟨c, (hc.block g (lt_of_heap k) hS).trans k, r⟩
theorem Chn.qt {w w' : World} {g lo p : Nat} {l : List UInt8} (h : Chn w g l lo p) (hc : Qt w w') : Chn w' g l lo p := by
  obtain ⟨n, rfl⟩ := hc
  exact h
theorem Chn.lt {w : World} {g lo p : Nat} {l : List UInt8} (h : Chn w g l lo p) : g < w.heap.size := by
  obtain ⟨c, k, r⟩ := h
  exact lt_of_heap k
set_option maxHeartbeats 1000000 in
set_option maxRecDepth 20000 in
theorem add_any (s : ByteArray) (g lo p : Nat) (w : World) (hs : s.size ≤ 9223372036854775807) (hp : p < s.size) (hlo : lo ≤ p) (h : Chn w g s.data.toList lo p) :
    Calls Tryz.prog 130 #[.pointer (some ⟨g, 0, none⟩), .string s, .int .i64 p] w fun e w' => e = .returned (.tuple #[]) ∧ Chn w' g s.data.toList lo (p + 1) ∧ Ch (fun i => i = g) w w' := by
  obtain ⟨c, hg, hc⟩ := h
  by_cases h4 : p + 4 ≤ s.size
  · have hb := bucket_any s p w hs h4
    have h5 : p + 4 ≤ s.data.toList.length := by simpa using h4
    have hst := hc.step h5 hlo
    have hB := hh_lt h5
    have hld := hc.2.1 _ hB
    have hsz := hc.1
    generalize M.prv (hh s.data.toList) lo (hh s.data.toList p) p = V at *
    generalize hh s.data.toList p = B at *
    have HST := hid hst
    obtain ⟨r, hr⟩ : ∃ r, r = p % 8192 := ⟨_, rfl⟩
    have hr2 : r < 8192 := by omega
    rw [← hr] at HST
    have HR := hid hr
    obtain ⟨v0, hv0⟩ := hc.2.2.2 (8192 + r) (by omega)
    clear hst hc hr
    go_enter Tryz.func130, Tryz.ntmps130
    go_wp2_with fail
    refine hb.mono ?_
    rintro e w1 ⟨rfl, hq⟩
    have hg1 : w1.heap[g]? = some (.cells c 183 (0, 0)) := by rw [hq.heap]; exact hg
    have HQ := hid ((Ch.refl (fun i => i = g) w).qt hq)
    clear hb hg hq
    have k1 : w1.cell? ⟨g, B, none⟩ = some (.int .i64 V) := (cell_of hg1).trans hld
    have k2 : w1.cell? ⟨g, 8192 + r, none⟩ = some v0 := (cell_of hg1).trans hv0
    have k3 := froz_of (i := 8192 + r) hg1
    have k4 := froz_of (i := B) hg1
    have HG := hid hg1
    clear hg1 hld hv0
    have hr := HR.out
    have d1 : (p : Int).tmod 8192 = (r : Int) := by rw [Int.tmod_eq_emod_of_nonneg (by omega)]; omega
    have d2 : (p : Int) % 8192 = (r : Int) := by omega
    have b1 : (0 : Int) ≤ (B : Int) := by omega
    have b2 : (B : Int) < 8192 := by omega
    have b3 : (0 : Int) ≤ (r : Int) := by omega
    have b4 : (r : Int) < 8192 := by omega
    have b5 : IntKind.i64.wrap (r : Int) = (r : Int) := wrap_in (by omega) (by omega)
    clear hr HR
    have hg2 := heap_set (i := 8192 + r) (v := .int .i64 V) HG.out
    have k5 : (w1.setCell ⟨g, 8192 + r, none⟩ (.int .i64 V)).cell? ⟨g, B, none⟩ = some (.int .i64 V) := by
      rw [cell_of hg2, Array.getElem?_setIfInBounds, if_neg (by omega), ← cell_of HG.out]
      exact k1
    have k6 := froz_of (i := B) hg2
    have K5 := hid k5
    have hg3 := heap_set (i := B) (v := .int .i64 (p + 1 : Nat)) hg2
    have HG3 := hid hg3
    clear hg2 hg3
    go_wp2_with fail
    go_region_held3 (fun x => x.cell? ⟨g, B, none⟩ = some (.int .i64 V)) (first | go_keep | exact K5.out) (fail)
    go_wp2_with fail
    go_end0
    exact ⟨rfl, ⟨_, HG3.out, HST.out⟩, ((HQ.out.setCell _ _ (fun _ => rfl)).drew).setCell _ _ (fun _ => rfl)⟩
  · have hsk := hc.skip (l := s.data.toList) (by simpa using h4)
    have HS := hid hsk
    have hx : (s.size : Int) - p < 4 := by omega
    clear hsk hc
    go_enter Tryz.func130, Tryz.ntmps130
    go_wp2_with fail
    refine bodyPost_ret (results_none rfl _ _ _) rfl ?_
    exact ⟨rfl, ⟨c, hg, HS.out⟩, Ch.refl _ _⟩
end Go.Proofs.YtihokphamgkkcaaGreat.Lz
namespace Go.Proofs.YtihokphamgkkcaaGreat.Lz
open Go.RowKit
set_option maxRecDepth 1000000 in
theorem Tryz.infoChn : (Tryz.prog.info? 183).map (fun i => (i.zero, i.size)) = some (some (.agg (Array.replicate 16384 (.int .i64 0))), 16384) := by kernel_rfl
end Go.Proofs.YtihokphamgkkcaaGreat.Lz
namespace Go.Proofs.YtihokphamgkkcaaGreat.Lz
open Go.RowKit
/-- What is found so far, of the places from F on. -/
def Fnd (l : List UInt8) (at' F L D : Nat) : Prop := M.bs l 3 at' (M.most l at') (min (at' - F) 8192) = (L, D)
theorem Fnd.done {l : List UInt8} {at' F L D : Nat} (h : Fnd l at' F L D) (hF : F = 0 ∨ 8192 ≤ at' - F) : M.best l at' = (L, D) := by
  rw [← h]
  unfold M.best
  rcases hF with rfl | hF
  · rfl
  · rw [show min at' 8192 = min (at' - F) 8192 from by omega]
/-- On to the next place of the chain. -/
theorem Fnd.next {l : List UInt8} {lo at' q L D : Nat} (h : M.bs l 3 at' (M.most l at') (at' - q) = (L, D)) (hq : q < at') (hw : at' - q ≤ 8192) (hat : at' + 4 ≤ l.length) (hlo : lo = 0 ∨ lo + 8192 ≤ at') :
    Fnd l at' (M.prv (hh l) lo (hh l at') q) L D := by
  unfold Fnd
  have hle := M.prv_le (hh l) lo (hh l at') q
  rw [M.bs_skip (D := at' - q) (by omega) ?_]
  · exact h
  · intro d h1 h2
    rcases Nat.lt_or_ge (M.alk l (M.most l at') (at' - d) at') 4 with h3 | h3
    · omega
    · have h4 := M.prv_none (hh l) lo (hh l at') q (at' - d) (by omega) (by omega) (by omega)
      exact absurd (hh_alk (by omega) (by omega) h3) h4
theorem Fnd.look {l : List UInt8} {at' q L D : Nat} (h : Fnd l at' (q + 1) L D) (hq : q < at') (hw : at' - q ≤ 8192) (hn : M.alk l (M.most l at') q at' ≤ max L 3) : M.bs l 3 at' (M.most l at') (at' - q) = (L, D) := by
  unfold Fnd at h
  rw [show min (at' - (q + 1)) 8192 = at' - (q + 1) from by omega] at h
  rw [M.bs_skip (D := at' - (q + 1)) (by omega) ?_]
  · exact h
  · intro d h1 h2
    obtain rfl : d = at' - q := by omega
    rw [h, show at' - (at' - q) = q from by omega]
    exact hn
theorem Fnd.take {l : List UInt8} {at' q L D N : Nat} (h : Fnd l at' (q + 1) L D) (hq : q < at') (hw : at' - q ≤ 8192) (hn : M.alk l (M.most l at') q at' = N) (hg : max L 3 < N) : M.bs l 3 at' (M.most l at') (at' - q) = (N, at' - q) := by
  unfold Fnd at h
  rw [show min (at' - (q + 1)) 8192 = at' - (q + 1) from by omega] at h
  have e : at' - q = at' - (q + 1) + 1 := by omega
  rw [e]
  refine M.bs_take ?_ ?_
  · rw [show at' - (at' - (q + 1) + 1) = q from by omega]; exact hn
  · rw [h]; exact hg
/-- None is longer than all that can be. -/
theorem best_full {l : List UInt8} {at' q D : Nat} (h : M.bs l 3 at' (M.most l at') (at' - q) = (M.most l at', D)) (hw : at' - q ≤ 8192) (hq : q < at') : M.best l at' = (M.most l at', D) := by
  unfold M.best
  rw [M.bs_skip (D := at' - q) (by omega) ?_]
  · exact h
  · intro d h1 h2
    rw [h]
    have := M.alk_le l (M.most l at') (at' - d) at'
    show _ ≤ max (M.most l at') 3
    omega
theorem Fnd.start {l : List UInt8} {lo at' : Nat} (hat : at' + 4 ≤ l.length) (hlo : lo = 0 ∨ lo + 8192 ≤ at') : Fnd l at' (M.prv (hh l) lo (hh l at') at') 0 0 := by
  unfold Fnd
  have hle := M.prv_le (hh l) lo (hh l at') at'
  rw [M.bs_skip (D := 0) (by omega) ?_]
  · rfl
  · intro d h1 h2
    show _ ≤ max 0 3
    rcases Nat.lt_or_ge (M.alk l (M.most l at') (at' - d) at') 4 with h3 | h3
    · omega
    · have h4 := M.prv_none (hh l) lo (hh l at') at' (at' - d) (by omega) (by omega) (by omega)
      exact absurd (hh_alk (by omega) (by omega) h3) h4
theorem ret2 {a b c d : Int} (h1 : a = c) (h2 : b = d) : Ending.returned (.tuple #[.int .i64 a, .int .i64 b]) = .returned (.tuple #[.int .i64 c, .int .i64 d]) := by rw [h1, h2]
set_option maxHeartbeats 4000000 in
set_option maxRecDepth 20000 in
theorem cbest_any (s : ByteArray) (g lo p : Nat) (w : World) (hs : s.size ≤ 9223372036854775807) (hp : p < s.size) (hlo : lo = 0 ∨ lo + 8192 ≤ p) (h : Chn w g s.data.toList lo p) :
    Calls Tryz.prog 129 #[.pointer (some ⟨g, 0, none⟩), .string s, .int .i64 p] w fun e w' => e = .returned (.tuple #[.int .i64 ((M.best s.data.toList p).1 : Nat), .int .i64 ((M.best s.data.toList p).2 : Nat)]) ∧ Qt w w' := by
  obtain ⟨c, hg, hc⟩ := h
  have hlen := len_ s
  generalize hl : s.data.toList = l at *
  have HLL := hid hl
  have HLO := hid hlo
  by_cases h4 : p + 4 ≤ s.size
  · have hb := fun n => bucket_any s p (w.drewN n) hs h4
    rw [hl] at hb
    obtain ⟨m, hm⟩ : ∃ m, m = M.most l p := ⟨_, rfl⟩
    have hm4 : 4 ≤ m := by rw [hm]; unfold M.most; omega
    have hm5 : m ≤ 131 := by rw [hm]; unfold M.most; omega
    have hm6 : p + m ≤ s.size := by rw [hm]; unfold M.most; omega
    have hm7 : min ((s.size : Int) - p) 131 = (m : Int) := by rw [hm]; unfold M.most; omega
    have HM := hid hm
    have hB := hh_lt (l := l) (q := p) (by omega)
    have hst := Fnd.start (l := l) (lo := lo) (at' := p) (by omega) hlo
    have hpr := M.prv_le (hh l) lo (hh l p) p
    have hpi := M.prv_is (hh l) lo (hh l p) p
    have hld := hc.2.1 _ hB
    have k1 : w.cell? ⟨g, hh l p, none⟩ = some (.int .i64 (M.prv (hh l) lo (hh l p) p : Nat)) := (cell_of hg).trans hld
    generalize hF0 : M.prv (hh l) lo (hh l p) p = F0 at *
    generalize hBB : hh l p = B at *
    have HBB := hid hBB
    have HC := hid hc
    have HG := hid hg
    have HST := hid hst
    have HPI := hid hpi
    have HLEN := hid hlen
    have CB := hid hb
    have ca := fun (q : Nat) (mi : Int) (wr : World) (hmi : mi = (m : Int)) (hq : q ≤ p) => show Calls Tryz.prog 178 #[.string s, .int .i64 q, .int .i64 p, .int .i64 mi] wr fun e w' => e = .returned (.int .i64 (M.alk l m q p : Nat)) ∧ Qt wr w' from by
      rw [hmi, ← HLL.out]; exact alike_any s q p m wr hs (by omega) hm6
    have CA := hid ca
    clear hb hm hc hg hst hpi hld hF0 hBB hlo hl hlen ca
    by_cases h131 : (131 : Int) < (s.size : Int) - p
    · have hmi : (131 : Int) = (m : Int) := by omega
      have hmi2 : ¬ (131 : Int) < (4 : Int) := by omega
      have HMI := hid hmi
      clear hmi
      clear hm7
      go_enter Tryz.func129, Tryz.ntmps129
      go_wp2_with fail
      have b1 : (0 : Int) ≤ (B : Int) := by omega
      have b2 : (B : Int) < 8192 := by omega
      go_quiet ((go_at_call 177; exact Calls.quiet_of (CB.out _)))
      clear b1 b2 k1
      go_wp2_with fail
      go_loopw [6, 7, 9, 10, 11] (fun a b x f z wr => ∃ F L D : Nat, a = .int .i64 L ∧ b = .int .i64 D ∧ x = .int .i64 (max L 3 : Nat) ∧ f = .int .i64 ((F : Int) - 1) ∧ F ≤ p ∧ L < m ∧ Hid (F = 0 ∨ lo < F ∧ hh l (F - 1) = B) ∧ Hid (Fnd l p F L D) ∧ Qt w wr) (fun a b x f z wr => (intOf f + 1).toNat)
      case atStart => exact ⟨F0, 0, 0, rfl, rfl, rfl, rfl, hpr, by omega, HPI, HST, (Qt.refl _).drewN _⟩
      case round =>
        obtain ⟨F, L, D, rfl, rfl, rfl, rfl, hF, hL, HP, HF, hq⟩ := hrel
        clear hpr
        rcases Nat.eq_zero_or_pos F with h0 | h0
        · subst h0
          have HD := hid (HF.out.done (Or.inl rfl))
          go_wp2_with fail
          go_ret2
          exact ⟨ret2 (by rw [HD.out]) (by rw [HD.out]), hq⟩
        · obtain ⟨q, rfl⟩ : ∃ q, F = q + 1 := ⟨F - 1, by omega⟩
          have e : ((q + 1 : Nat) : Int) - 1 = q := by omega
          rw [e]
          clear e h0
          by_cases hw : p - q ≤ 8192
          · have hgr : wr.heap[g]? = some (.cells c 183 (0, 0)) := by rw [hq.heap]; exact HG.out
            obtain ⟨hq1, hq2⟩ : lo < q + 1 ∧ hh l q = B := by
              rcases HP.out with h | h
              · omega
              · exact h
            have hq4 : q + 4 ≤ l.length := by
              rcases Nat.lt_or_ge l.length (q + 4) with h | h
              · rw [hh_end (by omega)] at hq2; omega
              · exact h
            have k7 := (cell_of hgr).trans (HC.out.2.2.1 q (by omega) (by omega) (by omega) hq4)
            rw [hq2] at k7
            obtain ⟨r, hr⟩ : ∃ r, r = q % 8192 := ⟨_, rfl⟩
            rw [← hr] at k7
            have HN := hid (fun L' D' (h : M.bs l 3 p (M.most l p) (p - q) = (L', D')) => Fnd.next (lo := lo) h (by omega) hw (by rw [HLEN.out]; omega) HLO.out)
            rw [HBB.out] at HN
            have hG1 := M.prv_le (hh l) lo B q
            have HG2 := hid (M.prv_is (hh l) lo B q)
            generalize M.prv (hh l) lo B q = G at *
            have HR := hid hr
            have d2 : (q : Int) % 8192 = (r : Int) := by omega
            have hX : max L 3 < m := by omega
            have HL3 := hid (rfl : max L 3 = max L 3)
            obtain ⟨X, hXX⟩ : ∃ X, X = max L 3 := ⟨_, rfl⟩
            rw [← hXX] at hX
            rw [← hXX]
            have HX := hid hXX
            have hX3 : 3 ≤ X := by omega
            obtain ⟨u, hu⟩ : ∃ u, u = q + X := ⟨_, rfl⟩
            obtain ⟨v, hv⟩ : ∃ v, v = p + X := ⟨_, rfl⟩
            have h1 : u < s.size := by omega
            have h2 : v < s.size := by omega
            have e1 : IntKind.i64.wrap ((q : Int) + X) = (u : Int) := by rw [hu]; exact wrap_add (by omega)
            have e2 : IntKind.i64.wrap ((p : Int) + X) = (v : Int) := by rw [hv]; exact wrap_add (by omega)
            have f1 : s[u] = M.by_ l (q + X) := by rw [at_ s u h1, hu, HLL.out]
            have f2 : s[v] = M.by_ l (p + X) := by rw [at_ s v h2, hv, HLL.out]
            have hrl : r < 8192 := by omega
            clear hr hgr hq2 hq4 HL3
            by_cases he : s[u] = s[v]
            · have he2 : (((s[u].toNat : Nat) : Int) != ((s[v].toNat : Nat) : Int)) = false := by rw [he]; simp
              clear he f1 f2 hu hv
              have cq := fun wr => CA.out q (131 : Int) wr HMI.out (by omega)
              have HN1 := hid (fun (h : M.alk l m q p ≤ max L 3) => HF.out.look (by omega) hw (by rw [← HM.out]; exact h))
              have HN2 := hid (fun (N : Nat) (h1 : M.alk l m q p = N) (h : max L 3 < N) => HF.out.take (by omega) hw (by rw [← HM.out]; exact h1) h)
              have hAm := M.alk_le l m q p
              have HNE := hid (rfl : M.alk l m q p = M.alk l m q p)
              generalize hNN : M.alk l m q p = N at *
              have CQ := hid cq
              clear cq hXX HF HP hNN HNE
              by_cases hgt : X < N
              · have hN2 := HN2.out N rfl (by rw [← HX.out]; exact hgt)
                by_cases hfull : N = m
                · have HB := hid (best_full (D := p - q) (by rw [hN2, hfull, HM.out]) hw (by omega))
                  have heq : ((N : Int) == (131 : Int)) = true := by rw [beq_iff_eq]; have := HMI.out; omega
                  clear hN2 HN HN1 HN2 
                  go_wp2_with fail
                  go_quiet (fail)
                  go_wp2_with fail
                  refine (CQ.out _).mono ?_
                  rintro e w1 ⟨rfl, hq9⟩
                  go_wp2_with fail
                  go_ret2
                  exact ⟨ret2 (by rw [HB.out]; show (m : Int) = ((M.most l p : Nat) : Int); rw [← HM.out]) (by rw [HB.out]; show (p : Int) - q = ((p - q : Nat) : Int); omega), (hq.drewN _).trans hq9⟩
                · have HF2 := hid (HN.out _ _ hN2)
                  have heq : ((N : Int) == (131 : Int)) = false := by rw [beq_eq_false_iff_ne]; have := HMI.out; omega
                  clear hN2 HN HN1 HN2
                  go_wp2_with fail
                  go_quiet (fail)
                  go_wp2_with fail
                  refine (CQ.out _).mono ?_
                  rintro e w1 ⟨rfl, hq9⟩
                  have k8 : w1.cell? ⟨g, 8192 + r, none⟩ = some (.int .i64 G) := by rw [show w1.cell? ⟨g, 8192 + r, none⟩ = wr.cell? ⟨g, 8192 + r, none⟩ from by obtain ⟨n, rfl⟩ := hq9; rfl]; exact k7
                  go_wp2_with fail
                  go_roundw
                  case rel => exact ⟨G, N, p - q, rfl, by go_num, by rw [show max N 3 = N from by omega], by go_num, by omega, by omega, HG2, HF2, (hq.drewN _).trans hq9⟩
                  case measure => simp [intOf]; omega
              · have HF2 := hid (HN.out _ _ (HN1.out (by rw [← HX.out]; omega)))
                have heq : ((L : Int) == (131 : Int)) = false := by rw [beq_eq_false_iff_ne]; have := HMI.out; omega
                clear HN HN1 HN2
                go_wp2_with fail
                go_quiet (fail)
                go_wp2_with fail
                refine (CQ.out _).mono ?_
                rintro e w1 ⟨rfl, hq9⟩
                have k8 : w1.cell? ⟨g, 8192 + r, none⟩ = some (.int .i64 G) := by rw [show w1.cell? ⟨g, 8192 + r, none⟩ = wr.cell? ⟨g, 8192 + r, none⟩ from by obtain ⟨n, rfl⟩ := hq9; rfl]; exact k7
                go_wp2_with fail
                go_roundw
                case rel => exact ⟨G, L, D, rfl, rfl, by rw [HX.out], by go_num, by omega, hL, HG2, HF2, (hq.drewN _).trans hq9⟩
                case measure => simp [intOf]; omega
            · have he2 : (((s[u].toNat : Nat) : Int) != ((s[v].toNat : Nat) : Int)) = true := by
                rw [bne_iff_ne]
                intro h
                exact he (UInt8.toNat_inj.1 (by omega))
              have HF2 := hid (HN.out _ _ (HF.out.look (by omega) hw (by rw [← hXX]; exact M.alk_lt (by rw [← f1, ← f2]; exact he))))
              clear he f1 f2 hu hv HN hXX HF HP
              go_wp2_with fail
              go_quiet (fail)
              go_wp2_with fail
              go_roundw
              case rel => exact ⟨G, L, D, rfl, rfl, by rw [HX.out], by go_num, by omega, hL, HG2, HF2, hq.drewN _⟩
              case measure => simp [intOf]; omega
          · have HD := hid (HF.out.done (Or.inr (by omega)))
            go_wp2_with fail
            go_ret2
            exact ⟨ret2 (by rw [HD.out]) (by rw [HD.out]), hq⟩
    · have hmi : ((s.size : Int) - p) = (m : Int) := by omega
      have hmi2 : ¬ ((s.size : Int) - p) < (4 : Int) := by omega
      have HMI := hid hmi
      clear hmi
      clear hm7
      go_enter Tryz.func129, Tryz.ntmps129
      go_wp2_with fail
      have b1 : (0 : Int) ≤ (B : Int) := by omega
      have b2 : (B : Int) < 8192 := by omega
      go_quiet ((go_at_call 177; exact Calls.quiet_of (CB.out _)))
      clear b1 b2 k1
      go_wp2_with fail
      go_loopw [6, 7, 9, 10, 11] (fun a b x f z wr => ∃ F L D : Nat, a = .int .i64 L ∧ b = .int .i64 D ∧ x = .int .i64 (max L 3 : Nat) ∧ f = .int .i64 ((F : Int) - 1) ∧ F ≤ p ∧ L < m ∧ Hid (F = 0 ∨ lo < F ∧ hh l (F - 1) = B) ∧ Hid (Fnd l p F L D) ∧ Qt w wr) (fun a b x f z wr => (intOf f + 1).toNat)
      case atStart => exact ⟨F0, 0, 0, rfl, rfl, rfl, rfl, hpr, by omega, HPI, HST, (Qt.refl _).drewN _⟩
      case round =>
        obtain ⟨F, L, D, rfl, rfl, rfl, rfl, hF, hL, HP, HF, hq⟩ := hrel
        clear hpr
        rcases Nat.eq_zero_or_pos F with h0 | h0
        · subst h0
          have HD := hid (HF.out.done (Or.inl rfl))
          go_wp2_with fail
          go_ret2
          exact ⟨ret2 (by rw [HD.out]) (by rw [HD.out]), hq⟩
        · obtain ⟨q, rfl⟩ : ∃ q, F = q + 1 := ⟨F - 1, by omega⟩
          have e : ((q + 1 : Nat) : Int) - 1 = q := by omega
          rw [e]
          clear e h0
          by_cases hw : p - q ≤ 8192
          · have hgr : wr.heap[g]? = some (.cells c 183 (0, 0)) := by rw [hq.heap]; exact HG.out
            obtain ⟨hq1, hq2⟩ : lo < q + 1 ∧ hh l q = B := by
              rcases HP.out with h | h
              · omega
              · exact h
            have hq4 : q + 4 ≤ l.length := by
              rcases Nat.lt_or_ge l.length (q + 4) with h | h
              · rw [hh_end (by omega)] at hq2; omega
              · exact h
            have k7 := (cell_of hgr).trans (HC.out.2.2.1 q (by omega) (by omega) (by omega) hq4)
            rw [hq2] at k7
            obtain ⟨r, hr⟩ : ∃ r, r = q % 8192 := ⟨_, rfl⟩
            rw [← hr] at k7
            have HN := hid (fun L' D' (h : M.bs l 3 p (M.most l p) (p - q) = (L', D')) => Fnd.next (lo := lo) h (by omega) hw (by rw [HLEN.out]; omega) HLO.out)
            rw [HBB.out] at HN
            have hG1 := M.prv_le (hh l) lo B q
            have HG2 := hid (M.prv_is (hh l) lo B q)
            generalize M.prv (hh l) lo B q = G at *
            have HR := hid hr
            have d2 : (q : Int) % 8192 = (r : Int) := by omega
            have hX : max L 3 < m := by omega
            have HL3 := hid (rfl : max L 3 = max L 3)
            obtain ⟨X, hXX⟩ : ∃ X, X = max L 3 := ⟨_, rfl⟩
            rw [← hXX] at hX
            rw [← hXX]
            have HX := hid hXX
            have hX3 : 3 ≤ X := by omega
            obtain ⟨u, hu⟩ : ∃ u, u = q + X := ⟨_, rfl⟩
            obtain ⟨v, hv⟩ : ∃ v, v = p + X := ⟨_, rfl⟩
            have h1 : u < s.size := by omega
            have h2 : v < s.size := by omega
            have e1 : IntKind.i64.wrap ((q : Int) + X) = (u : Int) := by rw [hu]; exact wrap_add (by omega)
            have e2 : IntKind.i64.wrap ((p : Int) + X) = (v : Int) := by rw [hv]; exact wrap_add (by omega)
            have f1 : s[u] = M.by_ l (q + X) := by rw [at_ s u h1, hu, HLL.out]
            have f2 : s[v] = M.by_ l (p + X) := by rw [at_ s v h2, hv, HLL.out]
            have hrl : r < 8192 := by omega
            clear hr hgr hq2 hq4 HL3
            by_cases he : s[u] = s[v]
            · have he2 : (((s[u].toNat : Nat) : Int) != ((s[v].toNat : Nat) : Int)) = false := by rw [he]; simp
              clear he f1 f2 hu hv
              have cq := fun wr => CA.out q ((s.size : Int) - p) wr HMI.out (by omega)
              have HN1 := hid (fun (h : M.alk l m q p ≤ max L 3) => HF.out.look (by omega) hw (by rw [← HM.out]; exact h))
              have HN2 := hid (fun (N : Nat) (h1 : M.alk l m q p = N) (h : max L 3 < N) => HF.out.take (by omega) hw (by rw [← HM.out]; exact h1) h)
              have hAm := M.alk_le l m q p
              have HNE := hid (rfl : M.alk l m q p = M.alk l m q p)
              generalize hNN : M.alk l m q p = N at *
              have CQ := hid cq
              clear cq hXX HF HP hNN HNE
              by_cases hgt : X < N
              · have hN2 := HN2.out N rfl (by rw [← HX.out]; exact hgt)
                by_cases hfull : N = m
                · have HB := hid (best_full (D := p - q) (by rw [hN2, hfull, HM.out]) hw (by omega))
                  have heq : ((N : Int) == ((s.size : Int) - p)) = true := by rw [beq_iff_eq]; have := HMI.out; omega
                  clear hN2 HN HN1 HN2 
                  go_wp2_with fail
                  go_quiet (fail)
                  go_wp2_with fail
                  refine (CQ.out _).mono ?_
                  rintro e w1 ⟨rfl, hq9⟩
                  go_wp2_with fail
                  go_ret2
                  exact ⟨ret2 (by rw [HB.out]; show (m : Int) = ((M.most l p : Nat) : Int); rw [← HM.out]) (by rw [HB.out]; show (p : Int) - q = ((p - q : Nat) : Int); omega), (hq.drewN _).trans hq9⟩
                · have HF2 := hid (HN.out _ _ hN2)
                  have heq : ((N : Int) == ((s.size : Int) - p)) = false := by rw [beq_eq_false_iff_ne]; have := HMI.out; omega
                  clear hN2 HN HN1 HN2
                  go_wp2_with fail
                  go_quiet (fail)
                  go_wp2_with fail
                  refine (CQ.out _).mono ?_
                  rintro e w1 ⟨rfl, hq9⟩
                  have k8 : w1.cell? ⟨g, 8192 + r, none⟩ = some (.int .i64 G) := by rw [show w1.cell? ⟨g, 8192 + r, none⟩ = wr.cell? ⟨g, 8192 + r, none⟩ from by obtain ⟨n, rfl⟩ := hq9; rfl]; exact k7
                  go_wp2_with fail
                  go_roundw
                  case rel => exact ⟨G, N, p - q, rfl, by go_num, by rw [show max N 3 = N from by omega], by go_num, by omega, by omega, HG2, HF2, (hq.drewN _).trans hq9⟩
                  case measure => simp [intOf]; omega
              · have HF2 := hid (HN.out _ _ (HN1.out (by rw [← HX.out]; omega)))
                have heq : ((L : Int) == ((s.size : Int) - p)) = false := by rw [beq_eq_false_iff_ne]; have := HMI.out; omega
                clear HN HN1 HN2
                go_wp2_with fail
                go_quiet (fail)
                go_wp2_with fail
                refine (CQ.out _).mono ?_
                rintro e w1 ⟨rfl, hq9⟩
                have k8 : w1.cell? ⟨g, 8192 + r, none⟩ = some (.int .i64 G) := by rw [show w1.cell? ⟨g, 8192 + r, none⟩ = wr.cell? ⟨g, 8192 + r, none⟩ from by obtain ⟨n, rfl⟩ := hq9; rfl]; exact k7
                go_wp2_with fail
                go_roundw
                case rel => exact ⟨G, L, D, rfl, rfl, by rw [HX.out], by go_num, by omega, hL, HG2, HF2, (hq.drewN _).trans hq9⟩
                case measure => simp [intOf]; omega
            · have he2 : (((s[u].toNat : Nat) : Int) != ((s[v].toNat : Nat) : Int)) = true := by
                rw [bne_iff_ne]
                intro h
                exact he (UInt8.toNat_inj.1 (by omega))
              have HF2 := hid (HN.out _ _ (HF.out.look (by omega) hw (by rw [← hXX]; exact M.alk_lt (by rw [← f1, ← f2]; exact he))))
              clear he f1 f2 hu hv HN hXX HF HP
              go_wp2_with fail
              go_quiet (fail)
              go_wp2_with fail
              go_roundw
              case rel => exact ⟨G, L, D, rfl, rfl, by rw [HX.out], by go_num, by omega, hL, HG2, HF2, hq.drewN _⟩
              case measure => simp [intOf]; omega
          · have HD := hid (HF.out.done (Or.inr (by omega)))
            go_wp2_with fail
            go_ret2
            exact ⟨ret2 (by rw [HD.out]) (by rw [HD.out]), hq⟩
  · have hbe := M.best_end (l := l) (at' := p) (by omega)
    have HBE := hid hbe
    have hx : min ((s.size : Int) - p) 131 < 4 := by omega
    clear hbe hc
    go_enter Tryz.func129, Tryz.ntmps129
    go_wp2_with fail
    go_ret2
    exact ⟨ret2 (by rw [HBE.out]; rfl) (by rw [HBE.out]; rfl), Qt.refl _⟩
end Go.Proofs.YtihokphamgkkcaaGreat.Lz
namespace Go.Proofs.YtihokphamgkkcaaGreat.Lz
open Go.RowKit
theorem ChnC.zero (l : List UInt8) (lo : Nat) : ChnC (Array.replicate 16384 (.int .i64 0)) l lo lo := by
  refine ⟨by simp, ?_, ?_, ?_⟩
  · intro k hk
    rw [M.prv_low _ _ _ _ (Nat.le_refl _), Array.getElem?_replicate, if_pos (by omega)]
    rfl
  · intro q h1 h2
    omega
  · intro k hk
    exact ⟨_, by rw [Array.getElem?_replicate, if_pos hk]⟩
/-- The best match at any number. -/
def bestZ (l : List UInt8) (z : Int) : Nat × Nat := if 0 ≤ z ∧ z < l.length then M.best l z.toNat else (0, 0)
theorem bel_ch {B : Nat} {a b c : World} {S : Nat → Prop} (h : Below B a b) (k : Ch S b c) (hB : B ≤ b.heap.size) (hS : ∀ i, i < B → ¬ S i) : Below B a c := h.trans (k.below hB hS)
end Go.Proofs.YtihokphamgkkcaaGreat.Lz
namespace Go.Proofs.YtihokphamgkkcaaGreat.Lz
open Go.RowKit
def ba (l : List UInt8) : ByteArray := ⟨l.toArray⟩
theorem ba_size (l : List UInt8) : (ba l).size = l.length := by show l.toArray.size = _; simp
theorem ba_list (l : List UInt8) : (ba l).data.toList = l := rfl
theorem ba_of (s : ByteArray) : ba s.data.toList = s := rfl
/-- A token's value. -/
def tokV (t : M.Tok) : Value := .agg #[.string (ba t.lits), .int .i64 (t.len : Nat), .int .i64 (t.dist : Nat)]
def noTok : Value := .agg #[.string ⟨#[]⟩, .int .i64 0, .int .i64 0]
set_option maxHeartbeats 400000 in
theorem within_any (n a b : Int) (w : World) : Calls Tryz.prog 230 #[.int .i64 n, .int .i64 a, .int .i64 b] w fun e w' => e = .returned (.bool (decide (a ≤ n ∧ n ≤ b))) ∧ w' = w := by
  by_cases h1 : a ≤ n
  · by_cases h2 : n ≤ b
    · have e : decide (a ≤ n ∧ n ≤ b) = true := by simp [h1, h2]
      rw [e]
      clear e
      go_enter Tryz.func230, Tryz.ntmps230
      go_wp2
      go_ret
      exact ⟨rfl, rfl⟩
    · have e : decide (a ≤ n ∧ n ≤ b) = false := by simp [h2]
      rw [e]
      clear e
      have h3 : b < n := by omega
      go_enter Tryz.func230, Tryz.ntmps230
      go_wp2
      go_ret
      exact ⟨rfl, rfl⟩
  · have e : decide (a ≤ n ∧ n ≤ b) = false := by simp [h1]
    rw [e]
    clear e
    have h3 : n < a := by omega
    go_enter Tryz.func230, Tryz.ntmps230
    go_wp2
    go_ret
    exact ⟨rfl, rfl⟩
set_option maxHeartbeats 400000 in
theorem count_any (s : ByteArray) (n d : Nat) (w : World) (h : s.size + n ≤ 9223372036854775807) : Calls Tryz.prog 212 #[.agg #[.string s, .int .i64 n, .int .i64 d]] w fun e w' => e = .returned (.int .i64 (s.size + n : Nat)) ∧ Below w.heap.size w w' := by
  go_enter Tryz.func212, Tryz.ntmps212
  go_wp2
  go_ret
  exact ⟨ret_int (by omega), (Below.refl _ w).alloc (Nat.le_refl _) _⟩
theorem ext_ba (p : ByteArray) (a b : Nat) : p.extract a b = ba ((p.data.toList.drop a).take (b - a)) := by
  unfold ba
  apply ByteArray.ext
  rw [ByteArray.data_extract]
  apply Array.ext'
  simp
theorem lits_ba (s : List UInt8) : (ba s) = ba (M.Tok.lit s).lits := rfl
theorem ret3 {v1 v2 : Value} {a b c d : Int} (h0 : v1 = v2) (h1 : a = c) (h2 : b = d) : Ending.returned (.tuple #[v1, .int .i64 a, .int .i64 b]) = .returned (.tuple #[v2, .int .i64 c, .int .i64 d]) := by rw [h0, h1, h2]
set_option maxHeartbeats 1000000 in
set_option maxRecDepth 20000 in
theorem flit_ok (p : ByteArray) (t : M.Tok) (n : Nat) (w : World) (hp : 0 < p.size) (hc : p[0].toNat < 128) (h : M.fst' p.data.toList = .ok (t, n)) :
    Calls Tryz.prog 213 #[.string p] w fun e w' => e = .returned (.tuple #[tokV t, .int .i64 n, .int .i64 0]) ∧ Below w.heap.size w w' := by
  unfold M.fst' at h
  rw [← at_ p 0 hp] at h
  simp only [hc, if_true, len_] at h
  generalize hb : p[0].toNat = c at *
  split at h
  · cases h
  · rename_i hl
    injection h with h
    injection h with h1 h2
    subst h1 h2
    have hx : ¬ (p.size : Int) < 1 + (c : Int) + 1 := by omega
    go_enter Tryz.func213, Tryz.ntmps213
    go_wp2_with fail
    refine bodyPost_ret (v := .tuple #[.agg #[.string (p.extract 1 (1 + c + 1)), .int .i64 0, .int .i64 0], .int .i64 (1 + c + 1), .int .i64 0]) (by simp [results, Tryz.results213, go_sem]) rfl ⟨ret3 ?_ (by omega) rfl, (Below.refl _ w).alloc (Nat.le_refl _) _⟩
    rw [ext_ba, show 1 + c + 1 - 1 = c + 1 from by omega]
    simp only [tokV, M.Tok.lits, M.Tok.len, M.Tok.dist, List.drop_one]
    rfl
set_option maxHeartbeats 1000000 in
set_option maxRecDepth 20000 in
theorem flit_err (p : ByteArray) (k : Nat) (w : World) (hp : 0 < p.size) (hc : p[0].toNat < 128) (h : M.fst' p.data.toList = .error k) :
    Calls Tryz.prog 213 #[.string p] w fun e w' => e = .returned (.tuple #[noTok, .int .i64 0, .int .i64 k]) ∧ Below w.heap.size w w' := by
  unfold M.fst' at h
  rw [← at_ p 0 hp] at h
  simp only [hc, if_true, len_] at h
  generalize hb : p[0].toNat = c at *
  split at h
  · rename_i hl
    injection h with h
    subst h
    have hx : (p.size : Int) < 1 + (c : Int) + 1 := by omega
    go_enter Tryz.func213, Tryz.ntmps213
    go_wp2_with fail
    exact bodyPost_ret (v := .tuple #[.agg #[.string ⟨#[]⟩, .int .i64 0, .int .i64 0], .int .i64 0, .int .i64 20]) (by simp [results, Tryz.results213, go_sem]) rfl ⟨rfl, (Below.refl _ w).alloc (Nat.le_refl _) _⟩
  · cases h
/-- What isMatch answers. -/
def mB (s : ByteArray) (n d : Int) : Bool := decide (s.size = 0 ∧ (4 ≤ n ∧ n ≤ 131) ∧ 1 ≤ d ∧ d ≤ 8192)
def lB (s : ByteArray) (n d : Int) : Bool := decide (n = 0 ∧ d = 0 ∧ 1 ≤ s.size ∧ s.size ≤ 128)
theorem ne_emp {s : ByteArray} (h : s.size ≠ 0) : s.toList.isEmpty = false := by
  rw [ByteArray.toList_eq, List.isEmpty_eq_false_iff]
  intro h'
  apply h
  have := congrArg List.length h'
  simpa using this
theorem empty_iff (s : ByteArray) : s.size = 0 ↔ s = ⟨#[]⟩ := by
  constructor
  · intro h
    apply ByteArray.ext
    exact Array.eq_empty_of_size_eq_zero h
  · intro h; rw [h]; rfl
set_option maxHeartbeats 1000000 in
set_option maxRecDepth 20000 in
theorem ismat_any (s : ByteArray) (n d : Int) (w : World) : Calls Tryz.prog 227 #[.agg #[.string s, .int .i64 n, .int .i64 d]] w fun e w' => e = .returned (.bool (mB s n d)) ∧ Below w.heap.size w w' := by
  by_cases h1 : s.size = 0
  · have e1 := (empty_iff s).1 h1
    subst e1
    have w1 := fun w => within_any n 4 131 w
    have w2 := fun w => within_any d 1 8192 w
    by_cases h2 : 4 ≤ n ∧ n ≤ 131
    · have e : mB ⟨#[]⟩ n d = decide (1 ≤ d ∧ d ≤ 8192) := by unfold mB; rw [decide_eq_decide]; exact ⟨fun h => h.2.2, fun h => ⟨rfl, h2, h⟩⟩
      rw [e]
      have e2 : decide (4 ≤ n ∧ n ≤ 131) = true := by simpa using h2
      rw [e2] at w1
      generalize decide (1 ≤ d ∧ d ≤ 8192) = D at *
      have W1 := hid w1; have W2 := hid w2
      clear w1 w2 e e2 h1 h2
      go_enter Tryz.func227, Tryz.ntmps227
      go_wp2_with fail
      refine (W1.out _).mono ?_
      rintro e w1 ⟨rfl, rfl⟩
      go_wp2_with fail
      refine (W2.out _).mono ?_
      rintro e w1 ⟨rfl, rfl⟩
      go_wp2_with fail
      go_ret
      exact ⟨rfl, (Below.refl _ w).alloc (Nat.le_refl _) _⟩
    · have e : mB ⟨#[]⟩ n d = false := by unfold mB; rw [decide_eq_false_iff_not]; intro h; exact h2 h.2.1
      rw [e]
      have e2 : decide (4 ≤ n ∧ n ≤ 131) = false := by simpa using h2
      rw [e2] at w1
      have W1 := hid w1
      clear w1 w2 e e2 h1 h2
      go_enter Tryz.func227, Tryz.ntmps227
      go_wp2_with fail
      refine (W1.out _).mono ?_
      rintro e w1 ⟨rfl, rfl⟩
      go_wp2_with fail
      go_ret
      exact ⟨rfl, (Below.refl _ w).alloc (Nat.le_refl _) _⟩
  · have e : mB s n d = false := by unfold mB; simp [h1]
    rw [e]
    have e1 := ne_emp h1
    clear e h1
    go_enter Tryz.func227, Tryz.ntmps227
    go_wp2_with fail
    go_ret
    exact ⟨rfl, (Below.refl _ w).alloc (Nat.le_refl _) _⟩
theorem i64_or_nat (a b : Nat) (ha : a < 9223372036854775808) (hb : b < 9223372036854775808) : bits .or .i64 (a : Int) (b : Int) = ((a ||| b : Nat) : Int) := by
  have hx : a ||| b < 2 ^ 63 := Nat.or_lt_two_pow (by omega) (by omega)
  show IntKind.i64.wrap ((BitVec.ofInt 64 (a : Int) ||| BitVec.ofInt 64 (b : Int)).toNat : Int) = _
  have ea : (BitVec.ofInt 64 (a : Int)).toNat = a := by rw [BitVec.toNat_ofInt]; omega
  have eb : (BitVec.ofInt 64 (b : Int)).toNat = b := by rw [BitVec.toNat_ofInt]; omega
  rw [BitVec.toNat_or, ea, eb, wrap_in (by omega) (by omega)]
theorem or_dist (a b : Nat) (hb : b < 256) (ha : a < 256) : bits BinOp.or IntKind.i64 ((a : Int) * 256) (b : Int) = ((a * 256 + b : Nat) : Int) := by
  have := i64_or_nat (a * 256) b (by omega) (by omega)
  have h2 := nat_join 8 (a * 256) b (by omega) (by omega)
  rw [h2] at this
  exact this
end Go.Proofs.YtihokphamgkkcaaGreat.Lz
namespace Go.Proofs.YtihokphamgkkcaaGreat.Lz
open Go.RowKit
theorem Tryz.info5 : (Tryz.prog.info? 5).map (fun i => (i.zero, i.size, i.bytes)) = some (some (.int .u8 0), 1, 1) := by kernel_rfl
theorem Tryz.underBytes : Tryz.prog.underlying 63 = some (.slice 5) := by kernel_rfl
theorem Tryz.under5 : Tryz.prog.underlying 5 = some (.int .u8) := by kernel_rfl
theorem Tryz.under9 : Tryz.prog.underlying 9 = some .string := by kernel_rfl
/-- Bytes as cells. -/
def bc (l : List UInt8) : List Value := l.map fun b : UInt8 => Value.int .u8 (b.toNat : Int)
theorem bc_len (l : List UInt8) : (bc l).length = l.length := by simp [bc]
theorem bc_app (l m : List UInt8) : bc (l ++ m) = bc l ++ bc m := by simp [bc]
theorem bc_str (t : ByteArray) : Lib.strCells t = bc t.data.toList := by simp [Lib.strCells, bc]
theorem bc_one (l : List UInt8) : ∀ u ∈ bc l, u.oneCell' = true := by
  intro u hu
  simp only [bc, List.mem_map] at hu
  obtain ⟨b, _, rfl⟩ := hu
  rfl
/-- A row of bytes of the call's own, from B on. -/
def Own (w : World) (B : Nat) (v : Value) (l : List UInt8) : Prop := w.ownsRow B 5 1 v l.length (bc l)
theorem own_ch {S : Nat → Prop} {w w' : World} {B n size : Nat} {e : TypeId} {v : Value} {l : List Value} (h : w.ownsRow B e size v n l) (hc : Ch S w w') (hS : ∀ i, B ≤ i → ¬ S i) : w'.ownsRow B e size v n l := by
  have hlt := h.lt
  obtain ⟨h1, h2⟩ := h
  refine ⟨h1, ?_⟩
  rcases h2 with h2 | ⟨g, cap, cur, rfl, hg, hh, r⟩
  · exact Or.inl h2
  · exact Or.inr ⟨g, cap, cur, rfl, hg, (hc.block g (hlt g rfl).2 (hS g hg)).trans hh, r⟩
/-- What only turns blocks apart from this row leaves it. -/
theorem own_apart {w w' : World} {B n size : Nat} {e : TypeId} {v : Value} {l : List Value} (h : w.ownsRow B e size v n l) (hc : ∀ g, v.ownBlock = some g → w'.heap[g]? = w.heap[g]?) : w'.ownsRow B e size v n l := by
  obtain ⟨h1, h2⟩ := h
  refine ⟨h1, ?_⟩
  rcases h2 with h2 | ⟨g, cap, cur, rfl, hg, hh, r⟩
  · exact Or.inl h2
  · exact Or.inr ⟨g, cap, cur, rfl, hg, (hc g rfl).trans hh, r⟩
theorem bel_step {base n size : Nat} {e : TypeId} {w wr w1 : World} {o : Value} {l : List Value} {obj : Obj} (hbel : Below base w wr) (hown : wr.ownsRow base e size o n l) (hb : base ≤ wr.heap.size) (hg : (wr.alloc obj).grownBy w1 o.ownBlock) : Below base w w1 :=
  (hbel.alloc hb obj).grown hg (by simp; omega) (fun k hk => (hown.lt k hk).1)
theorem bel_step0 {base n size : Nat} {e : TypeId} {w wr w1 : World} {o : Value} {l : List Value} (hbel : Below base w wr) (hown : wr.ownsRow base e size o n l) (hb : base ≤ wr.heap.size) (hg : wr.grownBy w1 o.ownBlock) : Below base w w1 :=
  hbel.grown hg hb (fun k hk => (hown.lt k hk).1)
/-- 'string(b)' of a row that the call itself made. -/
theorem conv_own {w : World} {base : Nat} {v : Value} {l : List UInt8} (hown : Own w base v l) : (convert 63 9 v).run Tryz.prog w = .ok (.string (ba l)) w := by
  unfold Own at hown
  have hcell := fun (g : Nat) (hg : v.ownBlock = some g) => hown.cells hg
  obtain ⟨hl, h⟩ := hown
  rcases h with ⟨rfl, h0⟩ | ⟨g, cap, cur, rfl, hg, hh, h1, h2, h3, h4⟩
  · have : l = [] := List.eq_nil_of_length_eq_zero (by omega)
    subst this
    exact Lib.run_convert_nil_bytes w 63 9 5 0 Tryz.underBytes Tryz.under5 Tryz.under9
  · exact run_convert_bytes_back (P := Tryz.prog) w 63 9 5 ⟨g, 0, none⟩ cap l Tryz.underBytes Tryz.under5 Tryz.under9 (fun j hj => hcell g rfl j _ (by simp [bc, hj]))
theorem u8z {a : Int} {b : UInt8} (h : a = (b.toNat : Int)) : Value.int .u8 a = .int .u8 (b.toNat : Int) := by rw [h]
theorem cells_new (w : World) (xs : List Value) (t : TypeId) : ∀ j u, xs[j]? = some u → (w.alloc (.cells xs.toArray t)).cell? ((⟨w.heap.size, 0, none⟩ : Addr).add j) = some u := by
  intro j u hj
  have h := cell_of (i := j) (heap_new w (.cells xs.toArray t))
  have e : (⟨w.heap.size, 0, none⟩ : Addr).add j = ⟨w.heap.size, j, none⟩ := by
    by_cases h0 : j = 0
    · subst h0; simp [Addr.add]
    · simp [Addr.add, h0]
  rw [e, h]
  simpa using hj
theorem own_mk {w : World} {B n m : Nat} {v : Value} {l r : List UInt8} {xs : List Value} (h : w.ownsRow B 5 1 v (n + m) (bc l ++ xs)) (hn : l.length = n) (hm : r.length = m) (hx : xs = bc r) : Own w B v (l ++ r) := by
  unfold Own
  rw [List.length_append, hn, hm, bc_app, ← hx]
  exact h
theorem own_ne {w : World} {B n size : Nat} {e T : TypeId} {v : Value} {l : List Value} {k : Nat} {c : Array Value} {fz : Nat × Nat} (h : w.ownsRow B e size v n l) (hk : w.heap[k]? = some (.cells c T fz)) (hT : T ≠ e) : v.ownBlock ≠ some k := by
  intro hv
  obtain ⟨h1, h2⟩ := h
  rcases h2 with ⟨rfl, h0⟩ | ⟨g, cap, cur, rfl, hg, hh, r⟩
  · cases hv
  · have e1 : g = k := by simpa [Value.ownBlock] using hv
    subst e1
    rw [hk] at hh
    injection hh with hh
    injection hh with h3 h4 h5
    exact hT h4
set_option maxHeartbeats 1000000 in
set_option maxRecDepth 20000 in
theorem amat_any (B : Nat) (l : List UInt8) (v : Value) (n d : Nat) (w : World) (hown : Own w B v l) (hB : B ≤ w.heap.size) (hn : 4 ≤ n) (hn2 : n ≤ 131) (hd : d ≤ 8192) (hl : l.length ≤ 140737488350000) :
    Calls Tryz.prog 131 #[v, .int .i64 n, .int .i64 d] w fun e w' => ∃ v', e = .returned v' ∧ Own w' B v' (l ++ (M.Tok.mat n d).bytes) ∧ Below B w w' := by
  obtain ⟨i0, hi, hz0, hz1, hz2⟩ := info_parts Tryz.info5
  have e1 : 128 + (n : Int) - 4 = ((UInt8.ofNat (n + 124)).toNat : Int) := by rw [M.u8_of (by omega)]; omega
  have e2 : (d : Int) / 256 = ((UInt8.ofNat (d / 256)).toNat : Int) := by rw [M.u8_of (by omega)]; omega
  have e3 : (d : Int) % 256 = ((UInt8.ofNat (d % 256)).toNat : Int) := by rw [M.u8_of (by omega)]; omega
  have HBY : Hid ((M.Tok.mat n d).bytes = [UInt8.ofNat (n + 124), UInt8.ofNat (d / 256), UInt8.ofNat (d % 256)]) := rfl
  generalize (M.Tok.mat n d).bytes = bys at *
  generalize UInt8.ofNat (n + 124) = b1 at *
  generalize UInt8.ofNat (d / 256) = b2 at *
  generalize UInt8.ofNat (d % 256) = b3 at *
  have q1 := b1.toNat_lt
  have q2 := b2.toNat_lt
  unfold Own at hown
  generalize hN : l.length = N at *
  have HN := hid hN
  clear hN
  go_enter Tryz.func131, Tryz.ntmps131
  go_wp2_with (at_builtin; refine wpList_append_own _ rfl _ _ 63 rfl B 5 i0 (.int .u8 0) 1 1 Tryz.underBytes hi hz0 hz1 hz2 rfl (by decide) _ _ _ rfl (hown.alloc _) ⟨w.heap.size, 0, none⟩ 3 3 (bc [b1, b2, b3]) rfl rfl ?c1 ?c2 ?c3 ?c4 ?c5 ?_)
  case c1 => exact cells_new w (bc [b1, b2, b3]) 5
  case c2 => exact bc_one _
  case c3 => unfold maxLen; omega
  case c4 => omega
  case c5 => simp; omega
  · intro v' w1 hown1 hgrow _
    have HB := hid (bel_step (Below.refl B w) hown hB hgrow)
    have HO := hid (own_mk (r := [b1, b2, b3]) hown1 HN.out rfl rfl)
    clear hown1 hgrow hown
    go_wp2_with fail
    go_ret
    exact ⟨_, rfl, by rw [HBY.out]; exact HO.out, HB.out⟩
theorem len_ext (S : ByteArray) (a b : Nat) : (S.extract a b).data.toList = (S.data.toList.drop a).take (b - a) := by rw [ext_ba]; rfl
set_option maxHeartbeats 2000000 in
set_option maxRecDepth 20000 in
theorem alit_any (B : Nat) (l : List UInt8) (v : Value) (L : ByteArray) (w : World) (hown : Own w B v l) (hB : B ≤ w.heap.size) (hl : l.length + (M.bytesOf (M.runs L.data.toList)).length ≤ 140737488355000) :
    Calls Tryz.prog 132 #[v, .string L] w fun e w' => ∃ v', e = .returned v' ∧ Own w' B v' (l ++ M.bytesOf (M.runs L.data.toList)) ∧ Below B w w' := by
  obtain ⟨i0, hi, hz0, hz1, hz2⟩ := info_parts Tryz.info5
  generalize hT : M.bytesOf (M.runs L.data.toList) = T at *
  have HT := hid hT
  have HOWN := hid hown
  clear hown hT
  go_enter Tryz.func132, Tryz.ntmps132
  go_wp2_with fail
  go_loopg [0, 1, 5] L.size (fun k o s n wr => ∃ (S : ByteArray) (pre : List UInt8), S.size = k ∧ s = .string S ∧ Hid (Own wr B o (l ++ pre)) ∧ Hid (pre ++ M.bytesOf (M.runs S.data.toList) = T) ∧ Hid (Below B w wr))
  case atStart => exact ⟨L, [], rfl, rfl, by rw [List.append_nil]; exact HOWN, HT, Below.refl _ _⟩
  case round =>
    clear HOWN HT
    obtain ⟨S, pre, rfl, rfl, HO, HP, HW⟩ := hrel
    by_cases h0 : S.size = 0
    · have e1 := (empty_iff S).1 h0
      subst e1
      have HE : Hid (l ++ pre = l ++ T) := by
        show l ++ pre = l ++ T
        rw [← HP.out]
        show l ++ pre = l ++ (pre ++ [])
        rw [List.append_nil]
      go_wp2_with fail
      go_ret
      exact ⟨_, rfl, by rw [← HE.out]; exact HO.out, HW.out⟩
    · have e1 := ne_emp h0
      have hr := M.runs_step (l := S.data.toList) (by rw [len_]; exact h0)
      have hp := HP.out
      rw [hr, M.bytesOf_cons, ← List.append_assoc] at hp
      have hlen : (l ++ pre).length + S.size + 1 ≤ 140737488355001 := by
        have := congrArg List.length HP.out
        rw [List.length_append, M.runs_size, len_] at this
        rw [List.length_append]
        omega
      have hlt : (S.data.toList.take 128).length = min 128 S.size := by rw [List.length_take, len_]
      obtain ⟨b0, hb0⟩ : ∃ b : UInt8, b = UInt8.ofNat (min 128 S.size - 1) := ⟨_, rfl⟩
      have hbv : (b0.toNat : Int) = (min 128 S.size - 1 : Nat) := by rw [hb0, M.u8_of (by omega)]
      have hby : (M.Tok.lit (S.data.toList.take 128)).bytes = b0 :: S.data.toList.take 128 := by
        show UInt8.ofNat ((S.data.toList.take 128).length - 1) :: _ = _
        rw [hlt, hb0]
      rw [hby] at hp
      have HP2 := hid hp
      have ho := HO.out
      unfold Own at ho
      have hsz := HW.out.size
      generalize hN : (l ++ pre).length = N at *
      have HN := hid hN
      clear hr hp hlt hb0 hby hN HP HO
      by_cases h8 : S.size ≤ 128
      · have hbe : (S.size : Int) - 1 = (b0.toNat : Int) := by omega
        have q1 := b0.toNat_lt
        have htk : S.data.toList.take 128 = S.data.toList := List.take_of_length_le (by rw [len_]; omega)
        have HTK := hid htk
        clear hbv htk
        go_wp2_with (at_builtin; refine wpList_append_own _ rfl _ _ 63 rfl B 5 i0 (.int .u8 0) 1 1 Tryz.underBytes hi hz0 hz1 hz2 rfl (by decide) _ _ _ rfl (ho.alloc _) ⟨wr.heap.size, 0, none⟩ 1 1 (bc [b0]) rfl rfl ?c1 ?c2 ?c3 ?c4 ?c5 ?_)
        case c1 => exact cells_new wr (bc [b0]) 5
        case c2 => exact bc_one _
        case c3 => unfold maxLen; omega
        case c4 => omega
        case c5 => simp; omega
        · intro v' w1 hown1 hgrow _
          have HB1 := hid (bel_step HW.out ho (by omega) hgrow)
          have ho1 := hown1
          have hsz1 := HB1.out.size
          clear hown1 hgrow ho HW
          go_wp2_with (at_builtin; refine Lib.wpList_append_own_string _ rfl _ _ 63 9 rfl B 5 i0 Tryz.underBytes Tryz.under9 hi hz0 hz1 hz2 _ _ _ rfl ho1 S rfl ?d1 ?d2 ?d3 ?_)
          case d1 => unfold maxLen; omega
          case d2 => omega
          case d3 => omega
          · intro v'' w2 hown2 hgrow2 _
            have HB2 := hid (bel_step0 HB1.out ho1 (by omega) hgrow2)
            have HO2 : Hid (Own w2 B v'' (l ++ (pre ++ b0 :: S.data.toList.take 128))) := by
              show Own w2 B v'' (l ++ (pre ++ b0 :: S.data.toList.take 128))
              rw [← List.append_assoc]
              refine own_mk (n := N) (m := 1 + S.size) (xs := bc [b0] ++ bc S.data.toList) ?_ HN.out ?_ ?_
              · rw [← bc_str, ← Nat.add_assoc]; first | exact hown2 | (rw [← List.append_assoc]; exact hown2)
              · rw [HTK.out, List.length_cons, len_]; omega
              · rw [HTK.out, ← bc_app]; rfl
            clear hown2 hgrow2 ho1
            go_wp2_with fail
            go_roundg 0
            case measure => omega
            case rel =>
              refine ⟨_, pre ++ b0 :: S.data.toList.take 128, ?_, rfl, HO2, ?_, HB2⟩
              · first | rfl | simp
              · show _ = T
                rw [← HP2.out]
                congr 2
                have hd : S.data.toList.drop 128 = [] := List.drop_eq_nil_of_le (by rw [len_]; omega)
                rw [hd]
                first | rfl | simp
      · have hbe : (127 : Int) = (b0.toNat : Int) := by omega
        have q1 := b0.toNat_lt
        have htk : S.data.toList.take 128 = (S.extract 0 128).data.toList := by rw [len_ext, List.drop_zero]
        have hex : (S.extract 0 128).size = 128 := by rw [← len_, len_ext, List.length_take, List.length_drop, len_]; omega
        have HTK := hid htk
        clear hbv htk
        go_wp2_with (at_builtin; refine wpList_append_own _ rfl _ _ 63 rfl B 5 i0 (.int .u8 0) 1 1 Tryz.underBytes hi hz0 hz1 hz2 rfl (by decide) _ _ _ rfl (ho.alloc _) ⟨wr.heap.size, 0, none⟩ 1 1 (bc [b0]) rfl rfl ?c1 ?c2 ?c3 ?c4 ?c5 ?_)
        case c1 => exact cells_new wr (bc [b0]) 5
        case c2 => exact bc_one _
        case c3 => unfold maxLen; omega
        case c4 => omega
        case c5 => simp; omega
        · intro v' w1 hown1 hgrow _
          have HB1 := hid (bel_step HW.out ho (by omega) hgrow)
          have ho1 := hown1
          have hsz1 := HB1.out.size
          clear hown1 hgrow ho HW
          go_wp2_with (at_builtin; refine Lib.wpList_append_own_string _ rfl _ _ 63 9 rfl B 5 i0 Tryz.underBytes Tryz.under9 hi hz0 hz1 hz2 _ _ _ rfl ho1 (S.extract 0 128) rfl ?d1 ?d2 ?d3 ?_)
          case d1 => unfold maxLen; omega
          case d2 => omega
          case d3 => omega
          · intro v'' w2 hown2 hgrow2 _
            have HB2 := hid (bel_step0 HB1.out ho1 (by omega) hgrow2)
            have HO2 : Hid (Own w2 B v'' (l ++ (pre ++ b0 :: S.data.toList.take 128))) := by
              show Own w2 B v'' (l ++ (pre ++ b0 :: S.data.toList.take 128))
              rw [← List.append_assoc]
              refine own_mk (n := N) (m := 1 + (S.extract 0 128).size) (xs := bc [b0] ++ bc (S.extract 0 128).data.toList) ?_ HN.out ?_ ?_
              · rw [← bc_str, ← Nat.add_assoc, hex]; exact hown2
              · rw [HTK.out, List.length_cons, len_]; omega
              · rw [HTK.out, ← bc_app]; rfl
            clear hown2 hgrow2 ho1
            go_wp2_with fail
            go_roundg (S.size - 128)
            case measure => omega
            case rel =>
              refine ⟨_, pre ++ b0 :: S.data.toList.take 128, ?_, rfl, HO2, ?_, HB2⟩
              · rw [← len_, len_ext, List.length_take, List.length_drop, len_]; omega
              · show _ = T
                have hd : (S.data.toList.drop 128).take (S.size - 128) = S.data.toList.drop 128 := List.take_of_length_le (by rw [List.length_drop, len_]; omega)
                rw [← HP2.out, len_ext, hd]
end Go.Proofs.YtihokphamgkkcaaGreat.Lz
namespace Go.Proofs.YtihokphamgkkcaaGreat.Lz
open Go.RowKit
theorem Chn.below {w w' : World} {g lo p B : Nat} {l : List UInt8} (h : Chn w g l lo p) (hb : Below B w w') (hg : g < B) : Chn w' g l lo p := by
  obtain ⟨c, k, r⟩ := h
  exact ⟨c, (hb.block g hg).trans k, r⟩
theorem Own.qt {w w' : World} {B : Nat} {v : Value} {l : List UInt8} (h : Own w B v l) (hq : Qt w w') : Own w' B v l := by
  obtain ⟨n, rfl⟩ := hq
  exact own_ch (S := fun _ => False) h ((Ch.refl _ w).drewN n) (fun _ _ k => k)
theorem Own.ch {S : Nat → Prop} {w w' : World} {B : Nat} {v : Value} {l : List UInt8} (h : Own w B v l) (hc : Ch S w w') (hS : ∀ i, B ≤ i → ¬ S i) : Own w' B v l := own_ch h hc hS
theorem ext_all (s : ByteArray) : s.extract 0 s.size = s := by
  rw [ext_ba, List.drop_zero, List.take_of_length_le (by rw [len_]; omega)]
  rfl
set_option maxHeartbeats 4000000 in
set_option maxRecDepth 20000 in
theorem pack_any (s : ByteArray) (w : World) (hs : s.size ≤ 139000000000000) :
    Calls Tryz.prog 89 #[.string s] w fun e w' => e = .returned (.string (ba (M.pack s.data.toList))) ∧ Below w.heap.size w w' := by
  have hv := (zero_of_info Tryz.infoChn).1
  have hz := ChnC.zero s.data.toList 0
  have hadd := fun (g q : Nat) (wr : World) (h1 : q < s.size) => add_any s g 0 q wr (by omega) h1 (Nat.zero_le _)
  have hbst := fun (g q : Nat) (wr : World) (h1 : q < s.size) => cbest_any s g 0 q wr (by omega) h1 (Or.inl rfl)
  have hlen := len_ s
  have hpl := M.pack_size s.data.toList
  have hpk : M.bytesOf (M.pk s.data.toList 0 0) = M.pack s.data.toList := rfl
  have hext := len_ext s
  generalize Array.replicate 16384 (Value.int .i64 0) = z at *
  generalize M.pack s.data.toList = P at *
  generalize s.data.toList = l at *
  have hPl : P.length ≤ 140500000000000 := by omega
  obtain ⟨H, hH⟩ : ∃ H, H = w.heap.size := ⟨_, rfl⟩
  have HZ := hid hz
  have HA := hid hadd
  have HB := hid hbst
  have HK := hid hpk
  have HL := hid hlen
  have HE := hid hext
  clear hz hadd hbst hpk hlen hext hpl
  go_enter Tryz.func89, Tryz.ntmps89
  go_wp2_with fail
  clear hv
  have C0 := hid (⟨z, heap_new w _, HZ.out⟩ : Chn (w.alloc (.cells z 183)) w.heap.size l 0 0)
  have B0 := hid ((Below.refl _ w).alloc (Nat.le_refl _) (.cells z 183))
  have O0 : Hid (Own (w.alloc (.cells z 183)) (w.heap.size + 1) (.slice none 0 0) []) := World.ownsRow_nil _ _ _ _
  have Z0 : Hid (w.heap.size + 1 ≤ (w.alloc (.cells z 183)).heap.size) := by show _ ≤ _; simp
  generalize w.alloc (.cells z 183) = w0 at *
  have HH := hid hH
  rw [← hH] at C0 B0 O0 Z0 ⊢
  clear hH
  go_loopg [4, 5, 6, 7, 8, 36] s.size (fun k o t a n d i wr => ∃ (p fr : Nat) (pre : List UInt8), p + k = s.size ∧ fr ≤ p ∧ t = .int .i64 fr ∧ a = .int .i64 p ∧ Hid (Own wr (H + 1) o pre) ∧ Hid (pre ++ M.bytesOf (M.pk l fr p) = P) ∧ Hid (Chn wr H l 0 p) ∧ Hid (Below H w wr) ∧ Hid (H + 1 ≤ wr.heap.size))
  case atStart => exact ⟨0, 0, [], by omega, by omega, rfl, rfl, O0, HK, C0, B0, Z0⟩
  case round =>
    clear C0 B0 O0 Z0 HK HZ
    obtain ⟨p, fr, pre, hk, hfr, rfl, rfl, HO, HP, HC, HW, HS⟩ := hrel
    by_cases hlt : p < s.size
    · obtain ⟨k, rfl⟩ : ∃ k, gk = k + 1 := ⟨gk - 1, by omega⟩
      have cb := HB.out H p wr hlt HC.out
      have hbl := M.best_le l p
      by_cases h0 : (M.best l p).1 = 0
      · have HP2 := hid (HP.out)
        rw [M.pk_lit (by rw [HL.out]; exact hlt) h0] at HP2
        rw [h0] at cb
        generalize (M.best l p).2 = D at *
        have CB := hid cb
        clear cb h0 hbl HP
        go_wp2_with fail
        refine CB.out.mono ?_
        rintro e w1 ⟨rfl, hq⟩
        have HC1 := hid (HC.out.qt hq)
        have HO1 := hid (HO.out.qt hq)
        have HW1 := hid (below_qt HW.out hq)
        have HS1 : Hid (H + 1 ≤ w1.heap.size) := by show _ ≤ _; rw [hq.heap]; exact HS.out
        clear hq CB HC HO HW HS
        go_wp2_with fail
        refine (HA.out H p w1 hlt HC1.out).mono ?_
        rintro e w2 ⟨rfl, hc2, hch⟩
        have HC2 := hid hc2
        have HO2 := hid (HO1.out.ch hch (fun i hi => by omega))
        have HW2 := hid (bel_ch HW1.out hch (by have := HS1.out; omega) (fun i hi => by omega))
        have HS2 : Hid (H + 1 ≤ w2.heap.size) := Nat.le_trans HS1.out hch.size
        clear hc2 hch HC1 HO1 HW1 HS1
        go_wp2_with fail
        go_roundg k
        case measure => omega
        case rel => exact ⟨p + 1, fr, pre, by omega, by omega, rfl, by go_num, HO2, HP2, HC2, HW2, HS2⟩
      · have hbs := M.best_some h0
        have HP2 := hid (HP.out)
        rw [M.pk_mat (by rw [HL.out]; exact hlt) h0, M.bytesOf_append, M.bytesOf_cons] at HP2
        have HFR : Hid (M.runs ((l.take p).drop fr) = M.runs (s.extract fr p).data.toList) := by
          show M.runs _ = M.runs _
          rw [HE.out, List.drop_take]
        rw [HFR.out] at HP2
        generalize (M.best l p).2 = D at *
        generalize (M.best l p).1 = N at *
        have hN : p + N ≤ s.size := by have := HL.out; omega
        have heq : ((N : Int) == 0) = false := by rw [beq_eq_false_iff_ne]; omega
        have h4 := hbs.1
        have CB := hid cb
        have hb131 := hbl.2.1
        have hbD := hbl.2.2.2
        clear cb h0 hbl HP hbs HFR
        go_wp2_with fail
        refine CB.out.mono ?_
        rintro e w1 ⟨rfl, hq⟩
        have HC1 := hid (HC.out.qt hq)
        have HO1 := hid (HO.out.qt hq)
        have HW1 := hid (below_qt HW.out hq)
        have HS1 : Hid (H + 1 ≤ w1.heap.size) := by show _ ≤ _; rw [hq.heap]; exact HS.out
        have HLE : Hid (pre.length + (M.bytesOf (M.runs (s.extract fr p).data.toList)).length ≤ 140500000000000) := by
          have := congrArg List.length HP2.out
          simp only [List.length_append] at this
          show _ ≤ _
          omega
        clear hq CB HC HO HW HS
        go_wp2_with fail
        refine (alit_any (H + 1) pre _ (s.extract fr p) w1 HO1.out HS1.out (by have := HLE.out; omega)).mono ?_
        rintro e w2 ⟨v2, rfl, ho2, hb2⟩
        have HC2 := hid (HC1.out.below hb2 (by omega))
        have HO2 := hid ho2
        have HW2 := hid (HW1.out.trans (hb2.mono (by omega)))
        have HS2 : Hid (H + 1 ≤ w2.heap.size) := Nat.le_trans HS1.out hb2.size
        clear ho2 hb2 HC1 HO1 HW1 HS1
        go_wp2_with fail
        refine (amat_any (H + 1) _ _ N D w2 HO2.out HS2.out h4 hb131 hbD (by rw [List.length_append]; have := HLE.out; omega)).mono ?_
        rintro e w3 ⟨v3, rfl, ho3, hb3⟩
        have HC3 := hid (HC2.out.below hb3 (by omega))
        have HO3 := hid ho3
        have HW3 := hid (HW2.out.trans (hb3.mono (by omega)))
        have HS3 : Hid (H + 1 ≤ w3.heap.size) := Nat.le_trans HS2.out hb3.size
        have HP3 : Hid (pre ++ M.bytesOf (M.runs (s.extract fr p).data.toList) ++ (M.Tok.mat N D).bytes ++ M.bytesOf (M.pk l (p + N) (p + N)) = P) := by
          show _ = P
          rw [← HP2.out]
          simp only [List.append_assoc]
        generalize pre ++ M.bytesOf (M.runs (s.extract fr p).data.toList) ++ (M.Tok.mat N D).bytes = pre3 at *
        clear ho3 hb3 HC2 HO2 HW2 HS2 HP2 HLE
        go_wp2_with fail
        go_loopg [6, 36] N (fun k a i wr => ∃ j : Nat, j + k = N ∧ a = .int .i64 (p + j : Nat) ∧ i = .int .i64 j ∧ Hid (Own wr (H + 1) v3 pre3) ∧ Hid (Chn wr H l 0 (p + j)) ∧ Hid (Below H w wr) ∧ Hid (H + 1 ≤ wr.heap.size))
        case atStart => exact ⟨0, by omega, rfl, rfl, HO3, HC3, HW3, HS3⟩
        case round =>
          clear HO3 HC3 HW3 HS3
          obtain ⟨j, hj, rfl, rfl, HO, HC, HW, HS⟩ := hrel
          by_cases hjl : j < N
          · obtain ⟨k', rfl⟩ : ∃ k', gk = k' + 1 := ⟨gk - 1, by omega⟩
            have ca := HA.out H (p + j) wr (by omega) HC.out
            obtain ⟨q, hq⟩ : ∃ q, q = p + j := ⟨_, rfl⟩
            rw [← hq] at ca
            rw [← hq]
            have hql : q < s.size := by omega
            have HQ := hid hq
            have CA := hid ca
            clear ca hq HC
            go_wp2_with fail
            refine CA.out.mono ?_
            rintro e w4 ⟨rfl, hc4, hch⟩
            have HC4 := hid hc4
            have HO4 := hid (HO.out.ch hch (fun i hi => by omega))
            have HW4 := hid (bel_ch HW.out hch (by have := HS.out; omega) (fun i hi => by omega))
            have HS4 : Hid (H + 1 ≤ w4.heap.size) := Nat.le_trans HS.out hch.size
            clear hc4 hch HO HW HS CA
            go_wp2_with fail
            go_roundg k'
            case measure => omega
            case rel => exact ⟨j + 1, by omega, by rw [← Nat.add_assoc, ← HQ.out]; go_num, by go_num, HO4, by rw [← Nat.add_assoc, ← HQ.out]; exact HC4, HW4, HS4⟩
          · obtain rfl : j = N := by omega
            obtain ⟨q, hq⟩ : ∃ q, q = p + j := ⟨_, rfl⟩
            rw [← hq] at HC HP3
            rw [← hq]
            go_wp2_with fail
            go_roundg (s.size - q)
            case measure => omega
            case rel => exact ⟨q, q, pre3, by omega, by omega, rfl, rfl, HO, HP3, HC, HW, HS⟩
    · obtain ⟨Z, hZ⟩ : ∃ Z, Z = s.size := ⟨_, rfl⟩
      obtain rfl : p = Z := by omega
      have HFR : Hid (l.drop fr = (s.extract fr s.size).data.toList) := by
        show l.drop fr = _
        rw [HE.out, List.take_of_length_le (by rw [List.length_drop, HL.out]; exact Nat.le_refl _)]
      have HP2 := hid (HP.out)
      rw [M.pk_end (by rw [HL.out]; omega), HFR.out] at HP2
      have HLE : Hid (pre.length + (M.bytesOf (M.runs (s.extract fr s.size).data.toList)).length ≤ 140500000000000) := by
          have := congrArg List.length HP2.out
          simp only [List.length_append] at this
          show _ ≤ _
          omega
      clear HP HFR HC HA HB HE HL
      by_cases hf0 : fr = 0
      · subst hf0
        rw [ext_all] at HP2 HLE
        go_wp2_with fail
        refine (alit_any (H + 1) pre _ s _ HO.out HS.out (by have := HLE.out; omega)).mono ?_
        rintro e w2 ⟨v2, rfl, ho2, hb2⟩
        have HW2 := hid (HW.out.trans (hb2.mono (by omega)))
        have hcv := conv_own ho2
        rw [HP2.out] at hcv
        clear ho2 hb2
        go_wp2_with fail
        go_ret
        exact ⟨rfl, by rw [← HH.out]; exact HW2.out⟩
      · go_wp2_with fail
        refine (alit_any (H + 1) pre _ (s.extract fr s.size) _ HO.out HS.out (by have := HLE.out; omega)).mono ?_
        rintro e w2 ⟨v2, rfl, ho2, hb2⟩
        have HW2 := hid (HW.out.trans (hb2.mono (by omega)))
        have hcv := conv_own ho2
        rw [HP2.out] at hcv
        clear ho2 hb2
        go_wp2_with fail
        go_ret
        exact ⟨rfl, by rw [← HH.out]; exact HW2.out⟩
end Go.Proofs.YtihokphamgkkcaaGreat.Lz
