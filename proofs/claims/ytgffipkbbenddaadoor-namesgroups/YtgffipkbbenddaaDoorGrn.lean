/- Groups of sorted names; how many there are. -/
import Derived.Test.YtgffipkbbenddaaDoorGrm
import Derived.Sort.Walk0
namespace Go.Proofs.YtgffipkbbenddaaDoor
open Go.Lib
theorem u8lt {x y : Nat} (hx : x ≤ 9) (hy : y ≤ 9) (h : x < y) : UInt8.ofNat (48 + x) < UInt8.ofNat (48 + y) := by
  rw [UInt8.lt_iff_toNat_lt, of48 hx, of48 hy]; omega
theorem D_lt : ∀ (k a b : Nat) (e e' : List UInt8), a % 10 ^ k < b % 10 ^ k → (D k a ++ e) < (D k b ++ e')
  | 0, a, b, e, e', h => by simp [Nat.mod_one] at h
  | k + 1, a, b, e, e', h => by
    rw [D_front, D_front, List.cons_append, List.cons_append, List.cons_lt_cons_iff]
    rw [Nat.pow_succ, Nat.mod_mul, Nat.mod_mul] at h
    have ha : a / 10 ^ k % 10 ≤ 9 := by omega
    have hb : b / 10 ^ k % 10 ≤ 9 := by omega
    have pa : a % 10 ^ k < 10 ^ k := Nat.mod_lt _ (Nat.pow_pos (by decide))
    have pb : b % 10 ^ k < 10 ^ k := Nat.mod_lt _ (Nat.pow_pos (by decide))
    have ih := D_lt k a b e e'
    generalize a / 10 ^ k % 10 = x at *
    generalize b / 10 ^ k % 10 = y at *
    generalize a % 10 ^ k = u at *
    generalize b % 10 ^ k = v at *
    generalize 10 ^ k = p at *
    rcases Nat.lt_trichotomy x y with h1 | h1 | h1
    · exact Or.inl (u8lt ha hb h1)
    · subst h1
      exact Or.inr ⟨rfl, ih (by omega)⟩
    · have h2 : p * (y + 1) ≤ p * x := Nat.mul_le_mul_left _ h1
      rw [Nat.mul_add, Nat.mul_one] at h2
      omega
theorem nm_lt {b c k i : Nat} (hb : b ≤ 4611686018427387904) (hc : c ≤ 4611686018427387904) (h : b < c) : nm b k < nm c i := by
  unfold nm
  exact D_lt 20 b c _ _ (by rw [Nat.mod_eq_of_lt (by omega), Nat.mod_eq_of_lt (by omega)]; exact h)
theorem nm_le {b c k i : Nat} (hb : b ≤ 4611686018427387904) (hc : c ≤ 4611686018427387904) (h : nm b k ≤ nm c i) : b ≤ c := by
  rcases Nat.lt_or_ge c b with h1 | h1
  · exact absurd (nm_lt hc hb h1) (List.not_lt.2 h)
  · exact h1
theorem Gr.addS {l : List Sg} {P : List (List UInt8)} {b k : Nat} (h : Gr l P) (hb : b ≤ 4611686018427387904) (hk : k ≤ 2) (hle : ∀ c i, c ≤ 4611686018427387904 → i ≤ 2 → nm c i ∈ P → c ≤ b) : Gr (addS l b k) (P ++ [nm b k]) := by
  have hall : ∀ s ∈ l, s.b ≤ b := fun s hs => by
    obtain ⟨c, hc, e, _, i, hi, hm⟩ := h.each s hs
    have := hle c i hc hi hm
    omega
  unfold Go.Proofs.YtgffipkbbenddaaDoor.addS
  cases hg : l.getLast? with
  | none =>
    have hl : l = [] := List.getLast?_eq_none_iff.1 hg
    subst hl
    exact Gr.fresh (A := []) (B := []) h hb hk (by simp) (by simp)
  | some s =>
    obtain ⟨A, rfl⟩ : ∃ A, l = A ++ [s] := by
      obtain ⟨A, hA⟩ := List.getLast?_eq_some_iff.1 hg
      exact ⟨A, hA⟩
    simp only [List.dropLast_concat]
    by_cases e : s.b = b
    · rw [if_pos e]
      exact Gr.more (A := A) (B := []) h hb hk e
    · rw [if_neg e]
      have hs : s.b < b := by have := hall s (by simp); omega
      refine Gr.fresh (A := A ++ [s]) (B := []) (by rw [List.append_nil]; exact h) hb hk (fun u hu => ?_) (by simp)
      rcases List.mem_append.1 hu with hu | hu
      · have hr := h.rise
        rw [List.pairwise_append] at hr
        have := hr.2.2 u hu s (by simp)
        omega
      · rw [List.mem_singleton.1 hu]; exact hs
theorem gs1_some {st : List Sg × List (List UInt8)} {t : List UInt8} {b k : Nat} (h : prs t = some (b, k)) : gs1 st t = (addS st.1 b k, st.2) := by unfold gs1; rw [h]
theorem gs1_none {st : List Sg × List (List UInt8)} {t : List UInt8} (h : prs t = none) : gs1 st t = (st.1, st.2 ++ [t]) := by unfold gs1; rw [h]
def bad (t : List UInt8) : Bool := (prs t).isNone
theorem grp_all : ∀ (R P : List (List UInt8)) (st : List Sg × List (List UInt8)), Gr st.1 P → st.2 = P.filter bad → (P ++ R).Pairwise (fun x y => x ≤ y) → Gr (R.foldl gs1 st).1 (P ++ R) ∧ (R.foldl gs1 st).2 = (P ++ R).filter bad
  | [], P, st, h1, h2, _ => by rw [List.append_nil]; exact ⟨h1, h2⟩
  | t :: R, P, st, h1, h2, h3 => by
    have e : P ++ t :: R = (P ++ [t]) ++ R := by simp
    rw [List.foldl_cons, e]
    rw [e] at h3
    cases hp : prs t with
    | none =>
      rw [gs1_none hp]
      refine grp_all R (P ++ [t]) _ (h1.stray hp) ?_ h3
      rw [List.filter_append, h2, List.filter_cons_of_pos (by unfold bad; rw [hp]; rfl)]
      rfl
    | some bk =>
      obtain ⟨b, k⟩ := bk
      obtain ⟨hb, hk, e2⟩ := prs_some hp
      rw [gs1_some hp]
      have hbad : bad t = false := by unfold bad; rw [hp]; rfl
      clear hp
      have h5 : Gr (addS st.1 b k) (P ++ [t]) := by
        rw [e2]
        refine h1.addS hb hk fun c i hc hi hm => ?_
        rw [List.pairwise_append] at h3
        have h4 := h3.1
        rw [List.pairwise_append] at h4
        exact nm_le hc hb (by rw [← e2]; exact h4.2.2 _ hm _ (List.mem_singleton.2 rfl))
      refine grp_all R (P ++ [t]) _ h5 ?_ h3
      show st.2 = _
      rw [List.filter_append, h2, List.filter_cons_of_neg (by rw [hbad]; decide), List.filter_nil, List.append_nil]
theorem grp_sorted {S : List (List UInt8)} (h : S.Pairwise (fun x y => x ≤ y)) : Gr (grp S).1 S ∧ (grp S).2 = S.filter bad := by
  exact grp_all S [] ([], []) Gr.nil rfl h
/-- The names in order. -/
def srt (T : List (List UInt8)) : List (List UInt8) := T.mergeSort fun x y => decide (x ≤ y)
theorem srt_perm (T : List (List UInt8)) : (srt T).Perm T := List.mergeSort_perm T _
theorem srt_sorted (T : List (List UInt8)) : (srt T).Pairwise (fun x y => x ≤ y) := by
  have := List.pairwise_mergeSort (le := fun x y : List UInt8 => decide (x ≤ y)) (fun a b c h k => by simp at *; exact List.le_trans h k) (fun a b => by simp; exact List.le_total a b) T
  exact this.imp fun h => by simpa using h
theorem Gr.perm {l : List Sg} {P Q : List (List UInt8)} (h : Gr l P) (hp : P.Perm Q) : Gr l Q := by
  refine ⟨h.rise, fun s hs => ?_, fun b k hb hk hm => h.all b k hb hk (hp.mem_iff.2 hm)⟩
  obtain ⟨b, hb, e, h1, k, hk, h2⟩ := h.each s hs
  exact ⟨b, hb, e, fun k hk => (h1 k hk).trans hp.mem_iff, k, hk, hp.mem_iff.1 h2⟩
/-- What a segment's three names count. -/
def tri (T : List (List UInt8)) (b : Nat) : Nat := T.count (nm b 0) + T.count (nm b 1) + T.count (nm b 2)
def tld (T : List (List UInt8)) (l : List Sg) : Nat := (l.map fun s => tri T s.b.toNat).sum
/-- How often a text is one of a segment's names. -/
def ct (t : List UInt8) (b : Nat) : Nat := (if t = nm b 0 then 1 else 0) + (if t = nm b 1 then 1 else 0) + (if t = nm b 2 then 1 else 0)
theorem tri_cons (t : List UInt8) (T : List (List UInt8)) (b : Nat) : tri (t :: T) b = tri T b + ct t b := by
  unfold tri ct
  rw [List.count_cons, List.count_cons, List.count_cons]
  simp only [beq_iff_eq]
  omega
def cts (t : List UInt8) (l : List Sg) : Nat := (l.map fun s => ct t s.b.toNat).sum
theorem tld_cons (t : List UInt8) (T : List (List UInt8)) : ∀ l : List Sg, tld (t :: T) l = tld T l + cts t l
  | [] => rfl
  | s :: l => by
    have ih := tld_cons t T l
    show tri (t :: T) s.b.toNat + tld (t :: T) l = (tri T s.b.toNat + tld T l) + (ct t s.b.toNat + cts t l)
    rw [tri_cons, ih]
    omega
theorem ct_none {t : List UInt8} {b : Nat} (h : ∀ k, k ≤ 2 → t ≠ nm b k) : ct t b = 0 := by
  unfold ct
  rw [if_neg (h 0 (by omega)), if_neg (h 1 (by omega)), if_neg (h 2 (by omega))]
theorem ct_one {b k : Nat} (hb : b ≤ 4611686018427387904) (hk : k ≤ 2) : ct (nm b k) b = 1 := by
  have iff : ∀ i, i ≤ 2 → (nm b k = nm b i ↔ k = i) := fun i hi => ⟨fun h => (nm_inj hb hb hk hi h).2, fun h => by rw [h]⟩
  unfold ct
  simp only [iff 0 (by omega), iff 1 (by omega), iff 2 (by omega)]
  clear iff
  rcases (by omega : k = 0 ∨ k = 1 ∨ k = 2) with h | h | h <;> rw [h] <;> rfl
theorem one_bad {t : List UInt8} (ht : prs t = none) : ∀ l : List Sg, (∀ s ∈ l, ∃ b : Nat, b ≤ 4611686018427387904 ∧ s.b = b) → cts t l = 0
  | [], _ => rfl
  | s :: l, h => by
    have ih := one_bad ht l (fun u hu => h u (List.mem_cons_of_mem _ hu))
    obtain ⟨b, hb, e⟩ := h s (List.mem_cons_self ..)
    show ct t s.b.toNat + cts t l = 0
    rw [ih, e, Int.toNat_natCast, ct_none fun k hk e' => by rw [e', prs_nm hb hk] at ht; cases ht]
theorem cts_none {b k : Nat} (hb : b ≤ 4611686018427387904) (hk : k ≤ 2) : ∀ l : List Sg, (∀ s ∈ l, ∃ c : Nat, c ≤ 4611686018427387904 ∧ s.b = c ∧ c ≠ b) → cts (nm b k) l = 0
  | [], _ => rfl
  | s :: l, h => by
    have ih := cts_none hb hk l (fun u hu => h u (List.mem_cons_of_mem _ hu))
    obtain ⟨c, hc, e, hne⟩ := h s (List.mem_cons_self ..)
    show ct (nm b k) s.b.toNat + cts (nm b k) l = 0
    rw [ih, e, Int.toNat_natCast, ct_none fun i hi e' => hne (nm_inj hb hc hk hi e').1.symm]
theorem one_good {b k : Nat} (hb : b ≤ 4611686018427387904) (hk : k ≤ 2) : ∀ l : List Sg, (∀ s ∈ l, ∃ c : Nat, c ≤ 4611686018427387904 ∧ s.b = c) → l.Pairwise (fun x y => x.b < y.b) → (∃ s ∈ l, s.b = b) → cts (nm b k) l = 1
  | [], _, _, h => by obtain ⟨s, hs, _⟩ := h; cases hs
  | s :: l, h, hp, hx => by
    rw [List.pairwise_cons] at hp
    obtain ⟨c, hc, e⟩ := h s (List.mem_cons_self ..)
    show ct (nm b k) s.b.toNat + cts (nm b k) l = 1
    rw [e, Int.toNat_natCast]
    by_cases hbc : b = c
    · subst hbc
      rw [ct_one hb hk, cts_none hb hk l fun u hu => ?_]
      obtain ⟨d, hd, e2⟩ := h u (List.mem_cons_of_mem _ hu)
      have hlt := hp.1 u hu
      exact ⟨d, hd, e2, by omega⟩
    · rw [ct_none fun i hi e' => hbc (nm_inj hb hc hk hi e').1, one_good hb hk l (fun u hu => h u (List.mem_cons_of_mem _ hu)) hp.2 ?_]
      obtain ⟨u, hu, e2⟩ := hx
      rcases List.mem_cons.1 hu with rfl | hu
      · exact absurd (Int.ofNat.inj (e2.symm.trans e)) hbc
      · exact ⟨u, hu, e2⟩
theorem tld_nil : ∀ l : List Sg, tld [] l = 0
  | [] => rfl
  | s :: l => by
    show tri [] s.b.toNat + tld [] l = 0
    rw [tld_nil l]
    rfl
/-- Every name is in a segment or stray. -/
theorem tld_all {l : List Sg} (h1 : ∀ s ∈ l, ∃ b : Nat, b ≤ 4611686018427387904 ∧ s.b = b) (h2 : l.Pairwise fun x y => x.b < y.b) : ∀ T : List (List UInt8), (∀ b k, b ≤ 4611686018427387904 → k ≤ 2 → nm b k ∈ T → ∃ s ∈ l, s.b = b) → tld T l + (T.filter bad).length = T.length
  | [], _ => by
    rw [tld_nil]
    rfl
  | t :: T, h => by
    have ih := tld_all h1 h2 T fun b k hb hk hm => h b k hb hk (List.mem_cons_of_mem _ hm)
    rw [tld_cons]
    cases hp : prs t with
    | none =>
      rw [one_bad hp l h1, List.filter_cons_of_pos (by unfold bad; rw [hp]; rfl), List.length_cons, List.length_cons]
      omega
    | some bk =>
      obtain ⟨b, k⟩ := bk
      obtain ⟨hb, hk, e2⟩ := prs_some hp
      have hbad : bad t = false := by unfold bad; rw [hp]; rfl
      clear hp
      have h5 : cts t l = 1 := by
        rw [e2]
        exact one_good hb hk l h1 h2 (h b k hb hk (by rw [← e2]; exact List.mem_cons_self ..))
      rw [h5, List.filter_cons_of_neg (by rw [hbad]; decide), List.length_cons]
      omega
end Go.Proofs.YtgffipkbbenddaaDoor
