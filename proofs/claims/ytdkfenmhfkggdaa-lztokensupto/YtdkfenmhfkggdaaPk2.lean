/- What is packed is unpacked; with a wrong length it is refused. -/
import Derived.Test.YtdkfenmhfkggdaaPk
namespace M
def goT (len : Nat) : List Tok → List UInt8 → Except Nat (List UInt8)
  | [], out => if out.length < len then .error 20 else .ok out
  | t :: ts, out => if out.length < t.dist then .error 25 else if len - out.length < t.count then .error 22 else goT len ts (app out t)
theorem bytes_pos (t : Tok) : t.bytes.length ≠ 0 := by cases t <;> simp [Tok.bytes]
theorem un_goT (len : Nat) : ∀ (ts : List Tok) (out : List UInt8), (∀ t ∈ ts, t.ok) → un len (bytesOf ts) out = goT len ts out
  | [], out, _ => rfl
  | t :: ts, out, h => by
    have ht := h t (List.mem_cons_self ..)
    have hp : (bytesOf (t :: ts)).length ≠ 0 := by
      rw [bytesOf_cons, List.length_append]
      have := bytes_pos t
      omega
    rw [un_step hp, bytesOf_cons, fst_bytes ht]
    simp only [goT]
    rw [List.drop_left, un_goT len ts (app out t) (fun u hu => h u (List.mem_cons_of_mem _ hu))]
/-- The tokens ts tell the bytes of l from k on. -/
inductive Tl (l : List UInt8) : Nat → List Tok → Prop
  | nil : Tl l l.length []
  | cons {k t ts} (h1 : t.dist ≤ k) (h2 : k + t.count ≤ l.length) (h3 : app (l.take k) t = l.take (k + t.count)) (h4 : Tl l (k + t.count) ts) : Tl l k (t :: ts)
theorem Tl.le {l : List UInt8} {k : Nat} {ts : List Tok} (h : Tl l k ts) : k ≤ l.length := by
  cases h with
  | nil => exact Nat.le_refl _
  | cons h1 h2 h3 h4 => omega
theorem Tl.full {l : List UInt8} {k : Nat} {ts : List Tok} (h : Tl l k ts) : goT l.length ts (l.take k) = .ok l := by
  induction h with
  | nil => simp [goT]
  | @cons k t ts h1 h2 h3 h4 ih =>
    have hk : (l.take k).length = k := by simp; omega
    simp only [goT]
    rw [hk, if_neg (by omega), if_neg (by omega), h3, ih]
theorem Tl.long {l : List UInt8} {k len : Nat} {ts : List Tok} (h : Tl l k ts) (hl : l.length < len) : goT len ts (l.take k) = .error 20 := by
  induction h with
  | nil => simp [goT, hl]
  | @cons k t ts h1 h2 h3 h4 ih =>
    have hk : (l.take k).length = k := by simp; omega
    simp only [goT]
    rw [hk, if_neg (by omega), if_neg (by omega), h3, ih]
theorem Tl.short {l : List UInt8} {k len : Nat} {ts : List Tok} (h : Tl l k ts) (hl : len < l.length) (hk : k ≤ len) : goT len ts (l.take k) = .error 22 := by
  induction h with
  | nil => omega
  | @cons k t ts h1 h2 h3 h4 ih =>
    have hk' : (l.take k).length = k := by simp; omega
    simp only [goT]
    rw [hk', if_neg (by omega)]
    by_cases hc : len - k < t.count
    · rw [if_pos hc]
    · rw [if_neg hc, h3, ih (by omega)]
theorem by_take {l : List UInt8} {k i : Nat} (h : i < k) : by_ (l.take k) i = by_ l i := by
  unfold by_
  simp only [List.getD_eq_getElem?_getD]
  rw [List.getElem?_take_of_lt h]
theorem take_snoc {l : List UInt8} {k : Nat} (h : k < l.length) : l.take k ++ [by_ l k] = l.take (k + 1) := by
  rw [List.take_succ_eq_append_getElem h]
  unfold by_
  rw [List.getD_eq_getElem?_getD, List.getElem?_eq_getElem h]
  rfl
theorem cpy_take {l : List UInt8} {d : Nat} (hd : 1 ≤ d) : ∀ n k, d ≤ k → k + n ≤ l.length → (∀ j, j < n → by_ l (k - d + j) = by_ l (k + j)) → cpy d n (l.take k) = l.take (k + n)
  | 0, k, _, _, _ => rfl
  | n + 1, k, h1, h2, h3 => by
    have hk : (l.take k).length = k := by simp; omega
    unfold cpy
    rw [hk, by_take (by omega)]
    have h0 := h3 0 (by omega)
    rw [Nat.add_zero, Nat.add_zero] at h0
    rw [h0, take_snoc (by omega)]
    rw [cpy_take hd n (k + 1) (by omega) (by omega) ?_]
    · congr 1; omega
    · intro j hj
      have := h3 (j + 1) (by omega)
      rw [show k + 1 - d + j = k - d + (j + 1) from by omega, show k + 1 + j = k + (j + 1) from by omega]
      exact this
theorem Tl.runs {l : List UInt8} {e : Nat} {ts : List Tok} (he : e ≤ l.length) (h : Tl l e ts) : ∀ (n fr : Nat), fr + n = e → Tl l fr (runs ((l.take e).drop fr) ++ ts) := by
  intro n
  induction n using Nat.strongRecOn with
  | ind n ih =>
    intro fr hn
    have hl : ((l.take e).drop fr).length = n := by simp; omega
    by_cases h0 : n = 0
    · subst h0
      rw [List.eq_nil_of_length_eq_zero hl, runs_nil]
      obtain rfl : fr = e := by omega
      exact h
    · rw [runs_step (by omega), List.cons_append]
      have hc : (Tok.lit (((l.take e).drop fr).take 128)).count = min 128 n := by simp [Tok.count, Tok.lits, Tok.len]; omega
      refine Tl.cons (by simp [Tok.dist]) (by rw [hc]; omega) ?_ ?_
      · rw [hc]
        simp only [app, Tok.dist, Tok.len, Tok.lits, cpy]
        rw [List.take_drop]
        have h5 : (l.take e).take (fr + 128) = l.take (fr + min 128 n) := by
          rw [List.take_take]
          congr 1
          omega
        rw [h5]
        have h6 : l.take fr = (l.take (fr + min 128 n)).take fr := by
          rw [List.take_take]
          congr 1
          omega
        rw [h6, List.take_append_drop]
      · rw [hc, List.drop_drop]
        by_cases hs : n ≤ 128
        · have h7 : List.drop (fr + 128) (l.take e) = List.drop (fr + min 128 n) (l.take e) := by
            rw [List.drop_eq_nil_of_le (by simp; omega), List.drop_eq_nil_of_le (by simp; omega)]
          rw [h7]
          exact ih (n - min 128 n) (by omega) (fr + min 128 n) (by omega)
        · rw [show min 128 n = 128 from by omega]
          exact ih (n - 128) (by omega) (fr + 128) (by omega)
theorem Tl.pk {l : List UInt8} : ∀ fr at', fr ≤ at' → at' ≤ l.length → Tl l fr (pk l fr at') := by
  refine pk_ind (l := l) ?_ ?_ ?_
  · intro fr at' hf h h'
    rw [pk_end h]
    have := Tl.runs (l := l) (e := l.length) (ts := []) (Nat.le_refl _) .nil (l.length - fr) fr (by omega)
    simpa using this
  · intro fr at' hf h hb ih h'
    rw [pk_lit h hb]
    exact ih (by omega)
  · intro fr at' hf h hb ih h'
    have h1 := best_some hb
    have h2 := best_le l at'
    rw [pk_mat h hb]
    refine Tl.runs (by omega) ?_ (at' - fr) fr (by omega)
    have hc : (Tok.mat (best l at').1 (best l at').2).count = (best l at').1 := by simp [Tok.count, Tok.lits, Tok.len]
    refine Tl.cons (by simp only [Tok.dist]; omega) (by rw [hc]; omega) ?_ ?_
    · rw [hc]
      simp only [app, Tok.dist, Tok.len, Tok.lits, List.append_nil]
      refine cpy_take h1.2.1 _ _ (by omega) (by omega) ?_
      intro j hj
      exact alk_eq l (most l at') _ _ j (by rw [h1.2.2]; exact hj)
    · rw [hc]
      exact ih (by omega)
theorem un_pack (l : List UInt8) : un l.length (pack l) [] = .ok l := by
  unfold pack packT
  rw [un_goT _ _ _ (pk_ok 0 0 (Nat.le_refl _))]
  exact (Tl.pk 0 0 (Nat.le_refl _) (Nat.zero_le _)).full
theorem un_pack_long {l : List UInt8} {len : Nat} (h : l.length < len) : un len (pack l) [] = .error 20 := by
  unfold pack packT
  rw [un_goT _ _ _ (pk_ok 0 0 (Nat.le_refl _))]
  exact (Tl.pk 0 0 (Nat.le_refl _) (Nat.zero_le _)).long h
theorem un_pack_short {l : List UInt8} {len : Nat} (h : len < l.length) : un len (pack l) [] = .error 22 := by
  unfold pack packT
  rw [un_goT _ _ _ (pk_ok 0 0 (Nat.le_refl _))]
  exact (Tl.pk 0 0 (Nat.le_refl _) (Nat.zero_le _)).short h (Nat.zero_le _)
theorem pack_some {l : List UInt8} (h : l.length ≠ 0) : pack l ≠ [] := by
  intro h1
  have h2 := un_pack l
  rw [h1, un_nil] at h2
  rw [if_pos (by simp; omega)] at h2
  cases h2
/-- What the chapter says of abcabcabcd. -/
theorem pack_abc : pack [97, 98, 99, 97, 98, 99, 97, 98, 99, 100] = [2, 97, 98, 99, 130, 0, 3, 0, 100] := by decide +kernel
theorem un_abc : un 10 [2, 97, 98, 99, 130, 0, 3, 0, 100] [] = .ok [97, 98, 99, 97, 98, 99, 97, 98, 99, 100] := by
  have := un_pack [97, 98, 99, 97, 98, 99, 97, 98, 99, 100]
  rw [pack_abc] at this
  exact this
theorem un_bad : un 4 [128, 0, 1] [] = .error 25 := by
  rw [un_step (by simp)]
  have : fst' [128, 0, 1] = .ok (.mat 4 1, 3) := fst_bytes (t := .mat 4 1) (by simp [Tok.ok]) []
  rw [this]
  simp [Tok.dist]
theorem best_abc : best [97, 98, 99, 97, 98, 99, 97, 98, 99, 100] 3 = (6, 3) := by decide +kernel
end M
