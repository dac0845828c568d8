/- What the tokens of packing tell: literals where there is no best match, each match the best at its place. -/
import Derived.Test.YtdkfenmhfkggdaaFrm
namespace Go.Proofs.Ytdkfenmhfkggdaa
open Go.RowKit
inductive Pz (l : List UInt8) : Nat → List M.Tok → Prop
  | nil : Pz l l.length []
  | lit {k s ts} (h1 : 1 ≤ s.length) (h2 : s.length ≤ 128) (h3 : k + s.length ≤ l.length) (h4 : s = (l.drop k).take s.length) (h5 : ∀ j, j < s.length → (M.best l (k + j)).1 = 0) (h6 : s.length < 128 → ∀ t, ts.head? = some t → 4 ≤ t.len) (h7 : Pz l (k + s.length) ts) : Pz l k (.lit s :: ts)
  | mat {k n d ts} (h1 : k < l.length) (h2 : M.best l k = (n, d)) (h3 : 4 ≤ n) (h4 : Pz l (k + n) ts) : Pz l k (.mat n d :: ts)
theorem Pz.runs {l : List UInt8} {e : Nat} {ts : List M.Tok} (he : e ≤ l.length) (h : Pz l e ts) (hm : ∀ t, ts.head? = some t → 4 ≤ t.len) : ∀ (n fr : Nat), fr + n = e → (∀ j, fr ≤ j → j < e → (M.best l j).1 = 0) → Pz l fr (M.runs ((l.take e).drop fr) ++ ts) := by
  intro n
  induction n using Nat.strongRecOn with
  | ind n ih =>
    intro fr hn hb
    have hl : ((l.take e).drop fr).length = n := by simp; omega
    by_cases h0 : n = 0
    · subst h0
      rw [List.eq_nil_of_length_eq_zero hl, M.runs_nil]
      obtain rfl : fr = e := by omega
      exact h
    · rw [M.runs_step (by omega), List.cons_append]
      have hlen : (((l.take e).drop fr).take 128).length = min 128 n := by rw [List.length_take, hl]
      refine Pz.lit (by rw [hlen]; omega) (by rw [hlen]; omega) (by rw [hlen]; omega) ?_ (fun j hj => hb _ (by omega) (by rw [hlen] at hj; omega)) ?_ ?_
      · rw [hlen, List.drop_take, List.take_take]
        congr 1
        omega
      · intro hs t ht
        rw [hlen] at hs
        have hd : ((l.take e).drop fr).drop 128 = [] := List.drop_eq_nil_of_le (by omega)
        rw [hd, M.runs_nil, List.nil_append] at ht
        exact hm t ht
      · rw [hlen, List.drop_drop]
        by_cases hs : n ≤ 128
        · have h7 : List.drop (fr + 128) (l.take e) = List.drop (fr + min 128 n) (l.take e) := by
            rw [List.drop_eq_nil_of_le (by simp; omega), List.drop_eq_nil_of_le (by simp; omega)]
          rw [h7]
          exact ih (n - min 128 n) (by omega) (fr + min 128 n) (by omega) (fun j h1 h2 => hb j (by omega) h2)
        · rw [show min 128 n = 128 from by omega]
          exact ih (n - 128) (by omega) (fr + 128) (by omega) (fun j h1 h2 => hb j (by omega) h2)
theorem Pz.pk {l : List UInt8} : ∀ fr p, fr ≤ p → p ≤ l.length → (∀ j, fr ≤ j → j < p → (M.best l j).1 = 0) → Pz l fr (M.pk l fr p) := by
  refine M.pk_ind (l := l) ?_ ?_ ?_
  · intro fr p hf h h' hb
    rw [M.pk_end h]
    have := Pz.runs (l := l) (e := l.length) (ts := []) (Nat.le_refl _) .nil (by simp) (l.length - fr) fr (by omega) (fun j h1 h2 => hb j h1 (by omega))
    simpa using this
  · intro fr p hf h hb ih h' hz
    rw [M.pk_lit h hb]
    exact ih (by omega) (fun j h1 h2 => by
      by_cases he : j = p
      · rw [he]; exact hb
      · exact hz j h1 (by omega))
  · intro fr p hf h hb ih h' hz
    have h1 := M.best_some hb
    have h2 := M.best_le l p
    rw [M.pk_mat h hb]
    refine Pz.runs (by omega) (Pz.mat h rfl h1.1 (ih (by omega) (fun j h1 h2 => by omega))) (fun t ht => ?_) (p - fr) fr (by omega) hz
    simp only [List.head?_cons, Option.some.injEq] at ht
    rw [← ht]
    exact h1.1
theorem rb_tok {t : M.Tok} (h : t.ok) : rb (rt t) = some t.bytes := by
  cases t with
  | lit s =>
    have h1 : lB (rt (.lit s)).1 (rt (.lit s)).2.1 (rt (.lit s)).2.2 = true := by
      unfold lB
      rw [decide_eq_true_iff]
      exact ⟨rfl, rfl, by show 1 ≤ (ba s).size; rw [ba_size]; exact h.1, by show (ba s).size ≤ 128; rw [ba_size]; exact h.2⟩
    unfold rb
    rw [if_pos h1]
    congr 1
    exact runs_one h.1 h.2
  | mat n d =>
    obtain ⟨a, b, c, e⟩ := h
    have h1 : ¬ lB (rt (.mat n d)).1 (rt (.mat n d)).2.1 (rt (.mat n d)).2.2 = true := by
      unfold lB
      rw [decide_eq_true_iff]
      intro k
      have k1 : ((n : Nat) : Int) = 0 := k.1
      omega
    have h2 : mB (rt (.mat n d)).1 (rt (.mat n d)).2.1 (rt (.mat n d)).2.2 = true := by
      unfold mB
      rw [decide_eq_true_iff]
      refine ⟨rfl, ⟨?_, ?_⟩, ?_, ?_⟩
      · show (4 : Int) ≤ (n : Nat); omega
      · show ((n : Nat) : Int) ≤ 131; omega
      · show (1 : Int) ≤ (d : Nat); omega
      · show ((d : Nat) : Int) ≤ 8192; omega
    unfold rb
    rw [if_neg h1, if_pos h2]
    rfl
theorem frm_toks : ∀ ts : List M.Tok, (∀ t ∈ ts, t.ok) → frm (ts.map rt) = some (M.bytesOf ts)
  | [], _ => rfl
  | t :: ts, h => by
    simp only [List.map_cons, frm]
    rw [rb_tok (h t (List.mem_cons_self ..))]
    simp only []
    rw [frm_toks ts (fun u hu => h u (List.mem_cons_of_mem _ hu))]
    rfl
theorem pk_count {l : List UInt8} {k : Nat} {ts : List M.Tok} (h : Pz l k ts) : ts.length ≤ l.length - k := by
  induction h with
  | nil => simp
  | lit h1 h2 h3 h4 h5 h6 h7 ih => rw [List.length_cons]; omega
  | mat h1 h2 h3 h4 ih => rw [List.length_cons]; omega
theorem Pz.le {l : List UInt8} {k : Nat} {ts : List M.Tok} (h : Pz l k ts) : k ≤ l.length := by
  cases h with
  | nil => exact Nat.le_refl _
  | lit h1 h2 h3 => omega
  | mat h1 => omega
end Go.Proofs.Ytdkfenmhfkggdaa
