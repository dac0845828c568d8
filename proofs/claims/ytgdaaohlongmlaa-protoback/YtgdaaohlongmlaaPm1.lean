/- Plain facts on layer 17's forms: what a request is written as, and what bytes are read as. -/
import Derived.Test.YtgdaaohlongmlaaPr1
namespace Go.Proofs.Ytgdaaohlongmlaa
open Go.RowKit
theorem nb_of_be : ∀ (n : Nat) (l : List Nat), l.length = n → (∀ b ∈ l, b < 256) → nb n (be l) = l
  | 0, l, h, _ => by rw [List.eq_nil_of_length_eq_zero h]; rfl
  | n + 1, l, h, hb => by
    rcases List.eq_nil_or_concat l with rfl | ⟨l', b, rfl⟩
    · simp at h
    · have h' : l'.length = n := by simpa using h
      have hb1 := hb b (by simp)
      rw [List.concat_eq_append] at hb ⊢
      rw [be_snoc, nb]
      have e1 : (be l' * 256 + b) / 256 = be l' := by omega
      have e2 : (be l' * 256 + b) % 256 = b := by omega
      rw [e1, e2, nb_of_be n l' h' (fun c hc => hb c (by simp [hc]))]
theorem be_of_nb : ∀ (n a : Nat), a < 256 ^ n → be (nb n a) = a
  | 0, a, h => by simp at h; subst h; rfl
  | n + 1, a, h => by
    have h' : a / 256 < 256 ^ n := by rw [Nat.pow_succ] at h; omega
    rw [nb, be_snoc, be_of_nb n _ h']; omega
theorem fx_iff {n k k' a : Nat} {s : ByteArray} : fx n s k 0 = (a, k', 0) ↔ a < 256 ^ n ∧ Stands s k (nb n a) ∧ k' = k + n := by
  constructor
  · intro h
    by_cases hl : k + n ≤ s.size
    · rw [fx_ok hl, Prod.mk.injEq, Prod.mk.injEq] at h
      obtain ⟨rfl, rfl, _⟩ := h
      have hz : (bl (s.extract k (k + n))).length = n := by rw [bl_len, ByteArray.size_extract]; omega
      refine ⟨be_ext s k n hl, ?_, rfl⟩
      rw [nb_of_be n _ hz (bl_byte _)]
      exact stands_ext s k n hl
    · rw [fx_short hl, Prod.mk.injEq, Prod.mk.injEq] at h
      exact absurd h.2.2 (by decide)
  · rintro ⟨ha, hS, rfl⟩
    have hl := hS.le
    rw [nb_len] at hl
    have he : bl (s.extract k (k + n)) = nb n a := by
      rw [bl_ext, Nat.add_sub_cancel_left]
      have := hS.2
      rw [nb_len] at this
      exact this
    rw [fx_ok hl, he, be_of_nb n a ha]
theorem ex3 (p : Nat × Nat × Nat) : ∃ a b c, p = (a, b, c) := ⟨p.1, p.2.1, p.2.2, rfl⟩
theorem exD (p : ByteArray × Nat) : ∃ a b, p = (a, b) := ⟨p.1, p.2, rfl⟩
theorem fx_err {n k e x k' e' : Nat} {s : ByteArray} (he : e ≠ 0) (h : fx n s k e = (x, k', e')) : x = 0 ∧ k' = k ∧ e' = e := by
  rw [fx_stale he, Prod.mk.injEq, Prod.mk.injEq] at h
  exact ⟨h.1.symm, h.2.1.symm, h.2.2.symm⟩
theorem fx_bad {n k x k' e' : Nat} {s : ByteArray} (h : fx n s k 0 = (x, k', e')) (he : e' ≠ 0) : x = 0 ∧ k' = k ∧ e' = 20 := by
  by_cases hl : k + n ≤ s.size
  · rw [fx_ok hl, Prod.mk.injEq, Prod.mk.injEq] at h; exact absurd h.2.2.symm he
  · rw [fx_short hl, Prod.mk.injEq, Prod.mk.injEq] at h; exact ⟨h.1.symm, h.2.1.symm, h.2.2.symm⟩
theorem dq_zero {s : ByteArray} {k e : Nat} (h : dq s k e = 0) : e = 0 ∧ ¬ k < s.size := by
  unfold dq at h
  split at h
  · exact absurd h (by decide)
  · rename_i h2; subst h; exact ⟨rfl, fun h3 => h2 ⟨rfl, h3⟩⟩
theorem dq_end {s : ByteArray} {k : Nat} {t : List Nat} (h : s.size = k + t.length) : dq s k 0 = if t = [] then 0 else 22 := by
  unfold dq
  cases t with
  | nil => simp at h; rw [if_neg (by omega), if_pos rfl]
  | cons a t => simp at h; rw [if_pos ⟨rfl, by omega⟩, if_neg (by simp)]
/-- A number modulo 2^64. -/
def un (x : Int) : Nat := (x % 18446744073709551616).toNat
theorem un_lt (x : Int) : un x < 256 ^ 8 := by unfold un; show _ < 18446744073709551616; omega
theorem un_wrap {a : Nat} (h : a < 256 ^ 8) : un (wrap64 (a : Int)) = a := by
  have h' : a < 18446744073709551616 := h
  unfold un wrap64; omega
theorem wrap_un {x : Int} (h : I64 x) : wrap64 (un x : Int) = x := by obtain ⟨h1, h2⟩ := h; unfold un wrap64; omega
theorem I64_wrap (x : Int) : I64 (wrap64 x) := by unfold I64 wrap64; omega
theorem I64_0 : I64 0 := by unfold I64; omega
/-- A request. -/
structure Rq where
  k : Int
  d : ByteArray
  o : Int
  t : Int
  m : Int
def Rq.c (r : Rq) : Array Value := #[.int .i64 r.k, .string r.d, .int .i64 r.o, .int .i64 r.t, .int .i64 r.m]
def zq : Rq := ⟨0, ⟨#[]⟩, 0, 0, 0⟩
/-- What stands behind its kind. -/
def askB (r : Rq) : List Nat := if r.k = 1 then nb 4 r.d.size ++ bl r.d else if r.k = 2 then nb 8 (un r.o) ++ nb 8 (un r.m) else if r.k = 3 then nb 8 (un r.t) else if r.k = 5 then nb 8 (un r.o) else []
def askL (r : Rq) : List Nat := nb 1 r.k.toNat ++ askB r
def askE (r : Rq) : Nat := if ¬ (1 ≤ r.k ∧ r.k ≤ 6) then 6 else if r.k = 1 ∧ 16777216 < r.d.size then 21 else 0
def askS (r : Rq) : ByteArray := if askE r = 0 then bs (askL r) else ⟨#[]⟩
/-- What the form says of it. -/
def nrm (r : Rq) : Rq := ⟨r.k, if r.k = 1 then r.d else ⟨#[]⟩, if r.k = 2 ∨ r.k = 5 then r.o else 0, if r.k = 3 then r.t else 0, if r.k = 2 then r.m else 0⟩
theorem askE_0 {r : Rq} (h : askE r = 0) : (1 ≤ r.k ∧ r.k ≤ 6) ∧ (r.k = 1 → r.d.size ≤ 16777216) := by
  unfold askE at h
  split at h
  · exact absurd h (by decide)
  · rename_i h1
    split at h
    · exact absurd h (by decide)
    · rename_i h2; exact ⟨Decidable.not_not.1 h1, fun hk => Nat.le_of_not_lt (fun hd => h2 ⟨hk, hd⟩)⟩
theorem askE_ok {r : Rq} (h1 : 1 ≤ r.k ∧ r.k ≤ 6) (h2 : r.k = 1 → r.d.size ≤ 16777216) : askE r = 0 := by
  unfold askE; rw [if_neg (fun h => h h1), if_neg (fun h => by have := h2 h.1; omega)]
theorem askL_nrm (r : Rq) : askL (nrm r) = askL r := by
  unfold askL askB nrm
  dsimp only
  by_cases h1 : r.k = 1
  · simp [h1]
  · by_cases h2 : r.k = 2
    · simp [h2]
    · by_cases h3 : r.k = 3
      · simp [h3]
      · by_cases h5 : r.k = 5
        · simp [h5]
        · simp [h1, h2, h3, h5]
theorem askE_nrm (r : Rq) : askE (nrm r) = askE r := by
  unfold askE nrm
  dsimp only
  by_cases h1 : r.k = 1
  · simp [h1]
  · simp [h1]
theorem askL_1 (d : ByteArray) (o t m : Int) : askL ⟨1, d, o, t, m⟩ = nb 1 1 ++ (nb 4 d.size ++ bl d) := by unfold askL askB; dsimp only; rw [if_pos rfl]; rfl
theorem askL_2 (d : ByteArray) (o t m : Int) : askL ⟨2, d, o, t, m⟩ = nb 1 2 ++ (nb 8 (un o) ++ nb 8 (un m)) := by unfold askL askB; dsimp only; rw [if_neg (by decide), if_pos rfl]; rfl
theorem askL_3 (d : ByteArray) (o t m : Int) : askL ⟨3, d, o, t, m⟩ = nb 1 3 ++ nb 8 (un t) := by unfold askL askB; dsimp only; rw [if_neg (by decide), if_neg (by decide), if_pos rfl]; rfl
theorem askL_4 (d : ByteArray) (o t m : Int) : askL ⟨4, d, o, t, m⟩ = nb 1 4 ++ [] := by unfold askL askB; dsimp only; rw [if_neg (by decide), if_neg (by decide), if_neg (by decide), if_neg (by decide)]; rfl
theorem askL_5 (d : ByteArray) (o t m : Int) : askL ⟨5, d, o, t, m⟩ = nb 1 5 ++ nb 8 (un o) := by unfold askL askB; dsimp only; rw [if_neg (by decide), if_neg (by decide), if_neg (by decide), if_pos rfl]; rfl
theorem askL_6 (d : ByteArray) (o t m : Int) : askL ⟨6, d, o, t, m⟩ = nb 1 6 ++ [] := by unfold askL askB; dsimp only; rw [if_neg (by decide), if_neg (by decide), if_neg (by decide), if_neg (by decide)]; rfl
def finQ (r : Rq) (E : Nat) : Rq × Nat := if E = 0 then (r, 0) else (zq, E)
theorem finQ_ok {r r' : Rq} {E : Nat} (h : finQ r E = (r', 0)) : E = 0 ∧ r = r' := by
  unfold finQ at h
  split at h
  · rename_i h0; injection h with h1 _; exact ⟨h0, h1⟩
  · rename_i h0; injection h with _ h2; exact absurd h2 h0
/-- A text behind its length. -/
def rdD (M : Nat) (s : ByteArray) (k e : Nat) : ByteArray × Nat :=
  if (fx 4 s k e).2.2 ≠ 0 then (⟨#[]⟩, (fx 4 s k e).2.2) else if dcut M s (fx 4 s k e).1 (fx 4 s k e).2.1 = true then (⟨#[]⟩, 21)
  else (s.extract (fx 4 s k e).2.1 ((fx 4 s k e).2.1 + (fx 4 s k e).1), dq s ((fx 4 s k e).2.1 + (fx 4 s k e).1) 0)
theorem rdD_0 {M k : Nat} {s d : ByteArray} (h : rdD M s k 0 = (d, 0)) : d.size ≤ M ∧ d.size < 256 ^ 4 ∧ Stands s k (nb 4 d.size ++ bl d) ∧ ¬ k + 4 + d.size < s.size := by
  obtain ⟨a, k', e', hx⟩ := ex3 (fx 4 s k 0)
  unfold rdD at h
  rw [hx] at h
  dsimp only at h
  split at h
  · rename_i h0; injection h with _ h; exact absurd h h0
  · rename_i h0
    have h0' : e' = 0 := Decidable.not_not.1 h0
    subst h0'
    split at h
    · injection h with _ h; exact absurd h (by decide)
    · rename_i hc
      injection h with hd he
      obtain ⟨ha, hS, rfl⟩ := fx_iff.1 hx
      have hc' : ¬ M < a ∧ ¬ s.size - (k + 4) < a := by
        constructor
        · intro h; exact hc (by unfold dcut; rw [decide_eq_true h]; rfl)
        · intro h; exact hc (by unfold dcut; rw [decide_eq_true h, Bool.or_true])
      have hS4 := hS.le
      rw [nb_len] at hS4
      have hz : d.size = a := by rw [← hd, ByteArray.size_extract]; omega
      subst hz
      obtain ⟨_, hend⟩ := dq_zero he
      refine ⟨by omega, ha, stands_app.2 ⟨hS, ?_⟩, hend⟩
      rw [nb_len]
      have := stands_ext s (k + 4) d.size (by omega)
      rw [hd] at this
      exact this
theorem rdD_ok {M k : Nat} {s d : ByteArray} {t : List Nat} (hM : d.size ≤ M) (hM4 : M < 256 ^ 4) (hS : Stands s k (nb 4 d.size ++ bl d)) (hz : s.size = k + 4 + d.size + t.length) : rdD M s k 0 = (d, if t = [] then 0 else 22) := by
  obtain ⟨h1, h2⟩ := stands_app.1 hS
  rw [nb_len] at h2
  have hx : fx 4 s k 0 = (d.size, k + 4, 0) := fx_iff.2 ⟨by omega, h1, rfl⟩
  unfold rdD
  rw [hx]
  dsimp only
  rw [if_neg (by decide), if_neg, ext_stands h2, dq_end hz]
  unfold dcut
  rw [decide_eq_false (by omega), decide_eq_false (by omega)]
  decide
/-- What any bytes are read as. -/
def raQ (s : ByteArray) : Rq × Nat :=
  if (fx 1 s 0 0).2.2 ≠ 0 then (zq, 20)
  else if (fx 1 s 0 0).1 = 1 then finQ ⟨1, (rdD 16777216 s 1 0).1, 0, 0, 0⟩ (rdD 16777216 s 1 0).2
  else if (fx 1 s 0 0).1 = 2 then finQ ⟨2, ⟨#[]⟩, wrap64 ((fx 8 s 1 0).1 : Int), 0, wrap64 ((fx 8 s (fx 8 s 1 0).2.1 (fx 8 s 1 0).2.2).1 : Int)⟩ (dq s (fx 8 s (fx 8 s 1 0).2.1 (fx 8 s 1 0).2.2).2.1 (fx 8 s (fx 8 s 1 0).2.1 (fx 8 s 1 0).2.2).2.2)
  else if (fx 1 s 0 0).1 = 3 then finQ ⟨3, ⟨#[]⟩, 0, wrap64 ((fx 8 s 1 0).1 : Int), 0⟩ (dq s (fx 8 s 1 0).2.1 (fx 8 s 1 0).2.2)
  else if (fx 1 s 0 0).1 = 4 then finQ ⟨4, ⟨#[]⟩, 0, 0, 0⟩ (dq s 1 0)
  else if (fx 1 s 0 0).1 = 5 then finQ ⟨5, ⟨#[]⟩, wrap64 ((fx 8 s 1 0).1 : Int), 0, 0⟩ (dq s (fx 8 s 1 0).2.1 (fx 8 s 1 0).2.2)
  else if (fx 1 s 0 0).1 = 6 then finQ ⟨6, ⟨#[]⟩, 0, 0, 0⟩ (dq s 1 0)
  else (zq, 6)
theorem one8 {s : ByteArray} {k a k' e' : Nat} (h : fx 8 s k 0 = (a, k', e')) (hd : dq s k' e' = 0) : a < 256 ^ 8 ∧ Stands s k (nb 8 a) ∧ ¬ k + 8 < s.size := by
  obtain ⟨rfl, he⟩ := dq_zero hd
  obtain ⟨h1, h2, rfl⟩ := fx_iff.1 h
  exact ⟨h1, h2, he⟩
theorem two8 {s : ByteArray} {k a k2 e2 b k3 e3 : Nat} (h : fx 8 s k 0 = (a, k2, e2)) (h2 : fx 8 s k2 e2 = (b, k3, e3)) (hd : dq s k3 e3 = 0) : a < 256 ^ 8 ∧ b < 256 ^ 8 ∧ Stands s k (nb 8 a ++ nb 8 b) ∧ ¬ k + 16 < s.size := by
  obtain ⟨rfl, he⟩ := dq_zero hd
  have h0 : e2 = 0 := by
    apply Classical.byContradiction
    intro hne
    exact hne (fx_err hne h2).2.2.symm
  subst h0
  obtain ⟨h3, h4, rfl⟩ := fx_iff.1 h
  obtain ⟨h5, h6, rfl⟩ := fx_iff.1 h2
  exact ⟨h3, h5, stands_app.2 ⟨h4, by rw [nb_len]; exact h6⟩, by omega⟩
theorem whole1 {s : ByteArray} {K : Nat} {l : List Nat} (h0 : Stands s 0 (nb 1 K)) (h1 : Stands s 1 l) (h2 : ¬ 1 + l.length < s.size) : bl s = nb 1 K ++ l :=
  stands_whole.1 ⟨stands_app.2 ⟨h0, by rw [nb_len]; exact h1⟩, by rw [List.length_append, nb_len]; exact h2⟩
def Gq (r : Rq) : Prop := askE r = 0 ∧ nrm r = r ∧ I64 r.o ∧ I64 r.t ∧ I64 r.m
set_option maxRecDepth 4000 in
/-- What is read is written as it was. -/
theorem raQ_0 {s : ByteArray} {r : Rq} (h : raQ s = (r, 0)) : Gq r ∧ bl s = askL r := by
  obtain ⟨v, k1, e1, h0⟩ := ex3 (fx 1 s 0 0)
  obtain ⟨a, k2, e2, h1⟩ := ex3 (fx 8 s 1 0)
  obtain ⟨b, k3, e3, h2⟩ := ex3 (fx 8 s k2 e2)
  obtain ⟨D, ED, hD⟩ := exD (rdD 16777216 s 1 0)
  unfold raQ at h
  simp only [h0, h1, h2, hD] at h
  split at h
  · injection h with _ h; exact absurd h (by decide)
  rename_i he
  have he' : e1 = 0 := Decidable.not_not.1 he
  subst he'
  obtain ⟨hv, hS, rfl⟩ := fx_iff.1 h0
  split at h
  · rename_i hk; subst hk
    obtain ⟨hE, rfl⟩ := finQ_ok h
    subst hE
    obtain ⟨hM, _, hSd, hend⟩ := rdD_0 hD
    refine ⟨⟨askE_ok ⟨by dsimp only; omega, by dsimp only; omega⟩ (fun _ => hM), by simp [nrm], I64_0, I64_0, I64_0⟩, ?_⟩
    have := whole1 hS hSd (by rw [List.length_append, nb_len, bl_len]; omega)
    rw [this, askL_1]
  split at h
  · rename_i hk; subst hk
    obtain ⟨hE, rfl⟩ := finQ_ok h
    obtain ⟨ha, hb, hSd, hend⟩ := two8 h1 h2 hE
    refine ⟨⟨askE_ok ⟨by dsimp only; omega, by dsimp only; omega⟩ (fun h => by dsimp only at h; omega), by simp [nrm], I64_wrap _, I64_0, I64_wrap _⟩, ?_⟩
    have := whole1 hS hSd (by rw [List.length_append, nb_len, nb_len]; omega)
    rw [this]
    rw [askL_2, un_wrap ha, un_wrap hb]
  split at h
  · rename_i hk; subst hk
    obtain ⟨hE, rfl⟩ := finQ_ok h
    obtain ⟨ha, hSd, hend⟩ := one8 h1 hE
    refine ⟨⟨askE_ok ⟨by dsimp only; omega, by dsimp only; omega⟩ (fun h => by dsimp only at h; omega), by simp [nrm], I64_0, I64_wrap _, I64_0⟩, ?_⟩
    have := whole1 hS hSd (by rw [nb_len]; omega)
    rw [this]
    rw [askL_3, un_wrap ha]
  split at h
  · rename_i hk; subst hk
    obtain ⟨hE, rfl⟩ := finQ_ok h
    obtain ⟨_, hend⟩ := dq_zero hE
    refine ⟨⟨askE_ok ⟨by dsimp only; omega, by dsimp only; omega⟩ (fun h => by dsimp only at h; omega), by simp [nrm], I64_0, I64_0, I64_0⟩, ?_⟩
    have := whole1 hS (stands_nil (by have := hS.le; rw [nb_len] at this; omega)) (by simpa using hend)
    rw [this, askL_4]
  split at h
  · rename_i hk; subst hk
    obtain ⟨hE, rfl⟩ := finQ_ok h
    obtain ⟨ha, hSd, hend⟩ := one8 h1 hE
    refine ⟨⟨askE_ok ⟨by dsimp only; omega, by dsimp only; omega⟩ (fun h => by dsimp only at h; omega), by simp [nrm], I64_wrap _, I64_0, I64_0⟩, ?_⟩
    have := whole1 hS hSd (by rw [nb_len]; omega)
    rw [this]
    rw [askL_5, un_wrap ha]
  split at h
  · rename_i hk; subst hk
    obtain ⟨hE, rfl⟩ := finQ_ok h
    obtain ⟨_, hend⟩ := dq_zero hE
    refine ⟨⟨askE_ok ⟨by dsimp only; omega, by dsimp only; omega⟩ (fun h => by dsimp only at h; omega), by simp [nrm], I64_0, I64_0, I64_0⟩, ?_⟩
    have := whole1 hS (stands_nil (by have := hS.le; rw [nb_len] at this; omega)) (by simpa using hend)
    rw [this, askL_6]
  · injection h with _ h; exact absurd h (by decide)
theorem at1 {s : ByteArray} {K : Nat} {l t : List Nat} (hK : K < 256) (h : bl s = (nb 1 K ++ l) ++ t) : fx 1 s 0 0 = (K, 1, 0) ∧ Stands s 1 l ∧ s.size = 1 + l.length + t.length := by
  have hS : Stands s 0 (nb 1 K ++ l) := stands_of (Nat.zero_le _) (by rw [List.drop_zero]; exact h)
  obtain ⟨h1, h2⟩ := stands_app.1 hS
  rw [nb_len] at h2
  have hz := congrArg List.length h
  rw [bl_len, List.length_append, List.length_append, nb_len] at hz
  exact ⟨fx_iff.2 ⟨by simpa using hK, h1, rfl⟩, h2, hz⟩
set_option maxRecDepth 4000 in
/-- What is written is read again, with bytes behind it or none. -/
theorem raQ_of {s : ByteArray} {r : Rq} {t : List Nat} (hg : Gq r) (h : bl s = askL r ++ t) : raQ s = finQ r (if t = [] then 0 else 22) := by
  obtain ⟨hE, hn, hIo, hIt, hIm⟩ := hg
  obtain ⟨hk, hd⟩ := askE_0 hE
  obtain ⟨k, d, o, tt, m⟩ := r
  dsimp only at hk hd hIo hIt hIm
  unfold nrm at hn
  simp only [Rq.mk.injEq, true_and] at hn
  obtain ⟨n1, n2, n3, n4⟩ := hn
  rcases (by omega : k = 1 ∨ k = 2 ∨ k = 3 ∨ k = 4 ∨ k = 5 ∨ k = 6) with rfl | rfl | rfl | rfl | rfl | rfl
  · simp at n2 n3 n4
    subst n2 n3 n4
    rw [askL_1] at h
    obtain ⟨h0, hS, hz⟩ := at1 (K := 1) (l := nb 4 d.size ++ bl d) (by omega) h
    rw [List.length_append, nb_len, bl_len] at hz
    have hr := rdD_ok (M := 16777216) (t := t) (hd rfl) (by decide) hS (by omega)
    unfold raQ
    simp only [h0, hr]
    rfl
  · simp at n1 n3
    subst n1 n3
    rw [askL_2] at h
    obtain ⟨h0, hS, hz⟩ := at1 (K := 2) (l := nb 8 (un o) ++ nb 8 (un m)) (by omega) h
    rw [List.length_append, nb_len, nb_len] at hz
    obtain ⟨hS1, hS2⟩ := stands_app.1 hS
    rw [nb_len] at hS2
    have h1 : fx 8 s 1 0 = (un o, 9, 0) := fx_iff.2 ⟨un_lt _, hS1, rfl⟩
    have h2 : fx 8 s 9 0 = (un m, 17, 0) := fx_iff.2 ⟨un_lt _, hS2, rfl⟩
    have hq := dq_end (s := s) (k := 17) (t := t) (by omega)
    unfold raQ
    simp only [h0, h1, h2, hq, wrap_un hIo, wrap_un hIm]
    rfl
  · simp at n1 n2 n4
    subst n1 n2 n4
    rw [askL_3] at h
    obtain ⟨h0, hS, hz⟩ := at1 (K := 3) (l := nb 8 (un tt)) (by omega) h
    rw [nb_len] at hz
    have h1 : fx 8 s 1 0 = (un tt, 9, 0) := fx_iff.2 ⟨un_lt _, hS, rfl⟩
    have hq := dq_end (s := s) (k := 9) (t := t) (by omega)
    unfold raQ
    simp only [h0, h1, hq, wrap_un hIt]
    rfl
  · simp at n1 n2 n3 n4
    subst n1 n2 n3 n4
    rw [askL_4] at h
    obtain ⟨h0, hS, hz⟩ := at1 (K := 4) (l := []) (by omega) h
    have hq := dq_end (s := s) (k := 1) (t := t) (by simpa using hz)
    unfold raQ
    simp only [h0, hq]
    rfl
  · simp at n1 n3 n4
    subst n1 n3 n4
    rw [askL_5] at h
    obtain ⟨h0, hS, hz⟩ := at1 (K := 5) (l := nb 8 (un o)) (by omega) h
    rw [nb_len] at hz
    have h1 : fx 8 s 1 0 = (un o, 9, 0) := fx_iff.2 ⟨un_lt _, hS, rfl⟩
    have hq := dq_end (s := s) (k := 9) (t := t) (by omega)
    unfold raQ
    simp only [h0, h1, hq, wrap_un hIo]
    rfl
  · simp at n1 n2 n3 n4
    subst n1 n2 n3 n4
    rw [askL_6] at h
    obtain ⟨h0, hS, hz⟩ := at1 (K := 6) (l := []) (by omega) h
    have hq := dq_end (s := s) (k := 1) (t := t) (by simpa using hz)
    unfold raQ
    simp only [h0, hq]
    rfl
end Go.Proofs.Ytgdaaohlongmlaa
