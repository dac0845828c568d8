/- Texts of the proof, put together: Pm1, Pm2. -/
import Derived.Test.YtgdaaohlongmlaaGreatPr1
namespace Go.Proofs.YtgdaaohlongmlaaGreat
open Go.RowKit
theorem nb_of_be : ∀ (n : Nat) (l : List Nat), l.length = n → (∀ b ∈ l, b < 256) → nb n (be l) = l
  | 0, l, h, _ => by rw [List.eq_nil_of_length_eq_zero h]; rfl
  | n + 1, l, h, hb => by
    rcases List.eq_nil_or_concat l with rfl | ⟨l', b, rfl⟩
    · simp at h
    · have h' : l'.length = n := by simpa using h
      have hb1 := hb b (by simp)
      rw [List.concat_eq_append] at hb ⊢
      rw [be_snoc, nb]
      have e1 : (be l' * 256 + b) / 256 = be l' := by omega
      have e2 : (be l' * 256 + b) % 256 = b := by omega
      rw [e1, e2, nb_of_be n l' h' (fun c hc => hb c (by simp [hc]))]
theorem be_of_nb : ∀ (n a : Nat), a < 256 ^ n → be (nb n a) = a
  | 0, a, h => by simp at h; subst h; rfl
  | n + 1, a, h => by
    have h' : a / 256 < 256 ^ n := by rw [Nat.pow_succ] at h; omega
    rw [nb, be_snoc, be_of_nb n _ h']; omega
theorem fx_iff {n k k' a : Nat} {s : ByteArray} : fx n s k 0 = (a, k', 0) ↔ a < 256 ^ n ∧ Stands s k (nb n a) ∧ k' = k + n := by
  constructor
  · intro h
    by_cases hl : k + n ≤ s.size
    · rw [fx_ok hl, Prod.mk.injEq, Prod.mk.injEq] at h
      obtain ⟨rfl, rfl, _⟩ := h
      have hz : (bl (s.extract k (k + n))).length = n := by rw [bl_len, ByteArray.size_extract]; omega
      refine ⟨be_ext s k n hl, ?_, rfl⟩
      rw [nb_of_be n _ hz (bl_byte _)]
      exact stands_ext s k n hl
    · rw [fx_short hl, Prod.mk.injEq, Prod.mk.injEq] at h
      exact absurd h.2.2 (by decide)
  · rintro ⟨ha, hS, rfl⟩
    have hl := hS.le
    rw [nb_len] at hl
    have he : bl (s.extract k (k + n)) = nb n a := by
      rw [bl_ext, Nat.add_sub_cancel_left]
      have := hS.2
      rw [nb_len] at this
      exact this
    rw [fx_ok hl, he, be_of_nb n a ha]
theorem ex3 (p : Nat × Nat × Nat) : ∃ a b c, p = (a, b, c) := ⟨p.1, p.2.1, p.2.2, rfl⟩
theorem exD (p : ByteArray × Nat) : ∃ a b, p = (a, b) := ⟨p.1, p.2, rfl⟩
theorem fx_err {n k e x k' e' : Nat} {s : ByteArray} (he : e ≠ 0) (h : fx n s k e = (x, k', e')) : x = 0 ∧ k' = k ∧ e' = e := by
  rw [fx_stale he, Prod.mk.injEq, Prod.mk.injEq] at h
  exact ⟨h.1.symm, h.2.1.symm, h.2.2.symm⟩
theorem fx_bad {n k x k' e' : Nat} {s : ByteArray} (h : fx n s k 0 = (x, k', e')) (he : e' ≠ 0) : x = 0 ∧ k' = k ∧ e' = 20 := by
  by_cases hl : k + n ≤ s.size
  · rw [fx_ok hl, Prod.mk.injEq, Prod.mk.injEq] at h; exact absurd h.2.2.symm he
  · rw [fx_short hl, Prod.mk.injEq, Prod.mk.injEq] at h; exact ⟨h.1.symm, h.2.1.symm, h.2.2.symm⟩
theorem dq_zero {s : ByteArray} {k e : Nat} (h : dq s k e = 0) : e = 0 ∧ ¬ k < s.size := by
  unfold dq at h
  split at h
  · exact absurd h (by decide)
  · rename_i h2; subst h; exact ⟨rfl, fun h3 => h2 ⟨rfl, h3⟩⟩
theorem dq_end {s : ByteArray} {k : Nat} {t : List Nat} (h : s.size = k + t.length) : dq s k 0 = if t = [] then 0 else 22 := by
  unfold dq
  cases t with
  | nil => simp at h; rw [if_neg (by omega), if_pos rfl]
  | cons a t => simp at h; rw [if_pos ⟨rfl, by omega⟩, if_neg (by simp)]
/-- A number modulo 2^64. -/
def un (x : Int) : Nat := (x % 18446744073709551616).toNat
theorem un_lt (x : Int) : un x < 256 ^ 8 := by unfold un; show _ < 18446744073709551616; omega
theorem un_wrap {a : Nat} (h : a < 256 ^ 8) : un (wrap64 (a : Int)) = a := by
  have h' : a < 18446744073709551616 := h
  unfold un wrap64; omega
theorem wrap_un {x : Int} (h : I64 x) : wrap64 (un x : Int) = x := by obtain ⟨h1, h2⟩ := h; unfold un wrap64; omega
theorem I64_wrap (x : Int) : I64 (wrap64 x) := by unfold I64 wrap64; omega
theorem I64_0 : I64 0 := by unfold I64; omega
/-- A request. -/
structure Rq where
  k : Int
  d : ByteArray
  o : Int
  t : Int
  m : Int
def Rq.c (r : Rq) : Array Value := #[.int .i64 r.k, .string r.d, .int .i64 r.o, .int .i64 r.t, .int .i64 r.m]
def zq : Rq := ⟨0, ⟨#[]⟩, 0, 0, 0⟩
/-- What stands behind its kind. -/
def askB (r : Rq) : List Nat := if r.k = 1 then nb 4 r.d.size ++ bl r.d else if r.k = 2 then nb 8 (un r.o) ++ nb 8 (un r.m) else if r.k = 3 then nb 8 (un r.t) else if r.k = 5 then nb 8 (un r.o) else []
def askL (r : Rq) : List Nat := nb 1 r.k.toNat ++ askB r
def askE (r : Rq) : Nat := if ¬ (1 ≤ r.k ∧ r.k ≤ 6) then 6 else if r.k = 1 ∧ 16777216 < r.d.size then 21 else 0
def askS (r : Rq) : ByteArray := if askE r = 0 then bs (askL r) else ⟨#[]⟩
/-- What the form says of it. -/
def nrm (r : Rq) : Rq := ⟨r.k, if r.k = 1 then r.d else ⟨#[]⟩, if r.k = 2 ∨ r.k = 5 then r.o else 0, if r.k = 3 then r.t else 0, if r.k = 2 then r.m else 0⟩
theorem askE_0 {r : Rq} (h : askE r = 0) : (1 ≤ r.k ∧ r.k ≤ 6) ∧ (r.k = 1 → r.d.size ≤ 16777216) := by
  unfold askE at h
  split at h
  · exact absurd h (by decide)
  · rename_i h1
    split at h
    · exact absurd h (by decide)
    · rename_i h2; exact ⟨Decidable.not_not.1 h1, fun hk => Nat.le_of_not_lt (fun hd => h2 ⟨hk, hd⟩)⟩
theorem askE_ok {r : Rq} (h1 : 1 ≤ r.k ∧ r.k ≤ 6) (h2 : r.k = 1 → r.d.size ≤ 16777216) : askE r = 0 := by
  unfold askE; rw [if_neg (fun h => h h1), if_neg (fun h => by have := h2 h.1; omega)]
theorem askL_nrm (r : Rq) : askL (nrm r) = askL r := by
  unfold askL askB nrm
  dsimp only
  by_cases h1 : r.k = 1
  · simp [h1]
  · by_cases h2 : r.k = 2
    · simp [h2]
    · by_cases h3 : r.k = 3
      · simp [h3]
      · by_cases h5 : r.k = 5
        · simp [h5]
        · simp [h1, h2, h3, h5]
theorem askE_nrm (r : Rq) : askE (nrm r) = askE r := by
  unfold askE nrm
  dsimp only
  by_cases h1 : r.k = 1
  · simp [h1]
  · simp [h1]
theorem askL_1 (d : ByteArray) (o t m : Int) : askL ⟨1, d, o, t, m⟩ = nb 1 1 ++ (nb 4 d.size ++ bl d) := by unfold askL askB; dsimp only; rw [if_pos rfl]; rfl
theorem askL_2 (d : ByteArray) (o t m : Int) : askL ⟨2, d, o, t, m⟩ = nb 1 2 ++ (nb 8 (un o) ++ nb 8 (un m)) := by unfold askL askB; dsimp only; rw [if_neg (by decide), if_pos rfl]; rfl
theorem askL_3 (d : ByteArray) (o t m : Int) : askL ⟨3, d, o, t, m⟩ = nb 1 3 ++ nb 8 (un t) := by unfold askL askB; dsimp only; rw [if_neg (by decide), if_neg (by decide), if_pos rfl]; rfl
theorem askL_4 (d : ByteArray) (o t m : Int) : askL ⟨4, d, o, t, m⟩ = nb 1 4 ++ [] := by unfold askL askB; dsimp only; rw [if_neg (by decide), if_neg (by decide), if_neg (by decide), if_neg (by decide)]; rfl
theorem askL_5 (d : ByteArray) (o t m : Int) : askL ⟨5, d, o, t, m⟩ = nb 1 5 ++ nb 8 (un o) := by unfold askL askB; dsimp only; rw [if_neg (by decide), if_neg (by decide), if_neg (by decide), if_pos rfl]; rfl
theorem askL_6 (d : ByteArray) (o t m : Int) : askL ⟨6, d, o, t, m⟩ = nb 1 6 ++ [] := by unfold askL askB; dsimp only; rw [if_neg (by decide), if_neg (by decide), if_neg (by decide), if_neg (by decide)]; rfl
def finQ (r : Rq) (E : Nat) : Rq × Nat := if E = 0 then (r, 0) else (zq, E)
theorem finQ_ok {r r' : Rq} {E : Nat} (h : finQ r E = (r', 0)) : E = 0 ∧ r = r' := by
  unfold finQ at h
  split at h
  · rename_i h0; injection h with h1 _; exact ⟨h0, h1⟩
  · rename_i h0; injection h with _ h2; exact absurd h2 h0
/-- A text behind its length. -/
def rdD (M : Nat) (s : ByteArray) (k e : Nat) : ByteArray × Nat :=
  if (fx 4 s k e).2.2 ≠ 0 then (⟨#[]⟩, (fx 4 s k e).2.2) else if dcut M s (fx 4 s k e).1 (fx 4 s k e).2.1 = true then (⟨#[]⟩, 21)
  else (s.extract (fx 4 s k e).2.1 ((fx 4 s k e).2.1 + (fx 4 s k e).1), dq s ((fx 4 s k e).2.1 + (fx 4 s k e).1) 0)
theorem rdD_0 {M k : Nat} {s d : ByteArray} (h : rdD M s k 0 = (d, 0)) : d.size ≤ M ∧ d.size < 256 ^ 4 ∧ Stands s k (nb 4 d.size ++ bl d) ∧ ¬ k + 4 + d.size < s.size := by
  obtain ⟨a, k', e', hx⟩ := ex3 (fx 4 s k 0)
  unfold rdD at h
  rw [hx] at h
  dsimp only at h
  split at h
  · rename_i h0; injection h with _ h; exact absurd h h0
  · rename_i h0
    have h0' : e' = 0 := Decidable.not_not.1 h0
    subst h0'
    split at h
    · injection h with _ h; exact absurd h (by decide)
    · rename_i hc
      injection h with hd he
      obtain ⟨ha, hS, rfl⟩ := fx_iff.1 hx
      have hc' : ¬ M < a ∧ ¬ s.size - (k + 4) < a := by
        constructor
        · intro h; exact hc (by unfold dcut; rw [decide_eq_true h]; rfl)
        · intro h; exact hc (by unfold dcut; rw [decide_eq_true h, Bool.or_true])
      have hS4 := hS.le
      rw [nb_len] at hS4
      have hz : d.size = a := by rw [← hd, ByteArray.size_extract]; omega
      subst hz
      obtain ⟨_, hend⟩ := dq_zero he
      refine ⟨by omega, ha, stands_app.2 ⟨hS, ?_⟩, hend⟩
      rw [nb_len]
      have := stands_ext s (k + 4) d.size (by omega)
      rw [hd] at this
      exact this
theorem rdD_ok {M k : Nat} {s d : ByteArray} {t : List Nat} (hM : d.size ≤ M) (hM4 : M < 256 ^ 4) (hS : Stands s k (nb 4 d.size ++ bl d)) (hz : s.size = k + 4 + d.size + t.length) : rdD M s k 0 = (d, if t = [] then 0 else 22) := by
  obtain ⟨h1, h2⟩ := stands_app.1 hS
  rw [nb_len] at h2
  have hx : fx 4 s k 0 = (d.size, k + 4, 0) := fx_iff.2 ⟨by omega, h1, rfl⟩
  unfold rdD
  rw [hx]
  dsimp only
  rw [if_neg (by decide), if_neg, ext_stands h2, dq_end hz]
  unfold dcut
  rw [decide_eq_false (by omega), decide_eq_false (by omega)]
  decide
/-- What any bytes are read as. -/
def raQ (s : ByteArray) : Rq × Nat :=
  if (fx 1 s 0 0).2.2 ≠ 0 then (zq, 20)
  else if (fx 1 s 0 0).1 = 1 then finQ ⟨1, (rdD 16777216 s 1 0).1, 0, 0, 0⟩ (rdD 16777216 s 1 0).2
  else if (fx 1 s 0 0).1 = 2 then finQ ⟨2, ⟨#[]⟩, wrap64 ((fx 8 s 1 0).1 : Int), 0, wrap64 ((fx 8 s (fx 8 s 1 0).2.1 (fx 8 s 1 0).2.2).1 : Int)⟩ (dq s (fx 8 s (fx 8 s 1 0).2.1 (fx 8 s 1 0).2.2).2.1 (fx 8 s (fx 8 s 1 0).2.1 (fx 8 s 1 0).2.2).2.2)
  else if (fx 1 s 0 0).1 = 3 then finQ ⟨3, ⟨#[]⟩, 0, wrap64 ((fx 8 s 1 0).1 : Int), 0⟩ (dq s (fx 8 s 1 0).2.1 (fx 8 s 1 0).2.2)
  else if (fx 1 s 0 0).1 = 4 then finQ ⟨4, ⟨#[]⟩, 0, 0, 0⟩ (dq s 1 0)
  else if (fx 1 s 0 0).1 = 5 then finQ ⟨5, ⟨#[]⟩, wrap64 ((fx 8 s 1 0).1 : Int), 0, 0⟩ (dq s (fx 8 s 1 0).2.1 (fx 8 s 1 0).2.2)
  else if (fx 1 s 0 0).1 = 6 then finQ ⟨6, ⟨#[]⟩, 0, 0, 0⟩ (dq s 1 0)
  else (zq, 6)
theorem one8 {s : ByteArray} {k a k' e' : Nat} (h : fx 8 s k 0 = (a, k', e')) (hd : dq s k' e' = 0) : a < 256 ^ 8 ∧ Stands s k (nb 8 a) ∧ ¬ k + 8 < s.size := by
  obtain ⟨rfl, he⟩ := dq_zero hd
  obtain ⟨h1, h2, rfl⟩ := fx_iff.1 h
  exact ⟨h1, h2, he⟩
theorem two8 {s : ByteArray} {k a k2 e2 b k3 e3 : Nat} (h : fx 8 s k 0 = (a, k2, e2)) (h2 : fx 8 s k2 e2 = (b, k3, e3)) (hd : dq s k3 e3 = 0) : a < 256 ^ 8 ∧ b < 256 ^ 8 ∧ Stands s k (nb 8 a ++ nb 8 b) ∧ ¬ k + 16 < s.size := by
  obtain ⟨rfl, he⟩ := dq_zero hd
  have h0 : e2 = 0 := by
    apply Classical.byContradiction
    intro hne
    exact hne (fx_err hne h2).2.2.symm
  subst h0
  obtain ⟨h3, h4, rfl⟩ := fx_iff.1 h
  obtain ⟨h5, h6, rfl⟩ := fx_iff.1 h2
  exact ⟨h3, h5, stands_app.2 ⟨h4, by rw [nb_len]; exact h6⟩, by omega⟩
theorem whole1 {s : ByteArray} {K : Nat} {l : List Nat} (h0 : Stands s 0 (nb 1 K)) (h1 : Stands s 1 l) (h2 : ¬ 1 + l.length < s.size) : bl s = nb 1 K ++ l :=
  stands_whole.1 ⟨stands_app.2 ⟨h0, by rw [nb_len]; exact h1⟩, by rw [List.length_append, nb_len]; exact h2⟩
def Gq (r : Rq) : Prop := askE r = 0 ∧ nrm r = r ∧ I64 r.o ∧ I64 r.t ∧ I64 r.m
set_option maxRecDepth 4000 in
/-- What is read is written as it was. -/
theorem raQ_0 {s : ByteArray} {r : Rq} (h : raQ s = (r, 0)) : Gq r ∧ bl s = askL r := by
  obtain ⟨v, k1, e1, h0⟩ := ex3 (fx 1 s 0 0)
  obtain ⟨a, k2, e2, h1⟩ := ex3 (fx 8 s 1 0)
  obtain ⟨b, k3, e3, h2⟩ := ex3 (fx 8 s k2 e2)
  obtain ⟨D, ED, hD⟩ := exD (rdD 16777216 s 1 0)
  unfold raQ at h
  simp only [h0, h1, h2, hD] at h
  split at h
  · injection h with _ h; exact absurd h (by decide)
  rename_i he
  have he' : e1 = 0 := Decidable.not_not.1 he
  subst he'
  obtain ⟨hv, hS, rfl⟩ := fx_iff.1 h0
  split at h
  · rename_i hk; subst hk
    obtain ⟨hE, rfl⟩ := finQ_ok h
    subst hE
    obtain ⟨hM, _, hSd, hend⟩ := rdD_0 hD
    refine ⟨⟨askE_ok ⟨by dsimp only; omega, by dsimp only; omega⟩ (fun _ => hM), by simp [nrm], I64_0, I64_0, I64_0⟩, ?_⟩
    have := whole1 hS hSd (by rw [List.length_append, nb_len, bl_len]; omega)
    rw [this, askL_1]
  split at h
  · rename_i hk; subst hk
    obtain ⟨hE, rfl⟩ := finQ_ok h
    obtain ⟨ha, hb, hSd, hend⟩ := two8 h1 h2 hE
    refine ⟨⟨askE_ok ⟨by dsimp only; omega, by dsimp only; omega⟩ (fun h => by dsimp only at h; omega), by simp [nrm], I64_wrap _, I64_0, I64_wrap _⟩, ?_⟩
    have := whole1 hS hSd (by rw [List.length_append, nb_len, nb_len]; omega)
    rw [this]
    rw [askL_2, un_wrap ha, un_wrap hb]
  split at h
  · rename_i hk; subst hk
    obtain ⟨hE, rfl⟩ := finQ_ok h
    obtain ⟨ha, hSd, hend⟩ := one8 h1 hE
    refine ⟨⟨askE_ok ⟨by dsimp only; omega, by dsimp only; omega⟩ (fun h => by dsimp only at h; omega), by simp [nrm], I64_0, I64_wrap _, I64_0⟩, ?_⟩
    have := whole1 hS hSd (by rw [nb_len]; omega)
    rw [this]
    rw [askL_3, un_wrap ha]
  split at h
  · rename_i hk; subst hk
    obtain ⟨hE, rfl⟩ := finQ_ok h
    obtain ⟨_, hend⟩ := dq_zero hE
    refine ⟨⟨askE_ok ⟨by dsimp only; omega, by dsimp only; omega⟩ (fun h => by dsimp only at h; omega), by simp [nrm], I64_0, I64_0, I64_0⟩, ?_⟩
    have := whole1 hS (stands_nil (by have := hS.le; rw [nb_len] at this; omega)) (by simpa using hend)
    rw [this, askL_4]
  split at h
  · rename_i hk; subst hk
    obtain ⟨hE, rfl⟩ := finQ_ok h
    obtain ⟨ha, hSd, hend⟩ := one8 h1 hE
    refine ⟨⟨askE_ok ⟨by dsimp only; omega, by dsimp only; omega⟩ (fun h => by dsimp only at h; omega), by simp [nrm], I64_wrap _, I64_0, I64_0⟩, ?_⟩
    have := whole1 hS hSd (by rw [nb_len]; omega)
    rw [this]
    rw [askL_5, un_wrap ha]
  split at h
  · rename_i hk; subst hk
    obtain ⟨hE, rfl⟩ := finQ_ok h
    obtain ⟨_, hend⟩ := dq_zero hE
    refine ⟨⟨askE_ok ⟨by dsimp only; omega, by dsimp only; omega⟩ (fun h => by dsimp only at h; omega), by simp [nrm], I64_0, I64_0, I64_0⟩, ?_⟩
    have := whole1 hS (stands_nil (by have := hS.le; rw [nb_len] at this; omega)) (by simpa using hend)
    rw [this, askL_6]
  · injection h with _ h; exact absurd h (by decide)
theorem at1 {s : ByteArray} {K : Nat} {l t : List Nat} (hK : K < 256) (h : bl s = (nb 1 K ++ l) ++ t) : fx 1 s 0 0 = (K, 1, 0) ∧ Stands s 1 l ∧ s.size = 1 + l.length + t.length := by
  have hS : Stands s 0 (nb 1 K ++ l) := stands_of (Nat.zero_le _) (by rw [List.drop_zero]; exact h)
  obtain ⟨h1, h2⟩ := stands_app.1 hS
  rw [nb_len] at h2
  have hz := congrArg List.length h
  rw [bl_len, List.length_append, List.length_append, nb_len] at hz
  exact ⟨fx_iff.2 ⟨by simpa using hK, h1, rfl⟩, h2, hz⟩
set_option maxRecDepth 4000 in
/-- What is written is read again, with bytes behind it or none. -/
theorem raQ_of {s : ByteArray} {r : Rq} {t : List Nat} (hg : Gq r) (h : bl s = askL r ++ t) : raQ s = finQ r (if t = [] then 0 else 22) := by
  obtain ⟨hE, hn, hIo, hIt, hIm⟩ := hg
  obtain ⟨hk, hd⟩ := askE_0 hE
  obtain ⟨k, d, o, tt, m⟩ := r
  dsimp only at hk hd hIo hIt hIm
  unfold nrm at hn
  simp only [Rq.mk.injEq, true_and] at hn
  obtain ⟨n1, n2, n3, n4⟩ := hn
  rcases (by omega : k = 1 ∨ k = 2 ∨ k = 3 ∨ k = 4 ∨ k = 5 ∨ k = 6) with rfl | rfl | rfl | rfl | rfl | rfl
  · simp at n2 n3 n4
    subst n2 n3 n4
    rw [askL_1] at h
    obtain ⟨h0, hS, hz⟩ := at1 (K := 1) (l := nb 4 d.size ++ bl d) (by omega) h
    rw [List.length_append, nb_len, bl_len] at hz
    have hr := rdD_ok (M := 16777216) (t := t) (hd rfl) (by decide) hS (by omega)
    unfold raQ
    simp only [h0, hr]
    rfl
  · simp at n1 n3
    subst n1 n3
    rw [askL_2] at h
    obtain ⟨h0, hS, hz⟩ := at1 (K := 2) (l := nb 8 (un o) ++ nb 8 (un m)) (by omega) h
    rw [List.length_append, nb_len, nb_len] at hz
    obtain ⟨hS1, hS2⟩ := stands_app.1 hS
    rw [nb_len] at hS2
    have h1 : fx 8 s 1 0 = (un o, 9, 0) := fx_iff.2 ⟨un_lt _, hS1, rfl⟩
    have h2 : fx 8 s 9 0 = (un m, 17, 0) := fx_iff.2 ⟨un_lt _, hS2, rfl⟩
    have hq := dq_end (s := s) (k := 17) (t := t) (by omega)
    unfold raQ
    simp only [h0, h1, h2, hq, wrap_un hIo, wrap_un hIm]
    rfl
  · simp at n1 n2 n4
    subst n1 n2 n4
    rw [askL_3] at h
    obtain ⟨h0, hS, hz⟩ := at1 (K := 3) (l := nb 8 (un tt)) (by omega) h
    rw [nb_len] at hz
    have h1 : fx 8 s 1 0 = (un tt, 9, 0) := fx_iff.2 ⟨un_lt _, hS, rfl⟩
    have hq := dq_end (s := s) (k := 9) (t := t) (by omega)
    unfold raQ
    simp only [h0, h1, hq, wrap_un hIt]
    rfl
  · simp at n1 n2 n3 n4
    subst n1 n2 n3 n4
    rw [askL_4] at h
    obtain ⟨h0, hS, hz⟩ := at1 (K := 4) (l := []) (by omega) h
    have hq := dq_end (s := s) (k := 1) (t := t) (by simpa using hz)
    unfold raQ
    simp only [h0, hq]
    rfl
  · simp at n1 n3 n4
    subst n1 n3 n4
    rw [askL_5] at h
    obtain ⟨h0, hS, hz⟩ := at1 (K := 5) (l := nb 8 (un o)) (by omega) h
    rw [nb_len] at hz
    have h1 : fx 8 s 1 0 = (un o, 9, 0) := fx_iff.2 ⟨un_lt _, hS, rfl⟩
    have hq := dq_end (s := s) (k := 9) (t := t) (by omega)
    unfold raQ
    simp only [h0, h1, hq, wrap_un hIo]
    rfl
  · simp at n1 n2 n3 n4
    subst n1 n2 n3 n4
    rw [askL_6] at h
    obtain ⟨h0, hS, hz⟩ := at1 (K := 6) (l := []) (by omega) h
    have hq := dq_end (s := s) (k := 1) (t := t) (by simpa using hz)
    unfold raQ
    simp only [h0, hq]
    rfl
end Go.Proofs.YtgdaaohlongmlaaGreat
namespace Go.Proofs.YtgdaaohlongmlaaGreat
open Go.RowKit
theorem w32_pos {y : Nat} (h : y < 256 ^ 4) (h0 : ¬ wrap32 (y : Int) < 0) : (wrap32 (y : Int)).toNat = y ∧ 0 ≤ wrap32 (y : Int) ∧ wrap32 (y : Int) ≤ 2147483647 := by
  have h' : y < 4294967296 := h
  unfold wrap32 at h0 ⊢; omega
theorem w32_of {r : Int} (h0 : 0 ≤ r) (h1 : r ≤ 2147483647) : wrap32 (r.toNat : Int) = r := by unfold wrap32; omega
theorem w32_0 : wrap32 ((0 : Nat) : Int) = 0 := by unfold wrap32; omega
theorem r_lt {r : Int} (h1 : r ≤ 2147483647) : r.toNat < 256 ^ 4 := by show _ < 4294967296; omega
/-- A reply. -/
structure Rp where
  k : Int
  r : Int
  b : Bool
  o : Int
  n : Int
  d : ByteArray
def Rp.c (p : Rp) : Array Value := #[.int .i64 p.k, .int .i64 p.r, .bool p.b, .int .i64 p.o, .int .i64 p.n, .string p.d]
def zp : Rp := ⟨0, 0, false, 0, 0, ⟨#[]⟩⟩
def bn (b : Bool) : Nat := if b then 1 else 0
/-- What stands behind an OK. -/
def repB (p : Rp) : List Nat := if p.k = 1 then nb 1 (bn p.b) ++ nb 8 (un p.o) else if p.k = 2 then nb 8 (un p.n) ++ (nb 4 p.d.size ++ bl p.d) else if p.k = 3 then nb 8 (un p.o) else if p.k = 4 then nb 8 (un p.n) else if p.k = 5 then nb 8 (un p.o) else if p.k = 6 then nb 8 (un p.o) ++ nb 8 (un p.n) else []
def repL (p : Rp) : List Nat := (nb 1 p.k.toNat ++ nb 4 p.r.toNat) ++ if p.r = 0 then repB p else []
def repE (p : Rp) : Nat := if ¬ (1 ≤ p.k ∧ p.k ≤ 6) ∧ (p.k ≠ 0 ∨ p.r = 0) then 6 else if p.r < 0 ∨ 2147483647 < p.r then 1 else if p.r = 0 ∧ p.k = 2 ∧ 1073741824 < p.d.size then 21 else 0
def repS (p : Rp) : ByteArray := if repE p = 0 then bs (repL p) else ⟨#[]⟩
def nrmP (p : Rp) : Rp := ⟨p.k, p.r, if p.r = 0 ∧ p.k = 1 then p.b else false, if p.r = 0 ∧ (p.k = 1 ∨ p.k = 3 ∨ p.k = 5 ∨ p.k = 6) then p.o else 0, if p.r = 0 ∧ (p.k = 2 ∨ p.k = 4 ∨ p.k = 6) then p.n else 0, if p.r = 0 ∧ p.k = 2 then p.d else ⟨#[]⟩⟩
theorem repE_0 {p : Rp} (h : repE p = 0) : ((1 ≤ p.k ∧ p.k ≤ 6) ∨ (p.k = 0 ∧ p.r ≠ 0)) ∧ (0 ≤ p.r ∧ p.r ≤ 2147483647) ∧ (p.r = 0 → p.k = 2 → p.d.size ≤ 1073741824) := by
  unfold repE at h
  split at h
  · exact absurd h (by decide)
  · rename_i h1
    split at h
    · exact absurd h (by decide)
    · rename_i h2
      split at h
      · exact absurd h (by decide)
      · rename_i h3
        refine ⟨?_, by omega, fun hr hk => Nat.le_of_not_lt (fun hd => h3 ⟨hr, hk, hd⟩)⟩
        by_cases hk : 1 ≤ p.k ∧ p.k ≤ 6
        · exact Or.inl hk
        · right
          constructor
          · apply Classical.byContradiction; intro h4; exact h1 ⟨hk, Or.inl h4⟩
          · intro h4; exact h1 ⟨hk, Or.inr h4⟩
theorem repE_ok {p : Rp} (h1 : (1 ≤ p.k ∧ p.k ≤ 6) ∨ (p.k = 0 ∧ p.r ≠ 0)) (h2 : 0 ≤ p.r ∧ p.r ≤ 2147483647) (h3 : p.r = 0 → p.k = 2 → p.d.size ≤ 1073741824) : repE p = 0 := by
  unfold repE
  rw [if_neg, if_neg (by omega), if_neg]
  · rintro ⟨a, b, c⟩; have := h3 a b; omega
  · rintro ⟨a, b⟩
    rcases h1 with h1 | h1
    · exact a h1
    · rcases b with b | b
      · exact b h1.1
      · exact h1.2 b
theorem repL_nrm (p : Rp) : repL (nrmP p) = repL p := by
  unfold repL repB nrmP
  dsimp only
  by_cases hr : p.r = 0
  · by_cases h1 : p.k = 1
    · simp [h1, hr]
    · by_cases h2 : p.k = 2
      · simp [h2, hr]
      · by_cases h3 : p.k = 3
        · simp [h3, hr]
        · by_cases h4 : p.k = 4
          · simp [h4, hr]
          · by_cases h5 : p.k = 5
            · simp [h5, hr]
            · by_cases h6 : p.k = 6
              · simp [h6, hr]
              · simp [h1, h2, h3, h4, h5, h6, hr]
  · simp [hr]
theorem repE_nrm (p : Rp) : repE (nrmP p) = repE p := by
  unfold repE nrmP
  dsimp only
  by_cases h1 : p.r = 0 ∧ p.k = 2
  · simp [h1]
  · rw [if_neg h1]
    have e1 : ¬ (p.r = 0 ∧ p.k = 2 ∧ 1073741824 < (ByteArray.mk #[]).size) := fun h => h1 ⟨h.1, h.2.1⟩
    have e2 : ¬ (p.r = 0 ∧ p.k = 2 ∧ 1073741824 < p.d.size) := fun h => h1 ⟨h.1, h.2.1⟩
    rw [if_neg e1, if_neg e2]
theorem repL_err {p : Rp} (h : p.r ≠ 0) : repL p = nb 1 p.k.toNat ++ nb 4 p.r.toNat := by unfold repL; rw [if_neg h, List.append_nil]
theorem repL_1 (b : Bool) (o n : Int) (d : ByteArray) : repL ⟨1, 0, b, o, n, d⟩ = (nb 1 1 ++ nb 4 0) ++ (nb 1 (bn b) ++ nb 8 (un o)) := by unfold repL repB; dsimp only; rw [if_pos rfl, if_pos rfl]; rfl
theorem repL_2 (b : Bool) (o n : Int) (d : ByteArray) : repL ⟨2, 0, b, o, n, d⟩ = (nb 1 2 ++ nb 4 0) ++ (nb 8 (un n) ++ (nb 4 d.size ++ bl d)) := by unfold repL repB; dsimp only; rw [if_pos rfl, if_neg (by decide), if_pos rfl]; rfl
theorem repL_3 (b : Bool) (o n : Int) (d : ByteArray) : repL ⟨3, 0, b, o, n, d⟩ = (nb 1 3 ++ nb 4 0) ++ nb 8 (un o) := by unfold repL repB; dsimp only; rw [if_pos rfl, if_neg (by decide), if_neg (by decide), if_pos rfl]; rfl
theorem repL_4 (b : Bool) (o n : Int) (d : ByteArray) : repL ⟨4, 0, b, o, n, d⟩ = (nb 1 4 ++ nb 4 0) ++ nb 8 (un n) := by unfold repL repB; dsimp only; rw [if_pos rfl, if_neg (by decide), if_neg (by decide), if_neg (by decide), if_pos rfl]; rfl
theorem repL_5 (b : Bool) (o n : Int) (d : ByteArray) : repL ⟨5, 0, b, o, n, d⟩ = (nb 1 5 ++ nb 4 0) ++ nb 8 (un o) := by unfold repL repB; dsimp only; rw [if_pos rfl, if_neg (by decide), if_neg (by decide), if_neg (by decide), if_neg (by decide), if_pos rfl]; rfl
theorem repL_6 (b : Bool) (o n : Int) (d : ByteArray) : repL ⟨6, 0, b, o, n, d⟩ = (nb 1 6 ++ nb 4 0) ++ (nb 8 (un o) ++ nb 8 (un n)) := by unfold repL repB; dsimp only; rw [if_pos rfl, if_neg (by decide), if_neg (by decide), if_neg (by decide), if_neg (by decide), if_neg (by decide), if_pos rfl]; rfl
def finP (p : Rp) (E : Nat) : Rp × Nat := if E = 0 then (p, 0) else (zp, E)
theorem finP_ok {r r' : Rp} {E : Nat} (h : finP r E = (r', 0)) : E = 0 ∧ r = r' := by
  unfold finP at h
  split at h
  · rename_i h0; injection h with h1 _; exact ⟨h0, h1⟩
  · rename_i h0; injection h with _ h2; exact absurd h2 h0
/-- What any bytes are read as. -/
def rrQ (s : ByteArray) : Rp × Nat :=
  if (fx 1 s 0 0).2.2 ≠ 0 then (zp, 20)
  else if 6 < (fx 1 s 0 0).1 then (zp, 6)
  else if (fx 4 s 1 0).2.2 ≠ 0 then (zp, 20)
  else if wrap32 ((fx 4 s 1 0).1 : Int) < 0 then (zp, 1)
  else if 0 < wrap32 ((fx 4 s 1 0).1 : Int) then finP ⟨(fx 1 s 0 0).1, wrap32 ((fx 4 s 1 0).1 : Int), false, 0, 0, ⟨#[]⟩⟩ (dq s 5 0)
  else if (fx 1 s 0 0).1 = 0 then (zp, 6)
  else if (fx 1 s 0 0).1 = 1 then (if (fx 1 s 5 0).2.2 ≠ 0 then (zp, 20) else if 1 < (fx 1 s 5 0).1 then (zp, 91) else finP ⟨1, 0, decide ((fx 1 s 5 0).1 = 1), wrap64 ((fx 8 s 6 0).1 : Int), 0, ⟨#[]⟩⟩ (dq s (fx 8 s 6 0).2.1 (fx 8 s 6 0).2.2))
  else if (fx 1 s 0 0).1 = 2 then (if (fx 8 s 5 0).2.2 ≠ 0 then (zp, 20) else finP ⟨2, 0, false, 0, wrap64 ((fx 8 s 5 0).1 : Int), (rdD 1073741824 s 13 0).1⟩ (rdD 1073741824 s 13 0).2)
  else if (fx 1 s 0 0).1 = 3 then finP ⟨3, 0, false, wrap64 ((fx 8 s 5 0).1 : Int), 0, ⟨#[]⟩⟩ (dq s (fx 8 s 5 0).2.1 (fx 8 s 5 0).2.2)
  else if (fx 1 s 0 0).1 = 4 then finP ⟨4, 0, false, 0, wrap64 ((fx 8 s 5 0).1 : Int), ⟨#[]⟩⟩ (dq s (fx 8 s 5 0).2.1 (fx 8 s 5 0).2.2)
  else if (fx 1 s 0 0).1 = 5 then finP ⟨5, 0, false, wrap64 ((fx 8 s 5 0).1 : Int), 0, ⟨#[]⟩⟩ (dq s (fx 8 s 5 0).2.1 (fx 8 s 5 0).2.2)
  else finP ⟨6, 0, false, wrap64 ((fx 8 s 5 0).1 : Int), wrap64 ((fx 8 s (fx 8 s 5 0).2.1 (fx 8 s 5 0).2.2).1 : Int), ⟨#[]⟩⟩ (dq s (fx 8 s (fx 8 s 5 0).2.1 (fx 8 s 5 0).2.2).2.1 (fx 8 s (fx 8 s 5 0).2.1 (fx 8 s 5 0).2.2).2.2)
def Gp (p : Rp) : Prop := repE p = 0 ∧ nrmP p = p ∧ I64 p.o ∧ I64 p.n
theorem whole5 {s : ByteArray} {K y : Nat} {l : List Nat} (h0 : Stands s 0 (nb 1 K)) (h4 : Stands s 1 (nb 4 y)) (h1 : Stands s 5 l) (h2 : ¬ 5 + l.length < s.size) : bl s = (nb 1 K ++ nb 4 y) ++ l := by
  rw [List.append_assoc]
  exact whole1 h0 (stands_app.2 ⟨h4, by rw [nb_len]; exact h1⟩) (by rw [List.length_append, nb_len]; omega)
set_option maxRecDepth 4000 in
/-- What is read is written as it was. -/
theorem rrQ_0 {s : ByteArray} {r : Rp} (h : rrQ s = (r, 0)) : Gp r ∧ bl s = repL r := by
  obtain ⟨v, k1, e1, h0⟩ := ex3 (fx 1 s 0 0)
  obtain ⟨y, k2, e2, hy⟩ := ex3 (fx 4 s 1 0)
  obtain ⟨c, kc, ec, hc⟩ := ex3 (fx 1 s 5 0)
  obtain ⟨g, kg, eg, hg⟩ := ex3 (fx 8 s 6 0)
  obtain ⟨a, k3, e3, h1⟩ := ex3 (fx 8 s 5 0)
  obtain ⟨b, k4, e4, h2⟩ := ex3 (fx 8 s k3 e3)
  obtain ⟨D, ED, hD⟩ := exD (rdD 1073741824 s 13 0)
  unfold rrQ at h
  rw [h0, hy, hc, hg, h1] at h
  dsimp only at h
  rw [h2, hD] at h
  dsimp only at h
  by_cases he : e1 ≠ 0
  · rw [if_pos he] at h
    injection h with _ h; exact absurd h (by decide)
  rw [if_neg he] at h
  have he' : e1 = 0 := Decidable.not_not.1 he
  subst he'
  obtain ⟨hv, hS, rfl⟩ := fx_iff.1 h0
  by_cases hv6 : 6 < v
  · rw [if_pos hv6] at h
    injection h with _ h; exact absurd h (by decide)
  rw [if_neg hv6] at h
  by_cases he2 : e2 ≠ 0
  · rw [if_pos he2] at h
    injection h with _ h; exact absurd h (by decide)
  rw [if_neg he2] at h
  have he2' : e2 = 0 := Decidable.not_not.1 he2
  subst he2'
  obtain ⟨hyl, hS4, rfl⟩ := fx_iff.1 hy
  have h5 : 5 ≤ s.size := by have := hS4.le; rw [nb_len] at this; omega
  by_cases hneg : wrap32 (y : Int) < 0
  · rw [if_pos hneg] at h
    injection h with _ h; exact absurd h (by decide)
  rw [if_neg hneg] at h
  obtain ⟨hw1, hw2, hw3⟩ := w32_pos hyl hneg
  generalize wrap32 (y : Int) = R at *
  by_cases hpos : 0 < R
  · rw [if_pos hpos] at h
    obtain ⟨hE, rfl⟩ := finP_ok h
    obtain ⟨_, hend⟩ := dq_zero hE
    have hR0 : ¬ R = 0 := by omega
    refine ⟨⟨repE_ok ?_ ⟨hw2, hw3⟩ (fun h => absurd h hR0), by simp [nrmP, hR0], I64_0, I64_0⟩, ?_⟩
    · dsimp only
      by_cases hvz : v = 0
      · right; subst hvz; exact ⟨rfl, hR0⟩
      · left; omega
    · rw [repL_err hR0]
      dsimp only
      rw [hw1, Int.toNat_natCast]
      have := whole5 hS hS4 (stands_nil h5) (by simpa using hend)
      rw [this, List.append_nil]
  rw [if_neg hpos] at h
  have hR0 : R = 0 := by omega
  subst hR0
  have hy0 : y = 0 := by rw [← hw1]; rfl
  subst hy0
  by_cases hv0 : v = 0
  · rw [if_pos hv0] at h
    injection h with _ h; exact absurd h (by decide)
  rw [if_neg hv0] at h
  by_cases hk : v = 1
  · rw [if_pos hk] at h
    subst hk
    split at h
    · injection h with _ h; exact absurd h (by decide)
    rename_i hec
    have hec' : ec = 0 := Decidable.not_not.1 hec
    subst hec'
    obtain ⟨hcl, hSc, rfl⟩ := fx_iff.1 hc
    split at h
    · injection h with _ h; exact absurd h (by decide)
    rename_i hc1
    obtain ⟨hE, rfl⟩ := finP_ok h
    obtain ⟨ha, hSg, hend⟩ := one8 hg hE
    refine ⟨⟨repE_ok (Or.inl ⟨by dsimp only; omega, by dsimp only; omega⟩) ⟨by dsimp only; omega, by dsimp only; omega⟩ (fun _ h => by dsimp only at h; omega), by simp [nrmP], I64_wrap _, I64_0⟩, ?_⟩
    have := whole5 hS hS4 (stands_app.2 ⟨hSc, by rw [nb_len]; exact hSg⟩) (by rw [List.length_append, nb_len, nb_len]; omega)
    have hbn : bn (decide (c = 1)) = c := by
      unfold bn
      by_cases h : c = 1
      · simp [h]
      · rw [decide_eq_false h]; simp; omega
    rw [this, repL_1, un_wrap ha, hbn]
  rw [if_neg hk] at h
  by_cases hk : v = 2
  · rw [if_pos hk] at h
    subst hk
    split at h
    · injection h with _ h; exact absurd h (by decide)
    rename_i hec
    have hec' : e3 = 0 := Decidable.not_not.1 hec
    subst hec'
    obtain ⟨ha, hSa, rfl⟩ := fx_iff.1 h1
    obtain ⟨hE, rfl⟩ := finP_ok h
    subst hE
    obtain ⟨hM, _, hSd, hend⟩ := rdD_0 hD
    refine ⟨⟨repE_ok (Or.inl ⟨by dsimp only; omega, by dsimp only; omega⟩) ⟨by dsimp only; omega, by dsimp only; omega⟩ (fun _ _ => hM), by simp [nrmP], I64_0, I64_wrap _⟩, ?_⟩
    have := whole5 hS hS4 (stands_app.2 ⟨hSa, by rw [nb_len]; exact hSd⟩) (by rw [List.length_append, List.length_append, nb_len, nb_len, bl_len]; omega)
    rw [this, repL_2, un_wrap ha]
  rw [if_neg hk] at h
  by_cases hk : v = 3
  · rw [if_pos hk] at h
    subst hk
    obtain ⟨hE, rfl⟩ := finP_ok h
    obtain ⟨ha, hSd, hend⟩ := one8 h1 hE
    refine ⟨⟨repE_ok (Or.inl ⟨by dsimp only; omega, by dsimp only; omega⟩) ⟨by dsimp only; omega, by dsimp only; omega⟩ (fun _ h => by dsimp only at h; omega), by simp [nrmP], I64_wrap _, I64_0⟩, ?_⟩
    rw [whole5 hS hS4 hSd (by rw [nb_len]; omega), repL_3, un_wrap ha]
  rw [if_neg hk] at h
  by_cases hk : v = 4
  · rw [if_pos hk] at h
    subst hk
    obtain ⟨hE, rfl⟩ := finP_ok h
    obtain ⟨ha, hSd, hend⟩ := one8 h1 hE
    refine ⟨⟨repE_ok (Or.inl ⟨by dsimp only; omega, by dsimp only; omega⟩) ⟨by dsimp only; omega, by dsimp only; omega⟩ (fun _ h => by dsimp only at h; omega), by simp [nrmP], I64_0, I64_wrap _⟩, ?_⟩
    rw [whole5 hS hS4 hSd (by rw [nb_len]; omega), repL_4, un_wrap ha]
  rw [if_neg hk] at h
  by_cases hk : v = 5
  · rw [if_pos hk] at h
    subst hk
    obtain ⟨hE, rfl⟩ := finP_ok h
    obtain ⟨ha, hSd, hend⟩ := one8 h1 hE
    refine ⟨⟨repE_ok (Or.inl ⟨by dsimp only; omega, by dsimp only; omega⟩) ⟨by dsimp only; omega, by dsimp only; omega⟩ (fun _ h => by dsimp only at h; omega), by simp [nrmP], I64_wrap _, I64_0⟩, ?_⟩
    rw [whole5 hS hS4 hSd (by rw [nb_len]; omega), repL_5, un_wrap ha]
  rw [if_neg hk] at h
  have hk : v = 6 := by omega
  subst hk
  obtain ⟨hE, rfl⟩ := finP_ok h
  obtain ⟨ha, hb, hSd, hend⟩ := two8 h1 h2 hE
  refine ⟨⟨repE_ok (Or.inl ⟨by dsimp only; omega, by dsimp only; omega⟩) ⟨by dsimp only; omega, by dsimp only; omega⟩ (fun _ h => by dsimp only at h; omega), by simp [nrmP], I64_wrap _, I64_wrap _⟩, ?_⟩
  rw [whole5 hS hS4 hSd (by rw [List.length_append, nb_len, nb_len]; omega), repL_6, un_wrap ha, un_wrap hb]
theorem at5 {s : ByteArray} {K y : Nat} {l t : List Nat} (hK : K < 256) (hy : y < 256 ^ 4) (h : bl s = ((nb 1 K ++ nb 4 y) ++ l) ++ t) : fx 1 s 0 0 = (K, 1, 0) ∧ fx 4 s 1 0 = (y, 5, 0) ∧ Stands s 5 l ∧ s.size = 5 + l.length + t.length := by
  rw [List.append_assoc (nb 1 K)] at h
  obtain ⟨h0, hS, hz⟩ := at1 hK h
  obtain ⟨h1, h2⟩ := stands_app.1 hS
  rw [nb_len] at h2
  rw [List.length_append, nb_len] at hz
  exact ⟨h0, fx_iff.2 ⟨hy, h1, rfl⟩, h2, by omega⟩
set_option maxRecDepth 4000 in
set_option maxHeartbeats 1000000 in
/-- What is written is read again, with bytes behind it or none. -/
theorem rrQ_of {s : ByteArray} {p : Rp} {t : List Nat} (hgp : Gp p) (h : bl s = repL p ++ t) : rrQ s = finP p (if t = [] then 0 else 22) := by
  obtain ⟨hE, hn, hIo, hIn⟩ := hgp
  obtain ⟨hk, hr, hd⟩ := repE_0 hE
  obtain ⟨k, r, b, o, n, d⟩ := p
  dsimp only at hk hr hd hIo hIn
  unfold nrmP at hn
  simp only [Rp.mk.injEq, true_and] at hn
  obtain ⟨n1, n2, n3, n4⟩ := hn
  by_cases hr0 : r = 0
  · subst hr0
    have hk' : 1 ≤ k ∧ k ≤ 6 := by rcases hk with h | h; exact h; exact absurd rfl h.2
    rcases (by omega : k = 1 ∨ k = 2 ∨ k = 3 ∨ k = 4 ∨ k = 5 ∨ k = 6) with rfl | rfl | rfl | rfl | rfl | rfl
    · simp at n3 n4
      subst n3 n4
      rw [repL_1] at h
      obtain ⟨h0, hy, hS, hz⟩ := at5 (K := 1) (y := 0) (by omega) (by decide) h
      rw [List.length_append, nb_len, nb_len] at hz
      obtain ⟨hS1, hS2⟩ := stands_app.1 hS
      rw [nb_len] at hS2
      have hc : fx 1 s 5 0 = (bn b, 6, 0) := fx_iff.2 ⟨by cases b <;> decide, hS1, rfl⟩
      have hg : fx 8 s 6 0 = (un o, 14, 0) := fx_iff.2 ⟨un_lt _, hS2, rfl⟩
      have hq := dq_end (s := s) (k := 14) (t := t) (by omega)
      have hb1 : ¬ 1 < bn b := by cases b <;> decide
      have hb2 : decide (bn b = 1) = b := by cases b <;> decide
      unfold rrQ
      simp only [h0, hy, w32_0, hc, hg, hq, wrap_un hIo, hb2]
      rw [if_neg (by decide), if_neg (by decide), if_neg (by decide), if_neg (by decide), if_neg (by decide), if_neg (by decide), if_pos trivial, if_neg (by decide), if_neg hb1]
    · simp at n1 n2
      subst n1 n2
      rw [repL_2] at h
      obtain ⟨h0, hy, hS, hz⟩ := at5 (K := 2) (y := 0) (by omega) (by decide) h
      rw [List.length_append, List.length_append, nb_len, nb_len, bl_len] at hz
      obtain ⟨hS1, hS2⟩ := stands_app.1 hS
      rw [nb_len] at hS2
      have hg : fx 8 s 5 0 = (un n, 13, 0) := fx_iff.2 ⟨un_lt _, hS1, rfl⟩
      have hD := rdD_ok (M := 1073741824) (t := t) (hd rfl rfl) (by decide) hS2 (by omega)
      unfold rrQ
      simp only [h0, hy, w32_0, hg, hD, wrap_un hIn]
      rw [if_neg (by decide), if_neg (by decide), if_neg (by decide), if_neg (by decide), if_neg (by decide), if_neg (by decide), if_neg (by decide), if_pos trivial, if_neg (by decide)]
    · simp at n1 n3 n4
      subst n1 n3 n4
      rw [repL_3] at h
      obtain ⟨h0, hy, hS, hz⟩ := at5 (K := 3) (y := 0) (by omega) (by decide) h
      rw [nb_len] at hz
      have hg : fx 8 s 5 0 = (un o, 13, 0) := fx_iff.2 ⟨un_lt _, hS, rfl⟩
      have hq := dq_end (s := s) (k := 13) (t := t) (by omega)
      unfold rrQ
      simp only [h0, hy, w32_0, hg, hq, wrap_un hIo]
      rw [if_neg (by decide), if_neg (by decide), if_neg (by decide), if_neg (by decide), if_neg (by decide), if_neg (by decide), if_neg (by decide), if_neg (by decide), if_pos trivial]
    · simp at n1 n2 n4
      subst n1 n2 n4
      rw [repL_4] at h
      obtain ⟨h0, hy, hS, hz⟩ := at5 (K := 4) (y := 0) (by omega) (by decide) h
      rw [nb_len] at hz
      have hg : fx 8 s 5 0 = (un n, 13, 0) := fx_iff.2 ⟨un_lt _, hS, rfl⟩
      have hq := dq_end (s := s) (k := 13) (t := t) (by omega)
      unfold rrQ
      simp only [h0, hy, w32_0, hg, hq, wrap_un hIn]
      rw [if_neg (by decide), if_neg (by decide), if_neg (by decide), if_neg (by decide), if_neg (by decide), if_neg (by decide), if_neg (by decide), if_neg (by decide), if_neg (by decide), if_pos trivial]
    · simp at n1 n3 n4
      subst n1 n3 n4
      rw [repL_5] at h
      obtain ⟨h0, hy, hS, hz⟩ := at5 (K := 5) (y := 0) (by omega) (by decide) h
      rw [nb_len] at hz
      have hg : fx 8 s 5 0 = (un o, 13, 0) := fx_iff.2 ⟨un_lt _, hS, rfl⟩
      have hq := dq_end (s := s) (k := 13) (t := t) (by omega)
      unfold rrQ
      simp only [h0, hy, w32_0, hg, hq, wrap_un hIo]
      rw [if_neg (by decide), if_neg (by decide), if_neg (by decide), if_neg (by decide), if_neg (by decide), if_neg (by decide), if_neg (by decide), if_neg (by decide), if_neg (by decide), if_neg (by decide), if_pos trivial]
    · simp at n1 n4
      subst n1 n4
      rw [repL_6] at h
      obtain ⟨h0, hy, hS, hz⟩ := at5 (K := 6) (y := 0) (by omega) (by decide) h
      rw [List.length_append, nb_len, nb_len] at hz
      obtain ⟨hS1, hS2⟩ := stands_app.1 hS
      rw [nb_len] at hS2
      have h1 : fx 8 s 5 0 = (un o, 13, 0) := fx_iff.2 ⟨un_lt _, hS1, rfl⟩
      have h2 : fx 8 s 13 0 = (un n, 21, 0) := fx_iff.2 ⟨un_lt _, hS2, rfl⟩
      have hq := dq_end (s := s) (k := 21) (t := t) (by omega)
      unfold rrQ
      simp only [h0, hy, w32_0, h1, h2, hq, wrap_un hIo, wrap_un hIn]
      rw [if_neg (by decide), if_neg (by decide), if_neg (by decide), if_neg (by decide), if_neg (by decide), if_neg (by decide), if_neg (by decide), if_neg (by decide), if_neg (by decide), if_neg (by decide), if_neg (by decide)]
  · simp [hr0] at n1 n2 n3 n4
    subst n1 n2 n3 n4
    rw [repL_err hr0] at h
    dsimp only at h
    obtain ⟨K, rfl⟩ : ∃ K : Nat, k = K := ⟨k.toNat, by omega⟩
    rw [Int.toNat_natCast] at h
    obtain ⟨h0, hy, hS, hz⟩ := at5 (s := s) (K := K) (y := r.toNat) (l := []) (t := t) (by omega) (r_lt hr.2) (by rw [List.append_nil]; exact h)
    have hq := dq_end (s := s) (k := 5) (t := t) (by simpa using hz)
    unfold rrQ
    simp only [h0, hy, hq, w32_of hr.1 hr.2]
    rw [if_neg (by decide), if_neg (by omega), if_neg (by decide), if_neg (by omega), if_pos (by omega)]
end Go.Proofs.YtgdaaohlongmlaaGreat
