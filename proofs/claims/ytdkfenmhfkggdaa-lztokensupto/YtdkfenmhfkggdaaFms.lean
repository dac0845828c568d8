/- What Form and Unpack say of any tokens, by plain lists; a copy of a list of tokens. -/
import Derived.Test.YtdkfenmhfkggdaaSam
import Derived.Test.YtdkfenmhfkggdaaTl
namespace M
def apps (out : List UInt8) (ts : List Tok) : List UInt8 := ts.foldl app out
def distOk : List UInt8 → List Tok → Prop
  | _, [] => True
  | out, t :: ts => t.dist ≤ out.length ∧ distOk (app out t) ts
theorem apps_le : ∀ (ts : List Tok) (out : List UInt8), out.length ≤ (apps out ts).length
  | [], _ => Nat.le_refl _
  | t :: ts, out => by
    have := apps_le ts (app out t)
    have h := app_len out t
    show out.length ≤ (apps (app out t) ts).length
    omega
theorem goT_pre (len : Nat) : ∀ (xs ys : List Tok) (out : List UInt8), distOk out xs → (apps out xs).length ≤ len → goT len (xs ++ ys) out = goT len ys (apps out xs)
  | [], _, _, _, _ => rfl
  | t :: xs, ys, out, h, hl => by
    have h2 := apps_le xs (app out t)
    have h3 := app_len out t
    have hl' : (apps (app out t) xs).length ≤ len := hl
    show goT len (t :: (xs ++ ys)) out = goT len ys (apps (app out t) xs)
    simp only [goT]
    rw [if_neg (by have := h.1; omega), if_neg (by omega), goT_pre len xs ys (app out t) h.2 hl']
theorem apps_snoc (out : List UInt8) (xs : List Tok) (t : Tok) : apps out (xs ++ [t]) = app (apps out xs) t := by simp [apps]
theorem distOk_snoc : ∀ (xs : List Tok) (out : List UInt8) (t : Tok), distOk out xs → t.dist ≤ (apps out xs).length → distOk out (xs ++ [t])
  | [], _, _, _, h => ⟨h, trivial⟩
  | _ :: xs, out, t, h, h2 => ⟨h.1, distOk_snoc xs (app out _) t h.2 h2⟩
end M
namespace Go.Proofs.Ytdkfenmhfkggdaa
open Go.RowKit
theorem rb_inv {r : ByteArray × Int × Int} {a : List UInt8} (h : rb r = some a) : ∃ t : M.Tok, t.ok ∧ r = rt t ∧ a = t.bytes := by
  obtain ⟨S, n, d⟩ := r
  unfold rb at h
  split at h
  · rename_i hl
    unfold lB at hl
    rw [decide_eq_true_iff] at hl
    simp only at hl
    obtain ⟨rfl, rfl, h1, h2⟩ := hl
    injection h with h
    refine ⟨.lit S.data.toList, ⟨by rw [len_]; exact h1, by rw [len_]; exact h2⟩, rfl, ?_⟩
    rw [← h]
    exact runs_one (by rw [len_]; exact h1) (by rw [len_]; exact h2)
  · split at h
    · rename_i hm
      unfold mB at hm
      rw [decide_eq_true_iff] at hm
      simp only at hm
      obtain ⟨h1, ⟨h2, h3⟩, h4, h5⟩ := hm
      injection h with h
      obtain ⟨N, rfl⟩ := Int.eq_ofNat_of_zero_le (show 0 ≤ n by omega)
      obtain ⟨D, rfl⟩ := Int.eq_ofNat_of_zero_le (show 0 ≤ d by omega)
      have e0 := (empty_iff S).1 h1
      subst e0
      exact ⟨.mat N D, ⟨by omega, by omega, by omega, by omega⟩, rfl, h.symm⟩
    · cases h
theorem frm_inv : ∀ (rs : List (ByteArray × Int × Int)) (F : List UInt8), frm rs = some F → ∃ ts : List M.Tok, (∀ t ∈ ts, t.ok) ∧ rs = ts.map rt ∧ F = M.bytesOf ts
  | [], F, h => by
    injection h with h
    exact ⟨[], by simp, rfl, h.symm⟩
  | r :: rs, F, h => by
    simp only [frm] at h
    cases hr : rb r with
    | none => rw [hr] at h; cases h
    | some a =>
      rw [hr] at h
      simp only at h
      cases hf : frm rs with
      | none => rw [hf] at h; cases h
      | some b =>
        rw [hf] at h
        injection h with h
        obtain ⟨t, ht, rfl, rfl⟩ := rb_inv hr
        obtain ⟨ts, hts, rfl, rfl⟩ := frm_inv rs b hf
        refine ⟨t :: ts, ?_, rfl, by rw [← h]; rfl⟩
        intro u hu
        rcases List.mem_cons.1 hu with e | e
        · rw [e]; exact ht
        · exact hts u e
/-- 'append([]T{}, list...)': the tokens once more, in new memory. -/
theorem wpList_copy_toks {w : World} {ops : Array Oper} {rest : List Oper} {o : Oper} {a : Act} {Q : Exit → Act → World → Prop} (hgd : o.guard = none) (s x : Operand)
    (ho : o.op = .call { callee := .builtin .append, args := #[s, x], argTypes := #[38, 38] })
    (B : Nat) (v : Value) (hs : a.eval s = v) (hown : w.ownsRow B 47 3 v 0 []) (hB : B ≤ w.heap.size)
    (ao : Option Addr) (rs : List (ByteArray × Int × Int)) (c : Nat) (hx : a.eval x = .slice ao rs.length c) (hv : Trip w ao rs) (hnil : ao = none → c = 0) (h63 : rs.length ≤ 100000000000)
    (h : ∀ v' w', OwnT 47 w' B v' rs → w.grownBy w' v.ownBlock → wpList Try.prog ops Q rest (a.put o.dst v') w') : wpList Try.prog ops Q (o :: rest) a w := by
  obtain ⟨i0, hi, hz0, hz1, hz2⟩ := info_parts Try.infoTok
  cases ao with
  | none =>
    have h0 : rs = [] := by
      rcases hv with h | ⟨_, _, e1, _⟩
      · exact h
      · cases e1
    subst h0
    have hc := hnil rfl
    subst hc
    refine wpList_append_own_none hgd s x _ ho B 47 i0 3 Try.underToks hi v 0 [] hs hown hx ?_
    exact h v w hown ⟨rfl, rfl, rfl, Nat.le_refl _, fun _ _ _ => rfl⟩
  | some ad =>
    refine wpList_append_own w hgd s x _ ho B 47 i0 (.agg #[.string ⟨#[]⟩, .int .i64 0, .int .i64 0]) 3 32 Try.underToks hi hz0 hz1 hz2 rfl (by decide) v 0 [] hs hown ad rs.length c (rcs rs) hx (rcs_len rs) ?_ (rcs_one rs) (by unfold maxLen; omega) (by omega) hB ?_
    · intro j u hj
      rcases hv with rfl | ⟨b, off, e1, hlt, hc⟩
      · simp [rcs] at hj
      · injection e1 with e1
        subst e1
        have hj2 : j < rs.length * 3 := by have := (List.getElem?_eq_some_iff.1 hj).1; rw [rcs_len] at this; exact this
        have hr := rcs_at rs (j / 3) (by omega)
        obtain ⟨c0, c1, c2⟩ := hc (j / 3) (by omega)
        rw [Go.WideShapes.add_plain]
        have h3 : j % 3 = 0 ∨ j % 3 = 1 ∨ j % 3 = 2 := by omega
        rcases h3 with h3 | h3 | h3
        · have ej : j = j / 3 * 3 := by omega
          rw [← ej] at c0 hr
          rw [c0, ← hr.1]
          exact hj
        · have ej : j = j / 3 * 3 + 1 := by omega
          have ea : off + j = off + j / 3 * 3 + 1 := by omega
          rw [ea, c1, ← hr.2.1, ← ej]
          exact hj
        · have ej : j = j / 3 * 3 + 2 := by omega
          have ea : off + j = off + j / 3 * 3 + 2 := by omega
          rw [ea, c2, ← hr.2.2, ← ej]
          exact hj
    · intro v' w' hown' hgrow _
      rw [Nat.zero_add, List.nil_append] at hown'
      exact h v' w' hown' hgrow
end Go.Proofs.Ytdkfenmhfkggdaa
