/- All tokens of some bytes, by plain lists. -/
import Derived.Test.YtdkfenmhfkggdaaPk2
namespace M
def tksF : Nat → Nat → List UInt8 → Except (Nat × Nat) (List Tok)
  | 0, _, _ => .ok []
  | f + 1, q, p => if p.length = 0 then .ok [] else
    match fst' p with
    | .error k => .error (q, k)
    | .ok (t, n) => match tksF f (q + n) (p.drop n) with
      | .error e => .error e
      | .ok ts => .ok (t :: ts)
theorem tksF_eq : ∀ (f g q : Nat) (p : List UInt8), p.length ≤ f → p.length ≤ g → tksF f q p = tksF g q p
  | 0, 0, _, _, _, _ => rfl
  | 0, g + 1, q, p, h, _ => by
    have h0 : p.length = 0 := by omega
    simp only [tksF, h0, if_true]
  | f + 1, 0, q, p, _, h => by
    have h0 : p.length = 0 := by omega
    simp only [tksF, h0, if_true]
  | f + 1, g + 1, q, p, h1, h2 => by
    simp only [tksF]
    split
    · rfl
    · rename_i hp
      split
      · rfl
      · rename_i t n he
        have := fst_ok hp he
        rw [tksF_eq f g (q + n) (p.drop n) (by simp; omega) (by simp; omega)]
def tks (q : Nat) (p : List UInt8) : Except (Nat × Nat) (List Tok) := tksF p.length q p
def pre (ts0 : List Tok) : Except (Nat × Nat) (List Tok) → Except (Nat × Nat) (List Tok)
  | .error e => .error e
  | .ok ts => .ok (ts0 ++ ts)
theorem pre_nil (X : Except (Nat × Nat) (List Tok)) : pre [] X = X := by cases X <;> rfl
theorem tks_nil (q : Nat) : tks q [] = .ok [] := rfl
theorem tks_err {q k : Nat} {p : List UInt8} (hp : p.length ≠ 0) (h : fst' p = .error k) : tks q p = .error (q, k) := by
  unfold tks
  obtain ⟨n, hn⟩ : ∃ n, p.length = n + 1 := ⟨p.length - 1, by omega⟩
  rw [hn]
  simp only [tksF, hp, if_false, h]
theorem tks_ok {q n : Nat} {t : Tok} {p : List UInt8} (hp : p.length ≠ 0) (h : fst' p = .ok (t, n)) (ts0 : List Tok) : pre ts0 (tks q p) = pre (ts0 ++ [t]) (tks (q + n) (p.drop n)) := by
  have hok := fst_ok hp h
  unfold tks
  obtain ⟨m, hm⟩ : ∃ m, p.length = m + 1 := ⟨p.length - 1, by omega⟩
  rw [hm]
  simp only [tksF, hp, if_false, h]
  rw [tksF_eq m (p.drop n).length (q + n) (p.drop n) (by simp; omega) (Nat.le_refl _)]
  cases tksF (p.drop n).length (q + n) (p.drop n) with
  | error e => rfl
  | ok ts => simp [pre]
theorem tks_bytes : ∀ (ts : List Tok) (q : Nat), (∀ t ∈ ts, t.ok) → tks q (bytesOf ts) = .ok ts
  | [], q, _ => rfl
  | t :: ts, q, h => by
    have ht := h t (List.mem_cons_self ..)
    have hp : (bytesOf (t :: ts)).length ≠ 0 := by
      rw [bytesOf_cons, List.length_append]
      have := bytes_pos t
      omega
    have hf : fst' (bytesOf (t :: ts)) = .ok (t, t.bytes.length) := by rw [bytesOf_cons]; exact fst_bytes ht _
    have h1 := tks_ok (q := q) hp hf []
    rw [pre_nil] at h1
    rw [h1, bytesOf_cons, List.drop_left, tks_bytes ts _ (fun u hu => h u (List.mem_cons_of_mem _ hu))]
    rfl
end M
