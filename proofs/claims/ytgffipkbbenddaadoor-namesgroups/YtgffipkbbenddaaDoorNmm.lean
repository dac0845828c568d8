/- Names, as plain lists: the twenty digits, what is read of them, the endings. -/
import Derived.Test.YtgffipkbbenddaaDoorRows
import Derived.Lib.ItoaNum
import Derived.Lib.ParseIntB
import Derived.Lib.Repeat
namespace Go.Proofs.YtgffipkbbenddaaDoor
open Go.Lib
/-- The k lowest digits of b, the high one first. -/
def D : Nat → Nat → List UInt8
  | 0, _ => []
  | k + 1, b => D k (b / 10) ++ [UInt8.ofNat (48 + b % 10)]
theorem D_len : ∀ (k b : Nat), (D k b).length = k
  | 0, _ => rfl
  | k + 1, b => by simp [D, D_len k (b / 10)]
theorem D_front : ∀ (k b : Nat), D (k + 1) b = UInt8.ofNat (48 + b / 10 ^ k % 10) :: D k b
  | 0, b => by simp [D]
  | k + 1, b => by
    have h := D_front k (b / 10)
    rw [D, h, D, List.cons_append, Nat.div_div_eq_div_mul, ← Nat.pow_succ']
theorem decD : ∀ (k b : Nat), b < 10 ^ (k + 1) → (decDigits b).length ≤ k + 1 ∧ List.replicate (k + 1 - (decDigits b).length) 48 ++ decDigits b = D (k + 1) b
  | 0, b, h => by
    rw [decDigits_one (by simpa using h)]
    have : b % 10 = b := Nat.mod_eq_of_lt (by simpa using h)
    simp [D, this]
  | k + 1, b, h => by
    by_cases hb : b < 10
    · rw [decDigits_one hb]
      have h0 := decD k 0 (Nat.pow_pos (by decide))
      rw [decDigits_one (by decide)] at h0
      have e : b / 10 = 0 := Nat.div_eq_of_lt hb
      have e2 : b % 10 = b := Nat.mod_eq_of_lt hb
      refine ⟨by simp, ?_⟩
      rw [D, e, ← h0.2, e2]
      simp only [List.length_cons, List.length_nil, Nat.zero_add, Nat.add_sub_cancel, Nat.add_zero]
      rw [show (48 : UInt8) = UInt8.ofNat 48 from rfl, List.replicate_succ']
    · have h1 := decD k (b / 10) (by rw [Nat.pow_succ] at h; omega)
      rw [decDigits, dif_neg hb, List.length_append]
      refine ⟨by simp; omega, ?_⟩
      rw [D, ← h1.2, ← List.append_assoc]
      simp
theorem rep1 (n : Nat) : repeatL [48] n = List.replicate n 48 := by
  induction n with
  | zero => rfl
  | succ n ih => rw [repeatL, ih]; rfl
/-- The number of some digits, where it is at most MostOffset. -/
def dgt : Nat → List UInt8 → Option Nat
  | v, [] => some v
  | v, c :: r => if 48 ≤ c.toNat ∧ c.toNat ≤ 57 then (if (4611686018427387904 - (c.toNat - 48)) / 10 < v then none else dgt (v * 10 + (c.toNat - 48)) r) else none
theorem pu_le (M : Nat) : ∀ (l : List UInt8) (v u : Nat), parseUintM M v l = .ok u → v ≤ u
  | [], v, u, h => by simp [parseUintM] at h; omega
  | c :: r, v, u, h => by
    rw [parseUintM] at h
    split at h
    · split at h
      · cases h
      · split at h
        · cases h
        · have := pu_le M r _ u h
          omega
    · cases h
theorem dgt_pu : ∀ (l : List UInt8) (v u : Nat), (parseUintM 18446744073709551615 v l = .ok u ∧ u ≤ 4611686018427387904) ↔ (dgt v l = some u ∧ u ≤ 4611686018427387904)
  | [], v, u => by simp [parseUintM, dgt]
  | c :: r, v, u => by
    rw [parseUintM, dgt]
    by_cases hd : 48 ≤ c.toNat ∧ c.toNat ≤ 57
    · rw [if_pos hd, if_pos hd]
      by_cases hv : (4611686018427387904 - (c.toNat - 48)) / 10 < v
      · rw [if_pos hv]
        refine ⟨fun ⟨h, hu⟩ => ?_, fun h => by simp at h⟩
        split at h
        · cases h
        · split at h
          · cases h
          · have := pu_le _ r _ u h
            omega
      · rw [if_neg hv, if_neg (by omega), if_neg (by omega)]
        exact dgt_pu r _ u
    · rw [if_neg hd, if_neg hd]
      simp
theorem dgt_le : ∀ (l : List UInt8) (v u : Nat), dgt v l = some u → v ≤ 4611686018427387904 → u ≤ 4611686018427387904
  | [], v, u, h, hv => by simp [dgt] at h; omega
  | c :: r, v, u, h, hv => by
    rw [dgt] at h
    split at h
    · split at h
      · cases h
      · exact dgt_le r _ u h (by omega)
    · cases h
theorem dgt_append : ∀ (l r : List UInt8) (v : Nat), dgt v (l ++ r) = (dgt v l).bind fun x => dgt x r
  | [], r, v => rfl
  | c :: l, r, v => by
    rw [List.cons_append, dgt, dgt]
    split
    · split
      · rfl
      · exact dgt_append l r _
    · rfl
theorem of48 {d : Nat} (h : d ≤ 9) : (UInt8.ofNat (48 + d)).toNat = 48 + d := by
  rw [UInt8.toNat_ofNat']
  exact Nat.mod_eq_of_lt (by omega)
theorem dgt_D : ∀ (k b : Nat), b < 10 ^ k → b ≤ 4611686018427387904 → dgt 0 (D k b) = some b
  | 0, b, h, _ => by simp at h; simp [D, dgt, h]
  | k + 1, b, h, hm => by
    rw [D, dgt_append, dgt_D k (b / 10) (by rw [Nat.pow_succ] at h; omega) (by omega)]
    have e := of48 (d := b % 10) (by omega)
    simp only [Option.bind_some, dgt, e]
    rw [if_pos (by omega), if_neg (by omega)]
    congr 1
    omega
theorem D_dgt : ∀ (k : Nat) (l : List UInt8) (u : Nat), l.length = k → dgt 0 l = some u → l = D k u
  | 0, l, u, hl, h => by
    have : l = [] := List.eq_nil_of_length_eq_zero hl
    subst this
    rfl
  | k + 1, l, u, hl, h => by
    have hne : l ≠ [] := fun e => by simp [e] at hl
    obtain ⟨r, c, rfl⟩ : ∃ r c, l = r ++ [c] := ⟨l.dropLast, l.getLast hne, (List.dropLast_concat_getLast hne).symm⟩
    rw [dgt_append] at h
    obtain ⟨x, hx, hc⟩ := Option.bind_eq_some_iff.1 h
    have hr := D_dgt k r x (by simpa using hl) hx
    simp only [dgt] at hc
    split at hc
    · rename_i hd
      split at hc
      · cases hc
      · simp only [Option.some.injEq] at hc
        rw [D, hr]
        have e1 : u / 10 = x := by omega
        have e2 : u % 10 = c.toNat - 48 := by omega
        rw [e1, e2, show 48 + (c.toNat - 48) = c.toNat by omega, UInt8.ofNat_toNat]
    · cases hc
/-- A kind's ending. -/
def en : Nat → List UInt8
  | 0 => [46, 108, 111, 103]
  | 1 => [46, 111, 102, 102]
  | _ => [46, 116, 105, 109]
theorem en_len : ∀ k, (en k).length = 4
  | 0 => rfl
  | 1 => rfl
  | _ + 2 => rfl
def nm (b k : Nat) : List UInt8 := D 20 b ++ en k
theorem nm_len (b k : Nat) : (nm b k).length = 24 := by simp [nm, D_len, en_len]
def kd (e : List UInt8) : Option Nat := if e = en 0 then some 0 else if e = en 1 then some 1 else if e = en 2 then some 2 else none
/-- The base and the kind of a good name. -/
def prs (l : List UInt8) : Option (Nat × Nat) := (dgt 0 (l.take 20)).bind fun b => (kd (l.drop 20)).bind fun k => some (b, k)
theorem kd_en {k : Nat} (h : k ≤ 2) : kd (en k) = some k := by
  match k, h with
  | 0, _ => decide
  | 1, _ => decide
  | 2, _ => decide
theorem kd_some {e : List UInt8} {k : Nat} (h : kd e = some k) : k ≤ 2 ∧ e = en k := by
  unfold kd at h
  split at h
  · cases h; exact ⟨by decide, by assumption⟩
  · split at h
    · cases h; exact ⟨by decide, by assumption⟩
    · split at h
      · cases h; exact ⟨by decide, by assumption⟩
      · cases h
theorem kd_len {e : List UInt8} (h : e.length ≠ 4) : kd e = none := by
  cases hk : kd e with
  | none => rfl
  | some k => exact absurd ((kd_some hk).2 ▸ en_len k) h
theorem prs_nm {b k : Nat} (hb : b ≤ 4611686018427387904) (hk : k ≤ 2) : prs (nm b k) = some (b, k) := by
  unfold prs nm
  have hl := D_len 20 b
  rw [List.take_left' hl, List.drop_left' hl, dgt_D 20 b (by omega) hb, kd_en hk]
  rfl
theorem prs_some {l : List UInt8} {b k : Nat} (h : prs l = some (b, k)) : b ≤ 4611686018427387904 ∧ k ≤ 2 ∧ l = nm b k := by
  unfold prs at h
  obtain ⟨x, hx, h⟩ := Option.bind_eq_some_iff.1 h
  obtain ⟨y, hy, h⟩ := Option.bind_eq_some_iff.1 h
  simp only [Option.some.injEq, Prod.mk.injEq] at h
  obtain ⟨rfl, rfl⟩ := h
  obtain ⟨h1, h2⟩ := kd_some hy
  refine ⟨dgt_le _ _ _ hx (by decide), h1, ?_⟩
  have hl : (l.take 20).length = 20 := by
    have := congrArg List.length h2
    rw [en_len, List.length_drop] at this
    rw [List.length_take]
    omega
  rw [nm, ← D_dgt 20 _ _ hl hx, ← h2, List.take_append_drop]
end Go.Proofs.YtgffipkbbenddaaDoor
