/- The plain mathematics of layer 1: the form of a number by sevens of bits, its reading, its size, zigzag; that reading takes writing back. No world, no program. -/
import Derived.Laws.BitsAllLaws
import Derived.WalkKit
namespace Go.Proofs.YtpfaioncaolmjaaGreat.M
open Go.RowKit

/-! ### The form -/
def formF : Nat → Nat → List Nat
  | 0, v => [v]
  | f + 1, v => if v < 128 then [v] else (v % 128 + 128) :: formF f (v / 128)
def form (v : Nat) : List Nat := formF 9 v

theorem formF_low {f v : Nat} (h : v < 128) : formF f v = [v] := by
  cases f with
  | zero => rfl
  | succ f => simp [formF, h]
theorem formF_high {f v : Nat} (h : 128 ≤ v) : formF (f + 1) v = (v % 128 + 128) :: formF f (v / 128) := by
  have : ¬ v < 128 := by omega
  simp [formF, this]
theorem formF_pos (f v : Nat) : 1 ≤ (formF f v).length := by
  cases f with
  | zero => simp [formF]
  | succ f => unfold formF; split <;> simp
theorem formF_le : ∀ (f v : Nat), (formF f v).length ≤ f + 1
  | 0, v => by simp [formF]
  | f + 1, v => by
    unfold formF
    split
    · simp
    · have := formF_le f (v / 128); simp; omega
theorem form_le (v : Nat) : (form v).length ≤ 10 := formF_le 9 v
theorem form_pos (v : Nat) : 1 ≤ (form v).length := formF_pos 9 v
theorem formF_byte : ∀ (f v : Nat), v < 2 * 128 ^ f → ∀ b ∈ formF f v, b < 256
  | 0, v, h, b, hb => by simp [formF] at hb; simp at h; omega
  | f + 1, v, h, b, hb => by
    unfold formF at hb
    split at hb
    · simp at hb; omega
    · rw [List.mem_cons] at hb
      rcases hb with hb | hb
      · omega
      · exact formF_byte f (v / 128) (by rw [Nat.pow_succ] at h; omega) b hb
theorem form_byte {v : Nat} (h : v < 18446744073709551616) : ∀ b ∈ form v, b < 256 := formF_byte 9 v (by simpa using h)

/-! ### Reading -/
def rd : Nat → Nat → List Nat → Nat × Nat × Nat
  | _, _, [] => (0, 0, 20)
  | i, v, b :: bs => if (i = 9 ∧ 1 < b) ∨ (0 < i ∧ b = 0) then (0, 0, 23) else if b < 128 then (v + b % 128 * 128 ^ i, i + 1, 0) else rd (i + 1) (v + b % 128 * 128 ^ i) bs

theorem rd_bad {i v b : Nat} {bs : List Nat} (h : (i = 9 ∧ 1 < b) ∨ (0 < i ∧ b = 0)) : rd i v (b :: bs) = (0, 0, 23) := by unfold rd; rw [if_pos h]
theorem rd_last {i v b : Nat} {bs : List Nat} (h : ¬ ((i = 9 ∧ 1 < b) ∨ (0 < i ∧ b = 0))) (hb : b < 128) : rd i v (b :: bs) = (v + b % 128 * 128 ^ i, i + 1, 0) := by unfold rd; rw [if_neg h, if_pos hb]
theorem rd_more {i v b : Nat} {bs : List Nat} (h : ¬ ((i = 9 ∧ 1 < b) ∨ (0 < i ∧ b = 0))) (hb : ¬ b < 128) : rd i v (b :: bs) = rd (i + 1) (v + b % 128 * 128 ^ i) bs := by conv => lhs; unfold rd; rw [if_neg h, if_neg hb]

/-- What was written is read, whatever stands behind it. -/
theorem rd_form : ∀ (f i v x : Nat) (t : List Nat), i + f = 9 → x < 2 * 128 ^ f → (0 < i → 0 < x) → rd i v (formF f x ++ t) = (v + x * 128 ^ i, i + (formF f x).length, 0)
  | 0, i, v, x, t, hi, hx, hp => by
    have hx2 : x < 2 := by simpa using hx
    have h0 : 0 < x := hp (by omega)
    have : x = 1 := by omega
    subst this
    rw [show formF 0 1 ++ t = 1 :: t from rfl, rd_last (by omega) (by omega)]
    simp [formF]
  | f + 1, i, v, x, t, hi, hx, hp => by
    by_cases hl : x < 128
    · rw [formF_low hl, List.singleton_append, rd_last (by omega) hl, Nat.mod_eq_of_lt hl]; rfl
    · rw [formF_high (by omega), List.cons_append, rd_more (by omega) (by omega), rd_form f (i + 1) _ (x / 128) t (by omega) (by rw [Nat.pow_succ] at hx; omega) (by omega)]
      have e1 : (x % 128 + 128) % 128 = x % 128 := by omega
      have e2 : x * 128 ^ i = x % 128 * 128 ^ i + x / 128 * (128 ^ i * 128) := by
        conv => lhs; rw [← Nat.mod_add_div x 128, Nat.add_mul]
        congr 1
        rw [Nat.mul_comm 128, Nat.mul_assoc, Nat.mul_comm 128]
      rw [e1, Nat.pow_succ, e2]
      simp only [List.length_cons, Prod.mk.injEq, and_true]
      omega
theorem rd_back {v : Nat} (h : v < 18446744073709551616) (t : List Nat) : rd 0 0 (form v ++ t) = (v, (form v).length, 0) := by
  have := rd_form 9 0 0 v t rfl (by simpa using h) (by omega)
  simpa [form] using this

/-- Every cut of a form is too short. -/
theorem rd_cut : ∀ (f i v x k : Nat), i + f = 9 → x < 2 * 128 ^ f → (0 < i → 0 < x) → k < (formF f x).length → rd i v ((formF f x).take k) = (0, 0, 20)
  | _, _, _, _, 0, _, _, _, _ => rfl
  | 0, i, v, x, k + 1, _, _, _, hk => by simp [formF] at hk
  | f + 1, i, v, x, k + 1, hi, hx, hp, hk => by
    by_cases hl : x < 128
    · rw [formF_low hl] at hk; simp at hk
    · rw [formF_high (by omega)] at hk ⊢
      rw [List.take_succ_cons, rd_more (by omega) (by omega)]
      exact rd_cut f (i + 1) _ (x / 128) k (by omega) (by rw [Nat.pow_succ] at hx; omega) (by omega) (by simp at hk; omega)
theorem rd_short {v k : Nat} (h : v < 18446744073709551616) (hk : k < (form v).length) : rd 0 0 ((form v).take k) = (0, 0, 20) := rd_cut 9 0 0 v k rfl (by simpa using h) (by omega) hk

/-- Where it can't be read: zero, no bytes. -/
theorem rd_zero : ∀ (l : List Nat) (i v : Nat), (rd i v l).2.2 ≠ 0 → (rd i v l).1 = 0 ∧ (rd i v l).2.1 = 0
  | [], _, _, _ => ⟨rfl, rfl⟩
  | b :: bs, i, v, h => by
    unfold rd at h ⊢
    split
    · exact ⟨rfl, rfl⟩
    · rename_i h1
      rw [if_neg h1] at h
      split
      · rename_i h2; rw [if_pos h2] at h; exact absurd rfl h
      · rename_i h2; rw [if_neg h2] at h; exact rd_zero bs _ _ h

/-- What is read is the beginning that is written of it. -/
theorem rd_is : ∀ (f i v : Nat) (l : List Nat), i + f = 9 → (∀ b ∈ l, b < 256) → (rd i v l).2.2 = 0 →
    ∃ x t, l = formF f x ++ t ∧ x < 2 * 128 ^ f ∧ (0 < i → 0 < x) ∧ (rd i v l).1 = v + x * 128 ^ i ∧ (rd i v l).2.1 = i + (formF f x).length
  | f, i, v, [], hi, hb, h => by simp [rd] at h
  | f, i, v, b :: bs, hi, hb, h => by
    have hb0 : b < 256 := hb b (by simp)
    by_cases hbad : (i = 9 ∧ 1 < b) ∨ (0 < i ∧ b = 0)
    · rw [rd_bad hbad] at h; simp at h
    · by_cases hl : b < 128
      · rw [rd_last hbad hl]
        refine ⟨b, bs, by rw [formF_low hl]; rfl, ?_, by omega, by rw [Nat.mod_eq_of_lt hl], by rw [formF_low hl]; rfl⟩
        cases f with
        | zero => simp; omega
        | succ f => rw [Nat.pow_succ]; have := Nat.one_le_two_pow (n := 7 * f); have e : 128 ^ f = 2 ^ (7 * f) := by rw [Nat.pow_mul]
                    omega
      · rw [rd_more hbad hl] at h ⊢
        cases f with
        | zero => omega
        | succ f =>
          obtain ⟨x, t, e1, e2, e3, e4, e5⟩ := rd_is f (i + 1) (v + b % 128 * 128 ^ i) bs (by omega) (fun c hc => hb c (by simp [hc])) h
          have hx := e3 (by omega)
          have hd : (x * 128 + b % 128) / 128 = x := by omega
          have hm : (x * 128 + b % 128) % 128 + 128 = b := by omega
          refine ⟨x * 128 + b % 128, t, ?_, by rw [Nat.pow_succ]; omega, by omega, ?_, ?_⟩
          · rw [formF_high (by omega), hd, hm, e1]; rfl
          · rw [e4, Nat.pow_succ, Nat.add_mul, Nat.mul_assoc x, Nat.mul_comm 128]; omega
          · rw [e5, formF_high (by omega), hd]; simp; omega
theorem rd_fwd {l : List Nat} (hb : ∀ b ∈ l, b < 256) (h : (rd 0 0 l).2.2 = 0) : ∃ t, l = form (rd 0 0 l).1 ++ t ∧ (rd 0 0 l).1 < 18446744073709551616 ∧ (rd 0 0 l).2.1 = (form (rd 0 0 l).1).length := by
  obtain ⟨x, t, e1, e2, _, e4, e5⟩ := rd_is 9 0 0 l rfl hb h
  have ex : (rd 0 0 l).1 = x := by simpa using e4
  rw [ex]
  exact ⟨t, e1, by simpa using e2, by simpa [form] using e5⟩
theorem rd_bd (l : List Nat) (hb : ∀ b ∈ l, b < 256) : (rd 0 0 l).1 < 18446744073709551616 ∧ (rd 0 0 l).2.1 ≤ 10 ∧ (rd 0 0 l).2.1 ≤ l.length := by
  by_cases h : (rd 0 0 l).2.2 = 0
  · obtain ⟨t, e1, e2, e3⟩ := rd_fwd hb h
    refine ⟨e2, by rw [e3]; exact form_le _, ?_⟩
    rw [e3]; conv => rhs; rw [e1]
    simp
  · obtain ⟨a, b⟩ := rd_zero l 0 0 h
    rw [a, b]; omega

/-! ### Size -/
def size (v : Nat) : Nat := (form v).length

theorem size_lt {v k : Nat} (hk : 1 ≤ k) (h : v < 128 ^ k) (f : Nat) : (formF f v).length ≤ k := by
  induction k generalizing v f with
  | zero => omega
  | succ k ih =>
    cases f with
    | zero => simp [formF]
    | succ f =>
      by_cases hl : v < 128
      · rw [formF_low hl]; simp
      · rw [formF_high (by omega)]
        have hk0 : 1 ≤ k := by
          cases k with
          | zero => simp at h; omega
          | succ k => omega
        have := ih (v := v / 128) hk0 (by rw [Nat.pow_succ] at h; omega) f
        simp; omega
theorem size_ge {v k : Nat} (h : 128 ^ k ≤ v) (f : Nat) (hf : k ≤ f) : k < (formF f v).length := by
  induction k generalizing v f with
  | zero => have := formF_pos f v; omega
  | succ k ih =>
    cases f with
    | zero => omega
    | succ f =>
      have h1 : 1 ≤ 128 ^ k := Nat.one_le_pow _ _ (by omega)
      have h2 : 128 ≤ v := by rw [Nat.pow_succ] at h; omega
      rw [formF_high h2]
      have := ih (v := v / 128) (by rw [Nat.pow_succ] at h; omega) f (by omega)
      simp; omega

/-! ### Zigzag -/
def zz (v : Int) : Int := if 0 ≤ v then 2 * v else -2 * v - 1
def uz (u : Int) : Int := if u % 2 = 0 then u / 2 else -(u / 2) - 1
theorem uz_zz (v : Int) : uz (zz v) = v := by unfold uz zz; split <;> split <;> omega
theorem zz_uz (u : Int) (h : 0 ≤ u) : zz (uz u) = u := by unfold uz zz; split <;> split <;> omega
theorem zz_bd {v : Int} (h1 : -9223372036854775808 ≤ v) (h2 : v ≤ 9223372036854775807) : 0 ≤ zz v ∧ zz v ≤ 18446744073709551615 := by unfold zz; split <;> omega
theorem uz_bd {u : Int} (h1 : 0 ≤ u) (h2 : u ≤ 18446744073709551615) : -9223372036854775808 ≤ uz u ∧ uz u ≤ 9223372036854775807 := by unfold uz; split <;> omega

theorem xor_ones (a : Nat) (h : a < 18446744073709551616) : a ^^^ 18446744073709551615 = 18446744073709551615 - a := by
  have e : (BitVec.ofNat 64 a ^^^ BitVec.allOnes 64).toNat = (~~~ BitVec.ofNat 64 a).toNat := by rw [BitVec.xor_allOnes]
  rw [BitVec.toNat_xor, BitVec.toNat_not] at e
  simp only [BitVec.toNat_ofNat, BitVec.toNat_allOnes] at e
  rw [Nat.mod_eq_of_lt (by simpa using h)] at e
  simpa using e

/-- Zigzag, as the code spells it. -/
theorem zz_code {v : Int} (h1 : -9223372036854775808 ≤ v) (h2 : v ≤ 9223372036854775807) :
    bits BinOp.xor IntKind.u64 (IntKind.u64.wrap (IntKind.u64.wrap v * 2)) (IntKind.u64.wrap (v / 9223372036854775808)) = zz v := by
  rw [IntKind.wrap_u64, IntKind.wrap_u64, IntKind.wrap_u64, u64_xor _ _ (by omega) (by omega) (by omega) (by omega)]
  unfold zz
  by_cases h : 0 ≤ v
  · rw [if_pos h]
    have e0 : (v / 9223372036854775808 % 18446744073709551616).toNat = 0 := by omega
    rw [e0, Nat.xor_zero]; omega
  · rw [if_neg h]
    have e0 : (v / 9223372036854775808 % 18446744073709551616).toNat = 18446744073709551615 := by omega
    rw [e0, xor_ones _ (by omega)]; omega
end Go.Proofs.YtpfaioncaolmjaaGreat.M
