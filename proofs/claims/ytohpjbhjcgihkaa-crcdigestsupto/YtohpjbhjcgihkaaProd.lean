/- The plain mathematics of layer 3, its second part: the table by powers of two, the product of polynomials, what a matrix makes of a register. No world, no program. -/
import Derived.Test.YtohpjbhjcgihkaaMath
namespace Go.Proofs.Ytohpjbhjcgihkaa.M

/-- The table by powers of two. -/
theorem tab_step {k i : Nat} (h : i < 2 ^ k) : mvN 8 (2 ^ k + i) = mvN 8 (2 ^ k) ^^^ mvN 8 i := by
  have := split_xor k 1 i h
  rw [Nat.one_mul] at this
  rw [this, mvN_xor]

/-- The product, the highest power first. -/
def prodF : Nat → Nat → Nat → Nat
  | 0, _, _ => 0
  | f + 1, a, b => (if 2147483648 ≤ a then b else 0) ^^^ prodF f (a * 2 % 4294967296) (mv b)
theorem prodF_zero : ∀ (f b : Nat), prodF f 0 b = 0
  | 0, _ => rfl
  | f + 1, b => by
    show (if 2147483648 ≤ 0 then b else 0) ^^^ prodF f (0 * 2 % 4294967296) (mv b) = 0
    rw [if_neg (by omega), Nat.zero_mul, Nat.zero_mod, prodF_zero f]; rfl
theorem prodF_mv : ∀ (f a b : Nat), prodF f a (mv b) = mv (prodF f a b)
  | 0, _, _ => by show 0 = mv 0; exact mv_zero.symm
  | f + 1, a, b => by
    show (if 2147483648 ≤ a then mv b else 0) ^^^ prodF f (a * 2 % 4294967296) (mv (mv b)) = mv ((if 2147483648 ≤ a then b else 0) ^^^ prodF f (a * 2 % 4294967296) (mv b))
    rw [mv_xor, prodF_mv f]
    split
    · rfl
    · rfl
theorem prodF_mvN : ∀ (k f a b : Nat), prodF f a (mvN k b) = mvN k (prodF f a b)
  | 0, _, _, _ => rfl
  | k + 1, f, a, b => by
    rw [mvN_succ, prodF_mv, prodF_mvN k, ← mvN_succ]
theorem mv_pow (f : Nat) : mv (2 ^ (f + 1)) = 2 ^ f := by
  have h := mvN_shift 1 (2 ^ f)
  rw [mvN_one] at h
  rw [Nat.pow_succ]
  simpa using h
theorem prodF_one : ∀ (f c : Nat), f ≤ 31 → c < 2 ^ (f + 1) → prodF (f + 1) (c * 2 ^ (31 - f)) (2 ^ f) = c
  | 0, c, _, hc => by
    have : c = 0 ∨ c = 1 := by omega
    rcases this with rfl | rfl <;> rfl
  | f + 1, c, hf, hc => by
    show (if 2147483648 ≤ c * 2 ^ (31 - (f + 1)) then 2 ^ (f + 1) else 0) ^^^ prodF (f + 1) (c * 2 ^ (31 - (f + 1)) * 2 % 4294967296) (mv (2 ^ (f + 1))) = c
    have e1 : c * 2 ^ (31 - (f + 1)) * 2 = c * 2 ^ (31 - f) := by
      rw [Nat.mul_assoc, ← Nat.pow_succ]; congr 2; omega
    have e32 : 4294967296 = 2 ^ (f + 1) * 2 ^ (31 - f) := by
      rw [← Nat.pow_add, show f + 1 + (31 - f) = 32 by omega]
    have e31 : 2147483648 = 2 ^ (f + 1) * 2 ^ (31 - (f + 1)) := by
      rw [← Nat.pow_add, show f + 1 + (31 - (f + 1)) = 31 by omega]
    have e2 : c * 2 ^ (31 - f) % 4294967296 = c % 2 ^ (f + 1) * 2 ^ (31 - f) := by
      rw [e32, Nat.mul_mod_mul_right]
    have hq := Nat.div_add_mod c (2 ^ (f + 1))
    have hm := Nat.mod_lt c (Nat.pow_pos (n := f + 1) (show 0 < 2 by omega))
    rw [e1, e2, mv_pow, prodF_one f (c % 2 ^ (f + 1)) (by omega) hm]
    have hp := split_xor (f + 1) 1 (c % 2 ^ (f + 1)) hm
    have hpp : 0 < 2 ^ (31 - (f + 1)) := Nat.pow_pos (by omega)
    by_cases h : 2 ^ (f + 1) ≤ c
    · have hd : c / 2 ^ (f + 1) = 1 := by
        rw [Nat.div_eq_iff (Nat.pow_pos (by omega))]
        rw [Nat.pow_succ] at hc
        omega
      rw [if_pos (by rw [e31]; exact Nat.mul_le_mul_right _ h)]
      rw [hd] at hq
      rw [Nat.one_mul] at hp
      rw [← hp]; omega
    · have hd : c / 2 ^ (f + 1) = 0 := Nat.div_eq_of_lt (by omega)
      rw [if_neg (by rw [e31]; intro hh; exact h (Nat.le_of_mul_le_mul_right hh hpp)), Nat.zero_xor]
      rw [hd] at hq
      omega
/-- A product with a power of the polynomial x. -/
theorem prod_pow {a : Nat} (k : Nat) (h : a < 4294967296) : prodF 32 a (mvN k 2147483648) = mvN k a := by
  rw [prodF_mvN]
  have := prodF_one 31 a (by omega) (by omega)
  simp only [Nat.sub_self, Nat.pow_zero, Nat.mul_one] at this
  rw [this]

/-- What a matrix makes of a register's lowest bits. -/
def mo (m : Nat → Nat) (r : Nat) : Nat → Nat
  | 0 => 0
  | i + 1 => if r / 2 ^ i % 2 = 1 then mo m r i ^^^ m i else mo m r i
theorem mo_lin (k r : Nat) : ∀ i, mo (fun i => mvN k (2 ^ i)) r i = mvN k (r % 2 ^ i)
  | 0 => by simp [mo, Nat.mod_one, mvN_zero]
  | i + 1 => by
    show (if r / 2 ^ i % 2 = 1 then mo (fun i => mvN k (2 ^ i)) r i ^^^ mvN k (2 ^ i) else mo (fun i => mvN k (2 ^ i)) r i) = _
    have hm := Nat.mod_lt r (Nat.pow_pos (n := i) (show 0 < 2 by omega))
    have e : r % 2 ^ (i + 1) = r % 2 ^ i + 2 ^ i * (r / 2 ^ i % 2) := by rw [Nat.pow_succ, Nat.mod_mul]
    rw [mo_lin k r i]
    split
    · next h =>
      rw [e, h, Nat.mul_one]
      have hp := split_xor i 1 (r % 2 ^ i) hm
      rw [Nat.one_mul] at hp
      rw [Nat.add_comm, hp, mvN_xor, Nat.xor_comm]
    · next h =>
      have : r / 2 ^ i % 2 = 0 := by omega
      rw [e, this, Nat.mul_zero, Nat.add_zero]
theorem mo_all (k : Nat) {r : Nat} (h : r < 4294967296) : mo (fun i => mvN k (2 ^ i)) r 32 = mvN k r := by
  rw [mo_lin, Nat.mod_eq_of_lt (by omega)]
theorem pow32_lt {i : Nat} (h : i < 32) : 2 ^ i < 4294967296 := by
  have := Nat.pow_lt_pow_right (a := 2) (by omega) h
  omega
theorem mo_lt (m : Nat → Nat) (hm : ∀ i, i < 32 → m i < 4294967296) (r : Nat) : ∀ i, i ≤ 32 → mo m r i < 4294967296
  | 0, _ => by show 0 < _; omega
  | i + 1, h => by
    unfold mo
    have := mo_lt m hm r i (by omega)
    split
    · exact Nat.xor_lt_two_pow (n := 32) this (hm i (by omega))
    · exact this

/-- What n bytes 00 make of a register. -/
def zer (n r : Nat) : Nat := mvN (8 * n) r
theorem zer_add (m n r : Nat) : zer (m + n) r = zer n (zer m r) := by unfold zer; rw [Nat.mul_add, mvN_add]
theorem zer_zero (r : Nat) : zer 0 r = r := rfl
theorem zer_nul (n : Nat) : zer n 0 = 0 := mvN_zero _
theorem zer_lt {n r : Nat} (h : r < 4294967296) : zer n r < 4294967296 := mvN_lt _ h
def join (a b n : Nat) : Nat := zer n a ^^^ b
theorem join_lt {a b n : Nat} (ha : a < 4294967296) (hb : b < 4294967296) : join a b n < 4294967296 := Nat.xor_lt_two_pow (n := 32) (zer_lt ha) hb
theorem xor_left (a b : Nat) : a ^^^ (a ^^^ b) = b := by rw [← Nat.xor_assoc, Nat.xor_self, Nat.zero_xor]

/-- The four bytes. -/
def need (sum want : Nat) : Nat := bkN 32 (want ^^^ 4294967295) ^^^ sum ^^^ 4294967295
theorem need_lt {sum want : Nat} (hs : sum < 4294967296) (hw : want < 4294967296) : need sum want < 4294967296 :=
  ones_lt (Nat.xor_lt_two_pow (n := 32) (bkN_lt 32 (ones_lt hw)) hs)
def four (n : Nat) : List UInt8 := [UInt8.ofNat n, UInt8.ofNat (n / 256), UInt8.ofNat (n / 65536), UInt8.ofNat (n / 16777216)]
theorem run_four (r n : Nat) (h : n < 4294967296) : run r (four n) = mvN 32 (r ^^^ n) := by
  unfold four
  rw [run4]
  congr 2
  simp only [UInt8.toNat_ofNat']
  omega
theorem fix_more {sum want : Nat} (hs : sum < 4294967296) (hw : want < 4294967296) : more sum (four (need sum want)) = want := by
  unfold more
  rw [run_four _ _ (need_lt hs hw)]
  unfold need
  rw [show sum ^^^ 4294967295 ^^^ (bkN 32 (want ^^^ 4294967295) ^^^ sum ^^^ 4294967295) = bkN 32 (want ^^^ 4294967295) by
    rw [Nat.xor_assoc (bkN _ _), Nat.xor_comm (bkN _ _), ← Nat.xor_assoc, Nat.xor_self, Nat.zero_xor]]
  rw [mvN_bkN 32 (ones_lt hw), xor_twice]
theorem four_inj {a b : Nat} (ha : a < 4294967296) (hb : b < 4294967296) (h : four a = four b) : a = b := by
  have e := run_four 0 a ha
  rw [h, run_four 0 b hb, Nat.zero_xor, Nat.zero_xor] at e
  exact (mvN_inj hb ha e).symm
theorem need_inj {sum a b : Nat} (ha : a < 4294967296) (hb : b < 4294967296) (hs : sum < 4294967296) (h : four (need sum a) = four (need sum b)) : a = b := by
  rw [← fix_more hs ha, h, fix_more hs hb]
end Go.Proofs.Ytohpjbhjcgihkaa.M
