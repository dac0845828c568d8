/- What layer 1's calls answer, as layer 2 uses them: zigzag, the forms written and read, of the program and of the document's answer. -/
import Derived.Test.YtgdaaohlongmlaaGreatRows
import Derived.Test.YtgdaaohlongmlaaGreatMath
import Derived.WalkKit
import Derived.WalkSpells
import Derived.WalkLawsBesides
namespace Go.Proofs.YtgdaaohlongmlaaGreat
open Go.RowKit
theorem ret_int {k : IntKind} {a b : Int} (h : a = b) : Ending.returned (.int k a) = .returned (.int k b) := by rw [h]
theorem and_one {v : Int} (h1 : 0 ≤ v) (h2 : v ≤ 18446744073709551615) : bits BinOp.and IntKind.u64 v 1 = v % 2 := by
  rw [u64_and v 1 h1 (by omega) (by omega) (by omega), show (1 : Int).toNat = 1 from rfl, nat_mask1]; omega
theorem uz_odd {v : Int} (h1 : 0 ≤ v) (h2 : v ≤ 18446744073709551615) (h : (bits BinOp.and IntKind.u64 v 1 == 1) = true) : -(v / 2) - 1 = M.uz v := by
  rw [and_one h1 h2] at h
  have := eq_of_beq h
  unfold M.uz; rw [if_neg (by omega)]
theorem uz_even {v : Int} (h1 : 0 ≤ v) (h2 : v ≤ 18446744073709551615) (h : (bits BinOp.and IntKind.u64 v 1 == 1) = false) : v / 2 = M.uz v := by
  rw [and_one h1 h2] at h
  have := ne_of_beq_false h
  unfold M.uz; rw [if_pos (by omega)]
/-- The bytes of a text, as numbers. -/
def bl (s : ByteArray) : List Nat := s.data.toList.map UInt8.toNat
theorem bl_len (s : ByteArray) : (bl s).length = s.size := by simp [bl]
theorem bl_byte (s : ByteArray) : ∀ b ∈ bl s, b < 256 := by
  intro b hb
  simp only [bl, List.mem_map] at hb
  obtain ⟨u, _, rfl⟩ := hb
  exact u.toNat_lt
theorem bl_drop (s : ByteArray) (k : Nat) (h : k < s.size) : (bl s).drop k = s[k].toNat :: (bl s).drop (k + 1) := by
  have h1 : k < (bl s).length := by rw [bl_len]; exact h
  rw [List.drop_eq_getElem_cons h1]
  congr 1
  simp [bl]; rfl
theorem bl_end (s : ByteArray) (k : Nat) (h : s.size ≤ k) : (bl s).drop k = [] := List.drop_eq_nil_of_le (by rw [bl_len]; exact h)
def rdv (s : ByteArray) : Nat := (M.rd 0 0 (bl s)).1
def rdn (s : ByteArray) : Nat := (M.rd 0 0 (bl s)).2.1
def rde (s : ByteArray) : Nat := (M.rd 0 0 (bl s)).2.2
theorem ret3 {k1 k2 k3 : IntKind} {a a' b b' c c' : Int} (h1 : a = a') (h2 : b = b') (h3 : c = c') : Ending.returned (.tuple #[.int k1 a, .int k2 b, .int k3 c]) = .returned (.tuple #[.int k1 a', .int k2 b', .int k3 c']) := by rw [h1, h2, h3]
theorem way_bad {s : ByteArray} {k X : Nat} (hd : M.rd 0 0 (bl s) = M.rd k X ((bl s).drop k)) (hlt : k < s.size) (h : (k = 9 ∧ 1 < s[k].toNat) ∨ (0 < k ∧ s[k].toNat = 0)) : rdv s = 0 ∧ rdn s = 0 ∧ rde s = 23 := by
  unfold rdv rdn rde; rw [hd, bl_drop s k hlt, M.rd_bad h]; exact ⟨rfl, rfl, rfl⟩
theorem way_last {s : ByteArray} {k X : Nat} (hd : M.rd 0 0 (bl s) = M.rd k X ((bl s).drop k)) (hlt : k < s.size) (h : ¬ ((k = 9 ∧ 1 < s[k].toNat) ∨ (0 < k ∧ s[k].toNat = 0))) (hb : s[k].toNat < 128) :
    rdv s = X + s[k].toNat % 128 * 128 ^ k ∧ rdn s = k + 1 ∧ rde s = 0 := by
  unfold rdv rdn rde; rw [hd, bl_drop s k hlt, M.rd_last h hb]; exact ⟨rfl, rfl, rfl⟩
theorem way_more {s : ByteArray} {k X : Nat} (hd : M.rd 0 0 (bl s) = M.rd k X ((bl s).drop k)) (hlt : k < s.size) (h : ¬ ((k = 9 ∧ 1 < s[k].toNat) ∨ (0 < k ∧ s[k].toNat = 0))) (hb : ¬ s[k].toNat < 128) :
    M.rd 0 0 (bl s) = M.rd (k + 1) (X + s[k].toNat % 128 * 128 ^ k) ((bl s).drop (k + 1)) := by
  rw [hd, bl_drop s k hlt, M.rd_more h hb]
theorem pow_lt {k X b : Nat} (hX : X < 128 ^ k) : X + b % 128 * 128 ^ k < 128 ^ (k + 1) := by
  have h1 : b % 128 * 128 ^ k ≤ 127 * 128 ^ k := Nat.mul_le_mul_right _ (by omega)
  rw [Nat.pow_succ]; omega
theorem pow9 {k X b : Nat} (hX : X < 128 ^ k) (hk : k ≤ 9) (hb : k = 9 → b ≤ 1) : X + b % 128 * 128 ^ k < 18446744073709551616 := by
  by_cases h : k = 9
  · subst h
    have := hb rfl
    have e : b % 128 = b := by omega
    rw [e]
    have : b * 128 ^ 9 ≤ 1 * 128 ^ 9 := Nat.mul_le_mul_right _ this
    omega
  · have h1 := pow_lt (b := b) hX
    have h2 : 128 ^ (k + 1) ≤ 128 ^ 9 := Nat.pow_le_pow_right (by omega) (by omega)
    omega
theorem p7 (k : Nat) : (2 : Int) ^ (7 * k) = ((128 ^ k : Nat) : Int) := by rw [Int.pow_mul, Int.natCast_pow]; rfl
/-- One byte more, as the code lays it in. -/
theorem or_code {k X b : Nat} {P : Int} (hP : P = ((128 ^ k : Nat) : Int)) (hX : X < 128 ^ k) (hk : k ≤ 9) (hb : b < 256) (h9 : k = 9 → b ≤ 1) :
    bits BinOp.or IntKind.u64 (X : Int) (IntKind.u64.wrap (IntKind.u64.wrap (bits BinOp.andNot IntKind.u8 (b : Int) 128) * P)) = ((X + b % 128 * 128 ^ k : Nat) : Int) := by
  have hlt := pow9 hX hk h9
  have e1 : bits BinOp.andNot IntKind.u8 (b : Int) 128 = ((b % 128 : Nat) : Int) := by
    rw [u8_andNot (b : Int) 128 (by omega) (by omega) (by omega) (by omega)]
    have : (255 - (128 : Int).toNat : Nat) = 127 := rfl
    rw [this, Int.toNat_natCast, nat_mask7]
  have e2 : IntKind.u64.wrap ((b % 128 : Nat) : Int) = ((b % 128 : Nat) : Int) := by rw [IntKind.wrap_u64]; omega
  have e3 : ((b % 128 : Nat) : Int) * P = ((b % 128 * 128 ^ k : Nat) : Int) := by rw [hP]; exact (Int.natCast_mul _ _).symm
  have e4 : IntKind.u64.wrap ((b % 128 * 128 ^ k : Nat) : Int) = ((b % 128 * 128 ^ k : Nat) : Int) := by rw [IntKind.wrap_u64]; omega
  rw [e1, e2, e3, e4, u64_or_nat _ _ (by omega) (by omega)]
  congr 1
  have e5 : (128 : Nat) ^ k = 2 ^ (7 * k) := by rw [Nat.pow_mul]
  have := nat_join (7 * k) (b % 128 * 128 ^ k) X (by rw [e5]; exact Nat.mul_mod_left _ _) (by rw [← e5]; exact hX)
  rw [Nat.or_comm, this]; omega
theorem add_code {k X b : Nat} {P : Int} (hP : ((128 ^ k : Nat) : Int) = P) (hX : X < 128 ^ k) (hk : k ≤ 9) (h9 : k = 9 → b ≤ 1) :
    IntKind.u64.wrap ((X : Int) + IntKind.u64.wrap ((b : Int) % 128 * P)) = ((X + b % 128 * 128 ^ k : Nat) : Int) := by
  have hlt := pow9 hX hk h9
  have e3 : ((b : Int) % 128) * P = ((b % 128 * 128 ^ k : Nat) : Int) := by rw [← hP]; exact (Int.natCast_mul _ _).symm
  rw [e3, IntKind.wrap_u64, IntKind.wrap_u64]; omega
theorem mul_code {k : Nat} {P : Int} (hP : ((128 ^ k : Nat) : Int) = P) (hk : k < 9) : IntKind.u64.wrap (P * 128) = ((128 ^ (k + 1) : Nat) : Int) := by
  have h2 : 128 ^ (k + 1) ≤ 128 ^ 9 := Nat.pow_le_pow_right (by omega) (by omega)
  rw [IntKind.wrap_u64, ← hP, Nat.pow_succ]
  rw [Nat.pow_succ] at h2
  omega
/-- Read of the kinds up to 'most'. -/
def rm (s : ByteArray) (most : Int) : Int × Int × Int := if rde s = 0 then (if (rdv s : Int) ≤ most then ((rdv s : Int), (rdn s : Int), (0 : Int)) else (0, 0, 1)) else (0, 0, (rde s : Int))
theorem rm_ok {s : ByteArray} {m : Int} (h : rde s = 0) (h2 : (rdv s : Int) ≤ m) : rm s m = ((rdv s : Int), (rdn s : Int), (0 : Int)) := by unfold rm; rw [if_pos h, if_pos h2]
theorem rm_big {s : ByteArray} {m : Int} (h : rde s = 0) (h2 : ¬ (rdv s : Int) ≤ m) : rm s m = (0, 0, 1) := by unfold rm; rw [if_pos h, if_neg h2]
theorem rm_bad {s : ByteArray} {m : Int} (h : ¬ rde s = 0) : rm s m = (0, 0, (rde s : Int)) := by unfold rm; rw [if_neg h]
theorem rd_bds (s : ByteArray) : (rdv s : Int) ≤ 18446744073709551615 ∧ rdn s ≤ 10 ∧ rdn s ≤ s.size := by
  obtain ⟨a, b, c⟩ := M.rd_bd (bl s) (bl_byte s)
  rw [bl_len] at c
  unfold rdv rdn
  exact ⟨by omega, b, c⟩
end Go.Proofs.YtgdaaohlongmlaaGreat
