/- What layer 1's calls answer, as layer 2 uses them: zigzag, the forms written and read, of the program and of the document's answer. -/
import Derived.Test.YtpfaioncaolmjaaGreatRows
import Derived.Test.YtpfaioncaolmjaaGreatMath
import Derived.WalkKit
import Derived.WalkSpells
import Derived.WalkLawsBesides
namespace Go.Proofs.YtpfaioncaolmjaaGreat
open Go.RowKit
theorem ret_int {k : IntKind} {a b : Int} (h : a = b) : Ending.returned (.int k a) = .returned (.int k b) := by rw [h]
theorem zz_any (v : Int) (w : World) (h1 : -9223372036854775808 ≤ v) (h2 : v ≤ 9223372036854775807) :
    Calls Tryz.prog 117 #[.int .i64 v] w fun e w' => e = .returned (.int .u64 (M.zz v)) ∧ w' = w := by
  go_enter Tryz.func117, Tryz.ntmps117
  go_wp2
  go_ret
  exact ⟨ret_int (M.zz_code h1 h2), rfl⟩
theorem and_one {v : Int} (h1 : 0 ≤ v) (h2 : v ≤ 18446744073709551615) : bits BinOp.and IntKind.u64 v 1 = v % 2 := by
  rw [u64_and v 1 h1 (by omega) (by omega) (by omega), show (1 : Int).toNat = 1 from rfl, nat_mask1]; omega
theorem uz_odd {v : Int} (h1 : 0 ≤ v) (h2 : v ≤ 18446744073709551615) (h : (bits BinOp.and IntKind.u64 v 1 == 1) = true) : -(v / 2) - 1 = M.uz v := by
  rw [and_one h1 h2] at h
  have := eq_of_beq h
  unfold M.uz; rw [if_neg (by omega)]
theorem uz_even {v : Int} (h1 : 0 ≤ v) (h2 : v ≤ 18446744073709551615) (h : (bits BinOp.and IntKind.u64 v 1 == 1) = false) : v / 2 = M.uz v := by
  rw [and_one h1 h2] at h
  have := ne_of_beq_false h
  unfold M.uz; rw [if_pos (by omega)]
theorem uz_any (v : Int) (w : World) (h1 : 0 ≤ v) (h2 : v ≤ 18446744073709551615) :
    Calls Tryz.prog 128 #[.int .u64 v] w fun e w' => e = .returned (.int .i64 (M.uz v)) ∧ w' = w := by
  go_enter Tryz.func128, Tryz.ntmps128
  go_wp2
  all_goals go_ret
  · exact ⟨ret_int (uz_odd h1 h2 (by assumption)), rfl⟩
  · exact ⟨ret_int (uz_even h1 h2 (by assumption)), rfl⟩
theorem rzz_any (v : Int) (w : World) (h1 : -9223372036854775808 ≤ v) (h2 : v ≤ 9223372036854775807) :
    Calls Tryz.prog 120 #[.int .i64 v] w fun e w' => e = .returned (.int .u64 (M.zz v)) ∧ w' = w := by
  go_enter Tryz.func120, Tryz.ntmps120
  go_wp2
  all_goals go_ret
  · have h : 0 ≤ v := by assumption
    exact ⟨ret_int (by unfold M.zz; rw [if_pos h]), rfl⟩
  · have h : v < 0 := by assumption
    exact ⟨ret_int (by unfold M.zz; rw [if_neg (by omega)]; omega), rfl⟩
theorem ruz_any (v : Int) (w : World) (h1 : 0 ≤ v) (h2 : v ≤ 18446744073709551615) :
    Calls Tryz.prog 132 #[.int .u64 v] w fun e w' => e = .returned (.int .i64 (M.uz v)) ∧ w' = w := by
  go_enter Tryz.func132, Tryz.ntmps132
  go_wp2
  all_goals go_ret
  · have h : (v % 2 == 0) = true := by assumption
    have := eq_of_beq h
    exact ⟨ret_int (by unfold M.uz; rw [if_pos (by omega)]), rfl⟩
  · have h : (v % 2 == 0) = false := by assumption
    have := ne_of_beq_false h
    exact ⟨ret_int (by unfold M.uz; rw [if_neg (by omega)]), rfl⟩
/-- The bytes of a text, as numbers. -/
def bl (s : ByteArray) : List Nat := s.data.toList.map UInt8.toNat
theorem bl_len (s : ByteArray) : (bl s).length = s.size := by simp [bl]
theorem bl_byte (s : ByteArray) : ∀ b ∈ bl s, b < 256 := by
  intro b hb
  simp only [bl, List.mem_map] at hb
  obtain ⟨u, _, rfl⟩ := hb
  exact u.toNat_lt
theorem bl_drop (s : ByteArray) (k : Nat) (h : k < s.size) : (bl s).drop k = s[k].toNat :: (bl s).drop (k + 1) := by
  have h1 : k < (bl s).length := by rw [bl_len]; exact h
  rw [List.drop_eq_getElem_cons h1]
  congr 1
  simp [bl]; rfl
theorem bl_end (s : ByteArray) (k : Nat) (h : s.size ≤ k) : (bl s).drop k = [] := List.drop_eq_nil_of_le (by rw [bl_len]; exact h)
def rdv (s : ByteArray) : Nat := (M.rd 0 0 (bl s)).1
def rdn (s : ByteArray) : Nat := (M.rd 0 0 (bl s)).2.1
def rde (s : ByteArray) : Nat := (M.rd 0 0 (bl s)).2.2
theorem ret3 {k1 k2 k3 : IntKind} {a a' b b' c c' : Int} (h1 : a = a') (h2 : b = b') (h3 : c = c') : Ending.returned (.tuple #[.int k1 a, .int k2 b, .int k3 c]) = .returned (.tuple #[.int k1 a', .int k2 b', .int k3 c']) := by rw [h1, h2, h3]
theorem way_bad {s : ByteArray} {k X : Nat} (hd : M.rd 0 0 (bl s) = M.rd k X ((bl s).drop k)) (hlt : k < s.size) (h : (k = 9 ∧ 1 < s[k].toNat) ∨ (0 < k ∧ s[k].toNat = 0)) : rdv s = 0 ∧ rdn s = 0 ∧ rde s = 23 := by
  unfold rdv rdn rde; rw [hd, bl_drop s k hlt, M.rd_bad h]; exact ⟨rfl, rfl, rfl⟩
theorem way_last {s : ByteArray} {k X : Nat} (hd : M.rd 0 0 (bl s) = M.rd k X ((bl s).drop k)) (hlt : k < s.size) (h : ¬ ((k = 9 ∧ 1 < s[k].toNat) ∨ (0 < k ∧ s[k].toNat = 0))) (hb : s[k].toNat < 128) :
    rdv s = X + s[k].toNat % 128 * 128 ^ k ∧ rdn s = k + 1 ∧ rde s = 0 := by
  unfold rdv rdn rde; rw [hd, bl_drop s k hlt, M.rd_last h hb]; exact ⟨rfl, rfl, rfl⟩
theorem way_more {s : ByteArray} {k X : Nat} (hd : M.rd 0 0 (bl s) = M.rd k X ((bl s).drop k)) (hlt : k < s.size) (h : ¬ ((k = 9 ∧ 1 < s[k].toNat) ∨ (0 < k ∧ s[k].toNat = 0))) (hb : ¬ s[k].toNat < 128) :
    M.rd 0 0 (bl s) = M.rd (k + 1) (X + s[k].toNat % 128 * 128 ^ k) ((bl s).drop (k + 1)) := by
  rw [hd, bl_drop s k hlt, M.rd_more h hb]
theorem pow_lt {k X b : Nat} (hX : X < 128 ^ k) : X + b % 128 * 128 ^ k < 128 ^ (k + 1) := by
  have h1 : b % 128 * 128 ^ k ≤ 127 * 128 ^ k := Nat.mul_le_mul_right _ (by omega)
  rw [Nat.pow_succ]; omega
theorem pow9 {k X b : Nat} (hX : X < 128 ^ k) (hk : k ≤ 9) (hb : k = 9 → b ≤ 1) : X + b % 128 * 128 ^ k < 18446744073709551616 := by
  by_cases h : k = 9
  · subst h
    have := hb rfl
    have e : b % 128 = b := by omega
    rw [e]
    have : b * 128 ^ 9 ≤ 1 * 128 ^ 9 := Nat.mul_le_mul_right _ this
    omega
  · have h1 := pow_lt (b := b) hX
    have h2 : 128 ^ (k + 1) ≤ 128 ^ 9 := Nat.pow_le_pow_right (by omega) (by omega)
    omega
theorem p7 (k : Nat) : (2 : Int) ^ (7 * k) = ((128 ^ k : Nat) : Int) := by rw [Int.pow_mul, Int.natCast_pow]; rfl
/-- One byte more, as the code lays it in. -/
theorem or_code {k X b : Nat} {P : Int} (hP : P = ((128 ^ k : Nat) : Int)) (hX : X < 128 ^ k) (hk : k ≤ 9) (hb : b < 256) (h9 : k = 9 → b ≤ 1) :
    bits BinOp.or IntKind.u64 (X : Int) (IntKind.u64.wrap (IntKind.u64.wrap (bits BinOp.andNot IntKind.u8 (b : Int) 128) * P)) = ((X + b % 128 * 128 ^ k : Nat) : Int) := by
  have hlt := pow9 hX hk h9
  have e1 : bits BinOp.andNot IntKind.u8 (b : Int) 128 = ((b % 128 : Nat) : Int) := by
    rw [u8_andNot (b : Int) 128 (by omega) (by omega) (by omega) (by omega)]
    have : (255 - (128 : Int).toNat : Nat) = 127 := rfl
    rw [this, Int.toNat_natCast, nat_mask7]
  have e2 : IntKind.u64.wrap ((b % 128 : Nat) : Int) = ((b % 128 : Nat) : Int) := by rw [IntKind.wrap_u64]; omega
  have e3 : ((b % 128 : Nat) : Int) * P = ((b % 128 * 128 ^ k : Nat) : Int) := by rw [hP]; exact (Int.natCast_mul _ _).symm
  have e4 : IntKind.u64.wrap ((b % 128 * 128 ^ k : Nat) : Int) = ((b % 128 * 128 ^ k : Nat) : Int) := by rw [IntKind.wrap_u64]; omega
  rw [e1, e2, e3, e4, u64_or_nat _ _ (by omega) (by omega)]
  congr 1
  have e5 : (128 : Nat) ^ k = 2 ^ (7 * k) := by rw [Nat.pow_mul]
  have := nat_join (7 * k) (b % 128 * 128 ^ k) X (by rw [e5]; exact Nat.mul_mod_left _ _) (by rw [← e5]; exact hX)
  rw [Nat.or_comm, this]; omega
set_option maxHeartbeats 1000000 in
set_option maxRecDepth 20000 in
theorem rf_any (s : ByteArray) (w : World) (hs : s.size ≤ 9223372036854775807) :
    Calls Tryz.prog 134 #[.string s] w fun e w' => e = .returned (.tuple #[.int .u64 (rdv s), .int .i64 (rdn s), .int .i64 (rde s)]) ∧ w' = w := by
  go_enter Tryz.func134, Tryz.ntmps134
  go_wp2
  go_loop [5, 6] (fun v i => ∃ k X : Nat, k ≤ s.size ∧ k ≤ 9 ∧ X < 128 ^ k ∧ i = .int .i64 k ∧ v = .int .u64 X ∧ M.rd 0 0 (bl s) = M.rd k X ((bl s).drop k)) (fun _ i => s.size - (intOf i).toNat)
  case atStart => exact ⟨0, 0, by omega, by omega, by simp, rfl, rfl, rfl⟩
  case round =>
    obtain ⟨k, X, hk, hk9, hX, rfl, rfl, hd⟩ := hrel
    have HD : Hid (M.rd 0 0 (bl s) = M.rd k X ((bl s).drop k)) := hd
    have HX : Hid (X < 128 ^ k) := hX
    clear hd hX
    by_cases hlt : k < s.size
    · have hb := s[k].toNat_lt
      by_cases h9 : k = 9
      · subst h9
        go_wp2
        all_goals go_ret3
        · have h : 1 < (s[9].toNat : Int) ∨ ((s[9].toNat : Int) == 0) = true := by assumption
          obtain ⟨a, b, c⟩ := way_bad HD.out hlt (by rcases h with h | h; exact Or.inl ⟨rfl, by omega⟩; exact Or.inr ⟨by omega, by have := eq_of_beq h; omega⟩)
          exact ⟨ret3 (by rw [a]; rfl) (by rw [b]; rfl) (by rw [c]; rfl), rfl⟩
        · have h : (s[9].toNat : Int) ≤ 1 ∧ ((s[9].toNat : Int) == 0) = false := by assumption
          have h2 := ne_of_beq_false h.2
          obtain ⟨a, b, c⟩ := way_last HD.out hlt (by omega) (by omega)
          exact ⟨ret3 (by rw [a]; exact or_code (by rfl) HX.out (by omega) (by omega) (by omega)) (by rw [b]; rfl) (by rw [c]; rfl), rfl⟩
        · have h : 1 < (s[9].toNat : Int) := by assumption
          obtain ⟨a, b, c⟩ := way_bad HD.out hlt (by omega)
          exact ⟨ret3 (by rw [a]; rfl) (by rw [b]; rfl) (by rw [c]; rfl), rfl⟩
      · go_wp2
        · have h : 0 < k := by assumption
          have h' : ((s[k].toNat : Int) == 0) = true := by assumption
          have h2 := eq_of_beq h'
          obtain ⟨a, b, c⟩ := way_bad HD.out hlt (by omega)
          go_ret3
          exact ⟨ret3 (by rw [a]; rfl) (by rw [b]; rfl) (by rw [c]; rfl), rfl⟩
        · have h : 0 < k := by assumption
          have h' : ((s[k].toNat : Int) == 0) = false := by assumption
          have h2 := ne_of_beq_false h'
          have h3 : (s[k].toNat : Int) < 128 := by assumption
          obtain ⟨a, b, c⟩ := way_last HD.out hlt (by omega) (by omega)
          go_ret3
          exact ⟨ret3 (by rw [a]; exact or_code (p7 k) HX.out (by omega) (by omega) (by omega)) (by rw [b]; rfl) (by rw [c]; rfl), rfl⟩
        · have h : 0 < k := by assumption
          have h' : ((s[k].toNat : Int) == 0) = false := by assumption
          have h2 := ne_of_beq_false h'
          have h3 : 128 ≤ (s[k].toNat : Int) := by assumption
          go_round
          case rel => exact ⟨k + 1, _, by omega, by omega, pow_lt HX.out, by go_num, by rw [or_code (p7 k) HX.out (by omega) (by omega) (by omega)], way_more HD.out hlt (by omega) (by omega)⟩
          case measure => simp [intOf]; omega
        · have h3 : (s[k].toNat : Int) < 128 := by assumption
          obtain ⟨a, b, c⟩ := way_last HD.out hlt (by omega) (by omega)
          go_ret3
          exact ⟨ret3 (by rw [a]; exact or_code (p7 k) HX.out (by omega) (by omega) (by omega)) (by rw [b]; rfl) (by rw [c]; rfl), rfl⟩
        · have h3 : 128 ≤ (s[k].toNat : Int) := by assumption
          go_round
          case rel => exact ⟨k + 1, _, by omega, by omega, pow_lt HX.out, by go_num, by rw [or_code (p7 k) HX.out (by omega) (by omega) (by omega)], way_more HD.out hlt (by omega) (by omega)⟩
          case measure => simp [intOf]; omega
    · have hv : M.rd 0 0 (bl s) = (0, 0, 20) := by rw [HD.out, bl_end s k (by omega)]; rfl
      go_wp2
      go_ret3
      exact ⟨ret3 (by simp [rdv, hv]) (by simp [rdn, hv]) (by simp [rde, hv]), rfl⟩
theorem add_code {k X b : Nat} {P : Int} (hP : ((128 ^ k : Nat) : Int) = P) (hX : X < 128 ^ k) (hk : k ≤ 9) (h9 : k = 9 → b ≤ 1) :
    IntKind.u64.wrap ((X : Int) + IntKind.u64.wrap ((b : Int) % 128 * P)) = ((X + b % 128 * 128 ^ k : Nat) : Int) := by
  have hlt := pow9 hX hk h9
  have e3 : ((b : Int) % 128) * P = ((b % 128 * 128 ^ k : Nat) : Int) := by rw [← hP]; exact (Int.natCast_mul _ _).symm
  rw [e3, IntKind.wrap_u64, IntKind.wrap_u64]; omega
theorem mul_code {k : Nat} {P : Int} (hP : ((128 ^ k : Nat) : Int) = P) (hk : k < 9) : IntKind.u64.wrap (P * 128) = ((128 ^ (k + 1) : Nat) : Int) := by
  have h2 : 128 ^ (k + 1) ≤ 128 ^ 9 := Nat.pow_le_pow_right (by omega) (by omega)
  rw [IntKind.wrap_u64, ← hP, Nat.pow_succ]
  rw [Nat.pow_succ] at h2
  omega
set_option maxHeartbeats 1000000 in
set_option maxRecDepth 20000 in
theorem rread_any (s : ByteArray) (w : World) (hs : s.size ≤ 9223372036854775807) :
    Calls Tryz.prog 131 #[.string s] w fun e w' => e = .returned (.tuple #[.int .u64 (rdv s), .int .i64 (rdn s), .int .i64 (rde s)]) ∧ w' = w := by
  go_enter Tryz.func131, Tryz.ntmps131
  go_wp2
  go_loop [5, 6, 7] (fun v q i => ∃ k X : Nat, k ≤ s.size ∧ k ≤ 9 ∧ X < 128 ^ k ∧ i = .int .i64 k ∧ v = .int .u64 X ∧ q = .int .u64 (128 ^ k : Nat) ∧ M.rd 0 0 (bl s) = M.rd k X ((bl s).drop k)) (fun _ _ i => s.size - (intOf i).toNat)
  case atStart => exact ⟨0, 0, by omega, by omega, by simp, rfl, rfl, rfl, rfl⟩
  case round =>
    obtain ⟨k, X, hk, hk9, hX, rfl, rfl, rfl, hd⟩ := hrel
    have HD : Hid (M.rd 0 0 (bl s) = M.rd k X ((bl s).drop k)) := hd
    have HX : Hid (X < 128 ^ k) := hX
    clear hd hX
    generalize hP : ((128 ^ k : Nat) : Int) = P
    have HP : Hid (((128 ^ k : Nat) : Int) = P) := hP
    clear hP
    by_cases hlt : k < s.size
    · have hb := s[k].toNat_lt
      by_cases h9 : k = 9
      · subst h9
        go_wp2
        all_goals go_ret3
        · have h : 1 < (s[9].toNat : Int) ∨ ((s[9].toNat : Int) == 0) = true := by assumption
          obtain ⟨a, b, c⟩ := way_bad HD.out hlt (by rcases h with h | h; exact Or.inl ⟨rfl, by omega⟩; exact Or.inr ⟨by omega, by have := eq_of_beq h; omega⟩)
          exact ⟨ret3 (by rw [a]; rfl) (by rw [b]; rfl) (by rw [c]; rfl), rfl⟩
        · have h : (s[9].toNat : Int) ≤ 1 ∧ ((s[9].toNat : Int) == 0) = false := by assumption
          have h2 := ne_of_beq_false h.2
          obtain ⟨a, b, c⟩ := way_last HD.out hlt (by omega) (by omega)
          exact ⟨ret3 (by rw [a]; exact add_code HP.out HX.out (by omega) (by omega)) (by rw [b]; rfl) (by rw [c]; rfl), rfl⟩
        · have h : 1 < (s[9].toNat : Int) := by assumption
          obtain ⟨a, b, c⟩ := way_bad HD.out hlt (by omega)
          exact ⟨ret3 (by rw [a]; rfl) (by rw [b]; rfl) (by rw [c]; rfl), rfl⟩
      · go_wp2
        · have h : 0 < k := by assumption
          have h' : ((s[k].toNat : Int) == 0) = true := by assumption
          have h2 := eq_of_beq h'
          obtain ⟨a, b, c⟩ := way_bad HD.out hlt (by omega)
          go_ret3
          exact ⟨ret3 (by rw [a]; rfl) (by rw [b]; rfl) (by rw [c]; rfl), rfl⟩
        · have h : 0 < k := by assumption
          have h' : ((s[k].toNat : Int) == 0) = false := by assumption
          have h2 := ne_of_beq_false h'
          have h3 : (s[k].toNat : Int) < 128 := by assumption
          obtain ⟨a, b, c⟩ := way_last HD.out hlt (by omega) (by omega)
          go_ret3
          exact ⟨ret3 (by rw [a]; exact add_code HP.out HX.out (by omega) (by omega)) (by rw [b]; rfl) (by rw [c]; rfl), rfl⟩
        · have h : 0 < k := by assumption
          have h' : ((s[k].toNat : Int) == 0) = false := by assumption
          have h2 := ne_of_beq_false h'
          have h3 : 128 ≤ (s[k].toNat : Int) := by assumption
          go_round
          case rel => exact ⟨k + 1, _, by omega, by omega, pow_lt HX.out, by go_num, by rw [add_code HP.out HX.out (by omega) (by omega)], by rw [mul_code HP.out (by omega)], way_more HD.out hlt (by omega) (by omega)⟩
          case measure => simp [intOf]; omega
        · have h3 : (s[k].toNat : Int) < 128 := by assumption
          obtain ⟨a, b, c⟩ := way_last HD.out hlt (by omega) (by omega)
          go_ret3
          exact ⟨ret3 (by rw [a]; exact add_code HP.out HX.out (by omega) (by omega)) (by rw [b]; rfl) (by rw [c]; rfl), rfl⟩
        · have h3 : 128 ≤ (s[k].toNat : Int) := by assumption
          go_round
          case rel => exact ⟨k + 1, _, by omega, by omega, pow_lt HX.out, by go_num, by rw [add_code HP.out HX.out (by omega) (by omega)], by rw [mul_code HP.out (by omega)], way_more HD.out hlt (by omega) (by omega)⟩
          case measure => simp [intOf]; omega
    · have hv : M.rd 0 0 (bl s) = (0, 0, 20) := by rw [HD.out, bl_end s k (by omega)]; rfl
      go_wp2
      go_ret3
      exact ⟨ret3 (by simp [rdv, hv]) (by simp [rdn, hv]) (by simp [rde, hv]), rfl⟩

/-- Read of the kinds up to 'most'. -/
def rm (s : ByteArray) (most : Int) : Int × Int × Int := if rde s = 0 then (if (rdv s : Int) ≤ most then ((rdv s : Int), (rdn s : Int), (0 : Int)) else (0, 0, 1)) else (0, 0, (rde s : Int))
theorem rm_ok {s : ByteArray} {m : Int} (h : rde s = 0) (h2 : (rdv s : Int) ≤ m) : rm s m = ((rdv s : Int), (rdn s : Int), (0 : Int)) := by unfold rm; rw [if_pos h, if_pos h2]
theorem rm_big {s : ByteArray} {m : Int} (h : rde s = 0) (h2 : ¬ (rdv s : Int) ≤ m) : rm s m = (0, 0, 1) := by unfold rm; rw [if_pos h, if_neg h2]
theorem rm_bad {s : ByteArray} {m : Int} (h : ¬ rde s = 0) : rm s m = (0, 0, (rde s : Int)) := by unfold rm; rw [if_neg h]
theorem rd_bds (s : ByteArray) : (rdv s : Int) ≤ 18446744073709551615 ∧ rdn s ≤ 10 ∧ rdn s ≤ s.size := by
  obtain ⟨a, b, c⟩ := M.rd_bd (bl s) (bl_byte s)
  rw [bl_len] at c
  unfold rdv rdn
  exact ⟨by omega, b, c⟩
theorem read_any (s : ByteArray) (w : World) (hs : s.size ≤ 9223372036854775807) :
    Calls Tryz.prog 125 #[.string s] w fun e w' => e = .returned (.tuple #[.int .u64 (rm s 18446744073709551615).1, .int .i64 (rm s 18446744073709551615).2.1, .int .i64 (rm s 18446744073709551615).2.2]) ∧ w' = w := by
  obtain ⟨b1, b2, b3⟩ := rd_bds s
  by_cases h : rde s = 0
  · by_cases hm : (rdv s : Int) ≤ 18446744073709551615
    · have hr := rm_ok h hm
      rw [hr]
      clear hr
      go_enter Tryz.func125, Tryz.ntmps125
      go_wp2_with (go_at_call 134; refine (rf_any _ _ hs).mono ?_; rintro e w' ⟨rfl, rfl⟩)
      go_ret3
      exact ⟨rfl, rfl⟩
    · omega
  · have hr := rm_bad (m := 18446744073709551615) h
    rw [hr]
    clear hr
    go_enter Tryz.func125, Tryz.ntmps125
    go_wp2_with (go_at_call 134; refine (rf_any _ _ hs).mono ?_; rintro e w' ⟨rfl, rfl⟩)
    go_ret3
    exact ⟨rfl, rfl⟩
end Go.Proofs.YtpfaioncaolmjaaGreat
