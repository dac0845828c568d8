/- The program's tokens: what they are, how many bytes they stand for, the first token of some bytes; nothing that was there before is turned. -/
import Derived.Test.YtdkfenmhfkggdaaWld
import Derived.Deep.QuietTactic
import Derived.BigQuiet
import Derived.Deep.RegionHeld3
namespace Go.Proofs.Ytdkfenmhfkggdaa
open Go.RowKit
def ba (l : List UInt8) : ByteArray := ⟨l.toArray⟩
theorem ba_size (l : List UInt8) : (ba l).size = l.length := by show l.toArray.size = _; simp
theorem ba_list (l : List UInt8) : (ba l).data.toList = l := rfl
theorem ba_of (s : ByteArray) : ba s.data.toList = s := rfl
/-- A token's value. -/
def tokV (t : M.Tok) : Value := .agg #[.string (ba t.lits), .int .i64 (t.len : Nat), .int .i64 (t.dist : Nat)]
def noTok : Value := .agg #[.string ⟨#[]⟩, .int .i64 0, .int .i64 0]
set_option maxHeartbeats 400000 in
theorem within_any (n a b : Int) (w : World) : Calls Try.prog 41 #[.int .i64 n, .int .i64 a, .int .i64 b] w fun e w' => e = .returned (.bool (decide (a ≤ n ∧ n ≤ b))) ∧ w' = w := by
  by_cases h1 : a ≤ n
  · by_cases h2 : n ≤ b
    · have e : decide (a ≤ n ∧ n ≤ b) = true := by simp [h1, h2]
      rw [e]
      clear e
      go_enter Try.func41, Try.ntmps41
      go_wp2
      go_ret
      exact ⟨rfl, rfl⟩
    · have e : decide (a ≤ n ∧ n ≤ b) = false := by simp [h2]
      rw [e]
      clear e
      have h3 : b < n := by omega
      go_enter Try.func41, Try.ntmps41
      go_wp2
      go_ret
      exact ⟨rfl, rfl⟩
  · have e : decide (a ≤ n ∧ n ≤ b) = false := by simp [h1]
    rw [e]
    clear e
    have h3 : n < a := by omega
    go_enter Try.func41, Try.ntmps41
    go_wp2
    go_ret
    exact ⟨rfl, rfl⟩
set_option maxHeartbeats 400000 in
theorem count_any (s : ByteArray) (n d : Nat) (w : World) (h : s.size + n ≤ 9223372036854775807) : Calls Try.prog 38 #[.agg #[.string s, .int .i64 n, .int .i64 d]] w fun e w' => e = .returned (.int .i64 (s.size + n : Nat)) ∧ Below w.heap.size w w' := by
  go_enter Try.func38, Try.ntmps38
  go_wp2
  go_ret
  exact ⟨ret_int (by omega), (Below.refl _ w).alloc (Nat.le_refl _) _⟩
theorem ext_ba (p : ByteArray) (a b : Nat) : p.extract a b = ba ((p.data.toList.drop a).take (b - a)) := by
  unfold ba
  apply ByteArray.ext
  rw [ByteArray.data_extract]
  apply Array.ext'
  simp
theorem lits_ba (s : List UInt8) : (ba s) = ba (M.Tok.lit s).lits := rfl
theorem ret3 {v1 v2 : Value} {a b c d : Int} (h0 : v1 = v2) (h1 : a = c) (h2 : b = d) : Ending.returned (.tuple #[v1, .int .i64 a, .int .i64 b]) = .returned (.tuple #[v2, .int .i64 c, .int .i64 d]) := by rw [h0, h1, h2]
set_option maxHeartbeats 1000000 in
set_option maxRecDepth 20000 in
theorem flit_ok (p : ByteArray) (t : M.Tok) (n : Nat) (w : World) (hp : 0 < p.size) (hc : p[0].toNat < 128) (h : M.fst' p.data.toList = .ok (t, n)) :
    Calls Try.prog 39 #[.string p] w fun e w' => e = .returned (.tuple #[tokV t, .int .i64 n, .int .i64 0]) ∧ Below w.heap.size w w' := by
  unfold M.fst' at h
  rw [← at_ p 0 hp] at h
  simp only [hc, if_true, len_] at h
  generalize hb : p[0].toNat = c at *
  split at h
  · cases h
  · rename_i hl
    injection h with h
    injection h with h1 h2
    subst h1 h2
    have hx : ¬ (p.size : Int) < 1 + (c : Int) + 1 := by omega
    go_enter Try.func39, Try.ntmps39
    go_wp2_with fail
    refine bodyPost_ret (v := .tuple #[.agg #[.string (p.extract 1 (1 + c + 1)), .int .i64 0, .int .i64 0], .int .i64 (1 + c + 1), .int .i64 0]) (by simp [results, Try.results39, go_sem]) rfl ⟨ret3 ?_ (by omega) rfl, (Below.refl _ w).alloc (Nat.le_refl _) _⟩
    rw [ext_ba, show 1 + c + 1 - 1 = c + 1 from by omega]
    simp only [tokV, M.Tok.lits, M.Tok.len, M.Tok.dist, List.drop_one]
    rfl
set_option maxHeartbeats 1000000 in
set_option maxRecDepth 20000 in
theorem flit_err (p : ByteArray) (k : Nat) (w : World) (hp : 0 < p.size) (hc : p[0].toNat < 128) (h : M.fst' p.data.toList = .error k) :
    Calls Try.prog 39 #[.string p] w fun e w' => e = .returned (.tuple #[noTok, .int .i64 0, .int .i64 k]) ∧ Below w.heap.size w w' := by
  unfold M.fst' at h
  rw [← at_ p 0 hp] at h
  simp only [hc, if_true, len_] at h
  generalize hb : p[0].toNat = c at *
  split at h
  · rename_i hl
    injection h with h
    subst h
    have hx : (p.size : Int) < 1 + (c : Int) + 1 := by omega
    go_enter Try.func39, Try.ntmps39
    go_wp2_with fail
    exact bodyPost_ret (v := .tuple #[.agg #[.string ⟨#[]⟩, .int .i64 0, .int .i64 0], .int .i64 0, .int .i64 20]) (by simp [results, Try.results39, go_sem]) rfl ⟨rfl, (Below.refl _ w).alloc (Nat.le_refl _) _⟩
  · cases h
/-- What isMatch answers. -/
def mB (s : ByteArray) (n d : Int) : Bool := decide (s.size = 0 ∧ (4 ≤ n ∧ n ≤ 131) ∧ 1 ≤ d ∧ d ≤ 8192)
def lB (s : ByteArray) (n d : Int) : Bool := decide (n = 0 ∧ d = 0 ∧ 1 ≤ s.size ∧ s.size ≤ 128)
theorem ne_emp {s : ByteArray} (h : s.size ≠ 0) : s.toList.isEmpty = false := by
  rw [ByteArray.toList_eq, List.isEmpty_eq_false_iff]
  intro h'
  apply h
  have := congrArg List.length h'
  simpa using this
theorem empty_iff (s : ByteArray) : s.size = 0 ↔ s = ⟨#[]⟩ := by
  constructor
  · intro h
    apply ByteArray.ext
    exact Array.eq_empty_of_size_eq_zero h
  · intro h; rw [h]; rfl
set_option maxHeartbeats 1000000 in
set_option maxRecDepth 20000 in
theorem ismat_any (s : ByteArray) (n d : Int) (w : World) : Calls Try.prog 34 #[.agg #[.string s, .int .i64 n, .int .i64 d]] w fun e w' => e = .returned (.bool (mB s n d)) ∧ Below w.heap.size w w' := by
  by_cases h1 : s.size = 0
  · have e1 := (empty_iff s).1 h1
    subst e1
    have w1 := fun w => within_any n 4 131 w
    have w2 := fun w => within_any d 1 8192 w
    by_cases h2 : 4 ≤ n ∧ n ≤ 131
    · have e : mB ⟨#[]⟩ n d = decide (1 ≤ d ∧ d ≤ 8192) := by unfold mB; rw [decide_eq_decide]; exact ⟨fun h => h.2.2, fun h => ⟨rfl, h2, h⟩⟩
      rw [e]
      have e2 : decide (4 ≤ n ∧ n ≤ 131) = true := by simpa using h2
      rw [e2] at w1
      generalize decide (1 ≤ d ∧ d ≤ 8192) = D at *
      have W1 := hid w1; have W2 := hid w2
      clear w1 w2 e e2 h1 h2
      go_enter Try.func34, Try.ntmps34
      go_wp2_with fail
      refine (W1.out _).mono ?_
      rintro e w1 ⟨rfl, rfl⟩
      go_wp2_with fail
      refine (W2.out _).mono ?_
      rintro e w1 ⟨rfl, rfl⟩
      go_wp2_with fail
      go_ret
      exact ⟨rfl, (Below.refl _ w).alloc (Nat.le_refl _) _⟩
    · have e : mB ⟨#[]⟩ n d = false := by unfold mB; rw [decide_eq_false_iff_not]; intro h; exact h2 h.2.1
      rw [e]
      have e2 : decide (4 ≤ n ∧ n ≤ 131) = false := by simpa using h2
      rw [e2] at w1
      have W1 := hid w1
      clear w1 w2 e e2 h1 h2
      go_enter Try.func34, Try.ntmps34
      go_wp2_with fail
      refine (W1.out _).mono ?_
      rintro e w1 ⟨rfl, rfl⟩
      go_wp2_with fail
      go_ret
      exact ⟨rfl, (Below.refl _ w).alloc (Nat.le_refl _) _⟩
  · have e : mB s n d = false := by unfold mB; simp [h1]
    rw [e]
    have e1 := ne_emp h1
    clear e h1
    go_enter Try.func34, Try.ntmps34
    go_wp2_with fail
    go_ret
    exact ⟨rfl, (Below.refl _ w).alloc (Nat.le_refl _) _⟩
set_option maxHeartbeats 1000000 in
set_option maxRecDepth 20000 in
theorem islit_any (s : ByteArray) (n d : Int) (w : World) : Calls Try.prog 33 #[.agg #[.string s, .int .i64 n, .int .i64 d]] w fun e w' => e = .returned (.bool (lB s n d)) ∧ Below w.heap.size w w' := by
  by_cases h1 : n = 0
  · subst h1
    by_cases h2 : d = 0
    · subst h2
      have w1 := fun w => within_any s.size 1 128 w
      have e : lB s 0 0 = decide (1 ≤ (s.size : Int) ∧ (s.size : Int) ≤ 128) := by unfold lB; rw [decide_eq_decide]; omega
      rw [e]
      generalize decide (1 ≤ (s.size : Int) ∧ (s.size : Int) ≤ 128) = D at *
      have W1 := hid w1
      clear w1 e
      go_enter Try.func33, Try.ntmps33
      go_wp2_with fail
      refine (W1.out _).mono ?_
      rintro e w1 ⟨rfl, rfl⟩
      go_wp2_with fail
      go_ret
      exact ⟨rfl, (Below.refl _ w).alloc (Nat.le_refl _) _⟩
    · have e : lB s 0 d = false := by unfold lB; rw [decide_eq_false_iff_not]; omega
      rw [e]
      have e1 : (d == 0) = false := by rw [beq_eq_false_iff_ne]; exact h2
      clear e h2
      go_enter Try.func33, Try.ntmps33
      go_wp2_with fail
      go_ret
      exact ⟨rfl, (Below.refl _ w).alloc (Nat.le_refl _) _⟩
  · have e : lB s n d = false := by unfold lB; rw [decide_eq_false_iff_not]; omega
    rw [e]
    have e1 : (n == 0) = false := by rw [beq_eq_false_iff_ne]; exact h1
    clear e h1
    go_enter Try.func33, Try.ntmps33
    go_wp2_with fail
    go_ret
    exact ⟨rfl, (Below.refl _ w).alloc (Nat.le_refl _) _⟩
theorem i64_or_nat (a b : Nat) (ha : a < 9223372036854775808) (hb : b < 9223372036854775808) : bits .or .i64 (a : Int) (b : Int) = ((a ||| b : Nat) : Int) := by
  have hx : a ||| b < 2 ^ 63 := Nat.or_lt_two_pow (by omega) (by omega)
  show IntKind.i64.wrap ((BitVec.ofInt 64 (a : Int) ||| BitVec.ofInt 64 (b : Int)).toNat : Int) = _
  have ea : (BitVec.ofInt 64 (a : Int)).toNat = a := by rw [BitVec.toNat_ofInt]; omega
  have eb : (BitVec.ofInt 64 (b : Int)).toNat = b := by rw [BitVec.toNat_ofInt]; omega
  rw [BitVec.toNat_or, ea, eb, wrap_in (by omega) (by omega)]
theorem or_dist (a b : Nat) (hb : b < 256) (ha : a < 256) : bits BinOp.or IntKind.i64 ((a : Int) * 256) (b : Int) = ((a * 256 + b : Nat) : Int) := by
  have := i64_or_nat (a * 256) b (by omega) (by omega)
  have h2 := nat_join 8 (a * 256) b (by omega) (by omega)
  rw [h2] at this
  exact this
end Go.Proofs.Ytdkfenmhfkggdaa
