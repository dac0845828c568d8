/- The plain mathematics of layer 3: moving a register, taking bytes in, moving back, the table, products of polynomials. No world, no program. -/
namespace Go.Proofs.Ytohpjbhjcgihkaa.M

/-- One move of a register. -/
def mv (r : Nat) : Nat := if r % 2 = 1 then r / 2 ^^^ 2197175160 else r / 2
/-- So many moves. -/
def mvN : Nat → Nat → Nat
  | 0, r => r
  | n + 1, r => mvN n (mv r)

theorem mv_lt {r : Nat} (h : r < 4294967296) : mv r < 4294967296 := by
  unfold mv
  split
  · exact Nat.xor_lt_two_pow (n := 32) (by omega) (by omega)
  · omega
theorem mvN_lt : ∀ (n : Nat) {r : Nat}, r < 4294967296 → mvN n r < 4294967296
  | 0, _, h => h
  | n + 1, _, h => mvN_lt n (mv_lt h)
theorem xor_div2 (a b : Nat) : (a ^^^ b) / 2 = a / 2 ^^^ b / 2 := by
  simpa using (Nat.xor_div_two_pow (a := a) (b := b) (n := 1))
theorem xor_mod2 (a b : Nat) : (a ^^^ b) % 2 = (a + b) % 2 := by
  have h : (a ^^^ b) % 2 = a % 2 ^^^ b % 2 := by simpa using (Nat.xor_mod_two_pow (a := a) (b := b) (n := 1))
  rcases Nat.mod_two_eq_zero_or_one a with ha | ha <;> rcases Nat.mod_two_eq_zero_or_one b with hb | hb <;> rw [h, ha, hb] <;> simp <;> omega
theorem mv_xor (a b : Nat) : mv (a ^^^ b) = mv a ^^^ mv b := by
  unfold mv
  rw [xor_mod2, xor_div2]
  rcases Nat.mod_two_eq_zero_or_one a with ha | ha <;> rcases Nat.mod_two_eq_zero_or_one b with hb | hb
  · rw [if_neg (by omega), if_neg (by omega), if_neg (by omega)]
  · rw [if_pos (by omega), if_neg (by omega), if_pos (by omega), Nat.xor_assoc]
  · rw [if_pos (by omega), if_pos (by omega), if_neg (by omega), Nat.xor_assoc, Nat.xor_assoc, Nat.xor_comm (b / 2)]
  · rw [if_neg (by omega), if_pos (by omega), if_pos (by omega)]
    rw [Nat.xor_assoc, Nat.xor_comm 2197175160, Nat.xor_assoc, Nat.xor_self, Nat.xor_zero]
theorem mvN_xor : ∀ (n a b : Nat), mvN n (a ^^^ b) = mvN n a ^^^ mvN n b
  | 0, _, _ => rfl
  | n + 1, a, b => by show mvN n (mv (a ^^^ b)) = _; rw [mv_xor, mvN_xor n]; rfl
theorem mv_zero : mv 0 = 0 := rfl
theorem mvN_zero : ∀ n, mvN n 0 = 0
  | 0 => rfl
  | n + 1 => mvN_zero n
theorem mvN_add : ∀ (m n r : Nat), mvN (m + n) r = mvN n (mvN m r)
  | 0, n, r => by simp [mvN]
  | m + 1, n, r => by rw [Nat.add_right_comm]; exact mvN_add m n (mv r)
theorem mvN_one (r : Nat) : mvN 1 r = mv r := rfl
theorem mvN_succ (n r : Nat) : mvN (n + 1) r = mv (mvN n r) := mvN_add n 1 r

/-- Back by one move. -/
def bk (r : Nat) : Nat := if 2147483648 ≤ r then (r ^^^ 2197175160) * 2 % 4294967296 + 1 else r * 2 % 4294967296
def bkN : Nat → Nat → Nat
  | 0, r => r
  | n + 1, r => bkN n (bk r)
theorem bk_lt {r : Nat} : bk r < 4294967296 := by
  unfold bk; split <;> omega
theorem bkN_lt : ∀ (n : Nat) {r : Nat}, r < 4294967296 → bkN n r < 4294967296
  | 0, _, h => h
  | n + 1, _, _ => bkN_lt n bk_lt
theorem high_xor {r : Nat} (h : r < 4294967296) : (2147483648 ≤ r ^^^ 2197175160) ↔ r < 2147483648 := by
  have hx : r ^^^ 2197175160 < 4294967296 := Nat.xor_lt_two_pow (n := 32) h (by omega)
  have e : (r ^^^ 2197175160) / 2147483648 = r / 2147483648 ^^^ 2197175160 / 2147483648 := by
    simpa using (Nat.xor_div_two_pow (a := r) (b := 2197175160) (n := 31))
  have h2 : 2197175160 / 2147483648 = 1 := by decide
  rw [h2] at e
  have h3 : r / 2147483648 = 0 ∨ r / 2147483648 = 1 := by omega
  rcases h3 with h3 | h3
  · rw [h3] at e
    have : (0 ^^^ 1 : Nat) = 1 := rfl
    omega
  · rw [h3] at e
    have : (1 ^^^ 1 : Nat) = 0 := rfl
    omega
theorem xor_twice (a b : Nat) : a ^^^ b ^^^ b = a := by rw [Nat.xor_assoc, Nat.xor_self, Nat.xor_zero]
theorem bk_mv {r : Nat} (h : r < 4294967296) : bk (mv r) = r := by
  unfold mv
  split
  · have hh := (high_xor (r := r / 2) (by omega)).2 (by omega)
    unfold bk
    rw [if_pos hh, xor_twice]; omega
  · unfold bk
    rw [if_neg (by omega)]; omega
theorem mv_bk {r : Nat} (h : r < 4294967296) : mv (bk r) = r := by
  unfold bk
  split
  · next hr =>
    have hh := (high_xor h)
    have hx : r ^^^ 2197175160 < 4294967296 := Nat.xor_lt_two_pow (n := 32) h (by omega)
    have hlow : r ^^^ 2197175160 < 2147483648 := by
      rcases Nat.lt_or_ge (r ^^^ 2197175160) 2147483648 with h1 | h1
      · exact h1
      · have := hh.1 h1; omega
    have e : (r ^^^ 2197175160) * 2 % 4294967296 + 1 = (r ^^^ 2197175160) * 2 + 1 := by omega
    rw [e]
    unfold mv
    rw [if_pos (by omega)]
    have e2 : ((r ^^^ 2197175160) * 2 + 1) / 2 = r ^^^ 2197175160 := by omega
    rw [e2, xor_twice]
  · have e : r * 2 % 4294967296 = r * 2 := by omega
    rw [e]
    unfold mv
    rw [if_neg (by omega)]; omega
theorem mvN_bkN : ∀ (n : Nat) {r : Nat}, r < 4294967296 → mvN n (bkN n r) = r
  | 0, _, _ => rfl
  | n + 1, r, h => by
    rw [mvN_succ]
    show mv (mvN n (bkN n (bk r))) = r
    rw [mvN_bkN n bk_lt, mv_bk h]
theorem bkN_mvN : ∀ (n : Nat) {r : Nat}, r < 4294967296 → bkN n (mvN n r) = r
  | 0, _, _ => rfl
  | n + 1, r, h => by
    rw [mvN_succ]
    show bkN n (bk (mv (mvN n r))) = r
    rw [bk_mv (mvN_lt n h), bkN_mvN n h]
theorem mvN_inj {n a b : Nat} (ha : a < 4294967296) (hb : b < 4294967296) (h : mvN n a = mvN n b) : a = b := by
  rw [← bkN_mvN n ha, h, bkN_mvN n hb]
theorem bkN_add : ∀ (m n r : Nat), bkN (m + n) r = bkN n (bkN m r)
  | 0, n, r => by simp [bkN]
  | m + 1, n, r => by rw [Nat.add_right_comm]; exact bkN_add m n (bk r)

/-- Taking a byte in. -/
def tk (r b : Nat) : Nat := mvN 8 (r ^^^ b)
theorem tk_lt {r b : Nat} (h : r < 4294967296) (hb : b < 256) : tk r b < 4294967296 := mvN_lt 8 (Nat.xor_lt_two_pow (n := 32) h (by omega))
theorem mvN_shift : ∀ (n q : Nat), mvN n (q * 2 ^ n) = q
  | 0, q => by simp [mvN]
  | n + 1, q => by
    show mvN n (mv (q * 2 ^ (n + 1))) = q
    have e : q * 2 ^ (n + 1) = q * 2 ^ n * 2 := by rw [Nat.pow_succ, Nat.mul_assoc]
    have : mv (q * 2 ^ (n + 1)) = q * 2 ^ n := by
      rw [e]; unfold mv; rw [if_neg (by omega)]; omega
    rw [this, mvN_shift n q]
/-- High and low parts laid together by exclusive-or. -/
theorem split_xor (n q l : Nat) (h : l < 2 ^ n) : q * 2 ^ n + l = (q * 2 ^ n) ^^^ l := by
  apply Nat.eq_of_testBit_eq
  intro i
  rw [Nat.testBit_xor, Nat.mul_comm, Nat.testBit_two_pow_mul_add q h i, Nat.testBit_two_pow_mul]
  by_cases hi : i < n
  · have : ¬ (n ≤ i) := by omega
    simp [hi, this]
  · have h1 : n ≤ i := by omega
    have h2 : l.testBit i = false := Nat.testBit_lt_two_pow (Nat.lt_of_lt_of_le h (Nat.pow_le_pow_right (by omega) h1))
    simp [hi, h1, h2]
theorem mvN_split (n r : Nat) : mvN n r = r / 2 ^ n ^^^ mvN n (r % 2 ^ n) := by
  have h := split_xor n (r / 2 ^ n) (r % 2 ^ n) (Nat.mod_lt _ (Nat.pow_pos (by omega)))
  have e : r = r / 2 ^ n * 2 ^ n + r % 2 ^ n := by rw [Nat.mul_comm]; exact (Nat.div_add_mod r (2 ^ n)).symm
  conv => lhs; rw [e, h, mvN_xor, mvN_shift]
/-- By the table. -/
theorem tk_table {r b : Nat} (hb : b < 256) : r / 256 ^^^ mvN 8 (r % 256 ^^^ b) = tk r b := by
  unfold tk
  rw [mvN_split 8 (r ^^^ b)]
  have e1 : (r ^^^ b) / 2 ^ 8 = r / 256 := by
    rw [Nat.xor_div_two_pow]
    have : b / 2 ^ 8 = 0 := by omega
    rw [this, Nat.xor_zero]
  have e2 : (r ^^^ b) % 2 ^ 8 = r % 256 ^^^ b := by
    rw [Nat.xor_mod_two_pow]
    have : b % 2 ^ 8 = b := by omega
    rw [this]
  rw [e1, e2]

/-- The register behind bytes. -/
def run (r : Nat) (l : List UInt8) : Nat := l.foldl (fun r b => tk r b.toNat) r
theorem run_nil (r : Nat) : run r [] = r := rfl
theorem run_cons (r : Nat) (b : UInt8) (l : List UInt8) : run r (b :: l) = run (tk r b.toNat) l := rfl
theorem run_append (r : Nat) (a b : List UInt8) : run r (a ++ b) = run (run r a) b := List.foldl_append
theorem run_snoc (r : Nat) (a : List UInt8) (b : UInt8) : run r (a ++ [b]) = tk (run r a) b.toNat := run_append r a [b]
theorem run_lt : ∀ (l : List UInt8) {r : Nat}, r < 4294967296 → run r l < 4294967296
  | [], _, h => h
  | b :: l, _, h => run_lt l (tk_lt h (by have := b.toNat_lt; omega))
def more (sum : Nat) (l : List UInt8) : Nat := run (sum ^^^ 4294967295) l ^^^ 4294967295
theorem ones_lt {a : Nat} (h : a < 4294967296) : a ^^^ 4294967295 < 4294967296 := Nat.xor_lt_two_pow (n := 32) h (by omega)
theorem more_lt {sum : Nat} (l : List UInt8) (h : sum < 4294967296) : more sum l < 4294967296 := ones_lt (run_lt l (ones_lt h))
theorem more_more (sum : Nat) (a b : List UInt8) : more (more sum a) b = more sum (a ++ b) := by
  unfold more; rw [xor_twice, run_append]
theorem more_nil (sum : Nat) : more sum [] = sum := xor_twice _ _

/-- Two registers that take the same in. -/
theorem run_xor : ∀ (l : List UInt8) (r q : Nat), run (r ^^^ q) l = run r l ^^^ mvN (8 * l.length) q
  | [], _, _ => rfl
  | b :: l, r, q => by
    rw [run_cons, run_cons]
    have e : tk (r ^^^ q) b.toNat = tk r b.toNat ^^^ mvN 8 q := by
      unfold tk; rw [Nat.xor_assoc, Nat.xor_comm q, ← Nat.xor_assoc, mvN_xor]
    rw [e, run_xor l, ← mvN_add]
    congr 2
    simp; omega
/-- The sum of two pieces of their sums. -/
theorem more_join (a : Nat) (l : List UInt8) : more a l = mvN (8 * l.length) a ^^^ more 0 l := by
  unfold more
  rw [Nat.zero_xor, Nat.xor_comm a, run_xor, Nat.xor_assoc, Nat.xor_comm (mvN _ _), ← Nat.xor_assoc, Nat.xor_comm]
theorem run_inj {l : List UInt8} {a b : Nat} (ha : a < 4294967296) (hb : b < 4294967296) (h : run a l = run b l) : a = b := by
  have e : run a l = run b l ^^^ mvN (8 * l.length) (b ^^^ a) := by rw [← run_xor, ← Nat.xor_assoc, Nat.xor_self, Nat.zero_xor]
  have e2 : mvN (8 * l.length) (b ^^^ a) = 0 := by
    have : run b l ^^^ (run b l ^^^ mvN (8 * l.length) (b ^^^ a)) = run b l ^^^ run b l := by rw [← e, h]
    rw [← Nat.xor_assoc, Nat.xor_self, Nat.zero_xor] at this; exact this
  have e3 : b ^^^ a = 0 := mvN_inj (Nat.xor_lt_two_pow (n := 32) hb ha) (by omega) (e2.trans (mvN_zero _).symm)
  have : b ^^^ a ^^^ a = 0 ^^^ a := by rw [e3]
  rw [xor_twice, Nat.zero_xor] at this
  exact this.symm
/-- Four bytes at once. -/
theorem run4 (r : Nat) (a b c d : UInt8) : run r [a, b, c, d] = mvN 32 (r ^^^ (a.toNat + b.toNat * 2 ^ 8 + c.toNat * 2 ^ 16 + d.toNat * 2 ^ 24)) := by
  have ha := a.toNat_lt; have hb := b.toNat_lt; have hc := c.toNat_lt; have hd := d.toNat_lt
  have e : a.toNat + b.toNat * 2 ^ 8 + c.toNat * 2 ^ 16 + d.toNat * 2 ^ 24 = d.toNat * 2 ^ 24 ^^^ (c.toNat * 2 ^ 16 ^^^ (b.toNat * 2 ^ 8 ^^^ a.toNat)) := by
    rw [← split_xor 8 b.toNat a.toNat (by omega), ← split_xor 16 c.toNat _ (by omega), ← split_xor 24 d.toNat _ (by omega)]
    omega
  have s8 (n q : Nat) : mvN 8 (q * 2 ^ (n + 8)) = q * 2 ^ n := by
    rw [Nat.pow_add, ← Nat.mul_assoc]; exact mvN_shift 8 _
  rw [e]
  simp only [run, List.foldl_cons, List.foldl_nil, tk]
  rw [show (32 : Nat) = 8 + (8 + (8 + 8)) from rfl, mvN_add, mvN_add, mvN_add]
  rw [show d.toNat * 2 ^ 24 ^^^ (c.toNat * 2 ^ 16 ^^^ (b.toNat * 2 ^ 8 ^^^ a.toNat)) = a.toNat ^^^ (d.toNat * 2 ^ 24 ^^^ (c.toNat * 2 ^ 16 ^^^ b.toNat * 2 ^ 8)) by
    rw [← Nat.xor_assoc (c.toNat * 2 ^ 16), ← Nat.xor_assoc, Nat.xor_comm]]
  rw [← Nat.xor_assoc r, mvN_xor 8 (r ^^^ a.toNat), mvN_xor 8 (d.toNat * 2 ^ 24), mvN_xor 8 (c.toNat * 2 ^ 16), s8 16, s8 8, s8 0, Nat.pow_zero, Nat.mul_one]
  rw [show d.toNat * 2 ^ 16 ^^^ (c.toNat * 2 ^ 8 ^^^ b.toNat) = b.toNat ^^^ (d.toNat * 2 ^ 16 ^^^ c.toNat * 2 ^ 8) by
    rw [← Nat.xor_assoc, Nat.xor_comm]]
  rw [← Nat.xor_assoc _ b.toNat, mvN_xor 8 _ (d.toNat * 2 ^ 16 ^^^ c.toNat * 2 ^ 8), mvN_xor 8 (d.toNat * 2 ^ 16), s8 8, s8 0, Nat.pow_zero, Nat.mul_one]
  rw [Nat.xor_comm (d.toNat * 2 ^ 8), ← Nat.xor_assoc _ c.toNat, mvN_xor 8 _ (d.toNat * 2 ^ 8), s8 0, Nat.pow_zero, Nat.mul_one]
end Go.Proofs.Ytohpjbhjcgihkaa.M
