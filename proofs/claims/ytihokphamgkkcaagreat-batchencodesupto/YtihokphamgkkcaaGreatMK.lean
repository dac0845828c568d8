/- Texts of the proof, put together: KMath, KProd, KLeaf, KPro, KRow, KTab, KMore, KRs. -/
import Derived.Test.YtihokphamgkkcaaGreatRows
import Derived.WalkKit
import Derived.WalkSpells
import Derived.WalkLawsBesides
import Derived.Deep.LoopGhost
import Derived.Laws.ResultCell
import Derived.Deep.WholeRow
import Derived.Deep.Cut
namespace Go.Proofs.YtihokphamgkkcaaGreat.K.M

/-- One move of a register. -/
def mv (r : Nat) : Nat := if r % 2 = 1 then r / 2 ^^^ 2197175160 else r / 2
/-- So many moves. -/
def mvN : Nat → Nat → Nat
  | 0, r => r
  | n + 1, r => mvN n (mv r)

theorem mv_lt {r : Nat} (h : r < 4294967296) : mv r < 4294967296 := by
  unfold mv
  split
  · exact Nat.xor_lt_two_pow (n := 32) (by omega) (by omega)
  · omega
theorem mvN_lt : ∀ (n : Nat) {r : Nat}, r < 4294967296 → mvN n r < 4294967296
  | 0, _, h => h
  | n + 1, _, h => mvN_lt n (mv_lt h)
theorem xor_div2 (a b : Nat) : (a ^^^ b) / 2 = a / 2 ^^^ b / 2 := by
  simpa using (Nat.xor_div_two_pow (a := a) (b := b) (n := 1))
theorem xor_mod2 (a b : Nat) : (a ^^^ b) % 2 = (a + b) % 2 := by
  have h : (a ^^^ b) % 2 = a % 2 ^^^ b % 2 := by simpa using (Nat.xor_mod_two_pow (a := a) (b := b) (n := 1))
  rcases Nat.mod_two_eq_zero_or_one a with ha | ha <;> rcases Nat.mod_two_eq_zero_or_one b with hb | hb <;> rw [h, ha, hb] <;> simp <;> omega
theorem mv_xor (a b : Nat) : mv (a ^^^ b) = mv a ^^^ mv b := by
  unfold mv
  rw [xor_mod2, xor_div2]
  rcases Nat.mod_two_eq_zero_or_one a with ha | ha <;> rcases Nat.mod_two_eq_zero_or_one b with hb | hb
  · rw [if_neg (by omega), if_neg (by omega), if_neg (by omega)]
  · rw [if_pos (by omega), if_neg (by omega), if_pos (by omega), Nat.xor_assoc]
  · rw [if_pos (by omega), if_pos (by omega), if_neg (by omega), Nat.xor_assoc, Nat.xor_assoc, Nat.xor_comm (b / 2)]
  · rw [if_neg (by omega), if_pos (by omega), if_pos (by omega)]
    rw [Nat.xor_assoc, Nat.xor_comm 2197175160, Nat.xor_assoc, Nat.xor_self, Nat.xor_zero]
theorem mvN_xor : ∀ (n a b : Nat), mvN n (a ^^^ b) = mvN n a ^^^ mvN n b
  | 0, _, _ => rfl
  | n + 1, a, b => by show mvN n (mv (a ^^^ b)) = _; rw [mv_xor, mvN_xor n]; rfl
theorem mv_zero : mv 0 = 0 := rfl
theorem mvN_zero : ∀ n, mvN n 0 = 0
  | 0 => rfl
  | n + 1 => mvN_zero n
theorem mvN_add : ∀ (m n r : Nat), mvN (m + n) r = mvN n (mvN m r)
  | 0, n, r => by simp [mvN]
  | m + 1, n, r => by rw [Nat.add_right_comm]; exact mvN_add m n (mv r)
theorem mvN_one (r : Nat) : mvN 1 r = mv r := rfl
theorem mvN_succ (n r : Nat) : mvN (n + 1) r = mv (mvN n r) := mvN_add n 1 r

/-- Back by one move. -/
def bk (r : Nat) : Nat := if 2147483648 ≤ r then (r ^^^ 2197175160) * 2 % 4294967296 + 1 else r * 2 % 4294967296
def bkN : Nat → Nat → Nat
  | 0, r => r
  | n + 1, r => bkN n (bk r)
theorem bk_lt {r : Nat} : bk r < 4294967296 := by
  unfold bk; split <;> omega
theorem bkN_lt : ∀ (n : Nat) {r : Nat}, r < 4294967296 → bkN n r < 4294967296
  | 0, _, h => h
  | n + 1, _, _ => bkN_lt n bk_lt
theorem high_xor {r : Nat} (h : r < 4294967296) : (2147483648 ≤ r ^^^ 2197175160) ↔ r < 2147483648 := by
  have hx : r ^^^ 2197175160 < 4294967296 := Nat.xor_lt_two_pow (n := 32) h (by omega)
  have e : (r ^^^ 2197175160) / 2147483648 = r / 2147483648 ^^^ 2197175160 / 2147483648 := by
    simpa using (Nat.xor_div_two_pow (a := r) (b := 2197175160) (n := 31))
  have h2 : 2197175160 / 2147483648 = 1 := by decide
  rw [h2] at e
  have h3 : r / 2147483648 = 0 ∨ r / 2147483648 = 1 := by omega
  rcases h3 with h3 | h3
  · rw [h3] at e
    have : (0 ^^^ 1 : Nat) = 1 := rfl
    omega
  · rw [h3] at e
    have : (1 ^^^ 1 : Nat) = 0 := rfl
    omega
theorem xor_twice (a b : Nat) : a ^^^ b ^^^ b = a := by rw [Nat.xor_assoc, Nat.xor_self, Nat.xor_zero]
theorem bk_mv {r : Nat} (h : r < 4294967296) : bk (mv r) = r := by
  unfold mv
  split
  · have hh := (high_xor (r := r / 2) (by omega)).2 (by omega)
    unfold bk
    rw [if_pos hh, xor_twice]; omega
  · unfold bk
    rw [if_neg (by omega)]; omega
theorem mv_bk {r : Nat} (h : r < 4294967296) : mv (bk r) = r := by
  unfold bk
  split
  · next hr =>
    have hh := (high_xor h)
    have hx : r ^^^ 2197175160 < 4294967296 := Nat.xor_lt_two_pow (n := 32) h (by omega)
    have hlow : r ^^^ 2197175160 < 2147483648 := by
      rcases Nat.lt_or_ge (r ^^^ 2197175160) 2147483648 with h1 | h1
      · exact h1
      · have := hh.1 h1; omega
    have e : (r ^^^ 2197175160) * 2 % 4294967296 + 1 = (r ^^^ 2197175160) * 2 + 1 := by omega
    rw [e]
    unfold mv
    rw [if_pos (by omega)]
    have e2 : ((r ^^^ 2197175160) * 2 + 1) / 2 = r ^^^ 2197175160 := by omega
    rw [e2, xor_twice]
  · have e : r * 2 % 4294967296 = r * 2 := by omega
    rw [e]
    unfold mv
    rw [if_neg (by omega)]; omega
theorem mvN_bkN : ∀ (n : Nat) {r : Nat}, r < 4294967296 → mvN n (bkN n r) = r
  | 0, _, _ => rfl
  | n + 1, r, h => by
    rw [mvN_succ]
    show mv (mvN n (bkN n (bk r))) = r
    rw [mvN_bkN n bk_lt, mv_bk h]
theorem bkN_mvN : ∀ (n : Nat) {r : Nat}, r < 4294967296 → bkN n (mvN n r) = r
  | 0, _, _ => rfl
  | n + 1, r, h => by
    rw [mvN_succ]
    show bkN n (bk (mv (mvN n r))) = r
    rw [bk_mv (mvN_lt n h), bkN_mvN n h]
theorem mvN_inj {n a b : Nat} (ha : a < 4294967296) (hb : b < 4294967296) (h : mvN n a = mvN n b) : a = b := by
  rw [← bkN_mvN n ha, h, bkN_mvN n hb]
theorem bkN_add : ∀ (m n r : Nat), bkN (m + n) r = bkN n (bkN m r)
  | 0, n, r => by simp [bkN]
  | m + 1, n, r => by rw [Nat.add_right_comm]; exact bkN_add m n (bk r)

/-- Taking a byte in. -/
def tk (r b : Nat) : Nat := mvN 8 (r ^^^ b)
theorem tk_lt {r b : Nat} (h : r < 4294967296) (hb : b < 256) : tk r b < 4294967296 := mvN_lt 8 (Nat.xor_lt_two_pow (n := 32) h (by omega))
theorem mvN_shift : ∀ (n q : Nat), mvN n (q * 2 ^ n) = q
  | 0, q => by simp [mvN]
  | n + 1, q => by
    show mvN n (mv (q * 2 ^ (n + 1))) = q
    have e : q * 2 ^ (n + 1) = q * 2 ^ n * 2 := by rw [Nat.pow_succ, Nat.mul_assoc]
    have : mv (q * 2 ^ (n + 1)) = q * 2 ^ n := by
      rw [e]; unfold mv; rw [if_neg (by omega)]; omega
    rw [this, mvN_shift n q]
/-- High and low parts laid together by exclusive-or. -/
theorem split_xor (n q l : Nat) (h : l < 2 ^ n) : q * 2 ^ n + l = (q * 2 ^ n) ^^^ l := by
  apply Nat.eq_of_testBit_eq
  intro i
  rw [Nat.testBit_xor, Nat.mul_comm, Nat.testBit_two_pow_mul_add q h i, Nat.testBit_two_pow_mul]
  by_cases hi : i < n
  · have : ¬ (n ≤ i) := by omega
    simp [hi, this]
  · have h1 : n ≤ i := by omega
    have h2 : l.testBit i = false := Nat.testBit_lt_two_pow (Nat.lt_of_lt_of_le h (Nat.pow_le_pow_right (by omega) h1))
    simp [hi, h1, h2]
theorem mvN_split (n r : Nat) : mvN n r = r / 2 ^ n ^^^ mvN n (r % 2 ^ n) := by
  have h := split_xor n (r / 2 ^ n) (r % 2 ^ n) (Nat.mod_lt _ (Nat.pow_pos (by omega)))
  have e : r = r / 2 ^ n * 2 ^ n + r % 2 ^ n := by rw [Nat.mul_comm]; exact (Nat.div_add_mod r (2 ^ n)).symm
  conv => lhs; rw [e, h, mvN_xor, mvN_shift]
/-- By the table. -/
theorem tk_table {r b : Nat} (hb : b < 256) : r / 256 ^^^ mvN 8 (r % 256 ^^^ b) = tk r b := by
  unfold tk
  rw [mvN_split 8 (r ^^^ b)]
  have e1 : (r ^^^ b) / 2 ^ 8 = r / 256 := by
    rw [Nat.xor_div_two_pow]
    have : b / 2 ^ 8 = 0 := by omega
    rw [this, Nat.xor_zero]
  have e2 : (r ^^^ b) % 2 ^ 8 = r % 256 ^^^ b := by
    rw [Nat.xor_mod_two_pow]
    have : b % 2 ^ 8 = b := by omega
    rw [this]
  rw [e1, e2]

/-- The register behind bytes. -/
def run (r : Nat) (l : List UInt8) : Nat := l.foldl (fun r b => tk r b.toNat) r
theorem run_nil (r : Nat) : run r [] = r := rfl
theorem run_cons (r : Nat) (b : UInt8) (l : List UInt8) : run r (b :: l) = run (tk r b.toNat) l := rfl
theorem run_append (r : Nat) (a b : List UInt8) : run r (a ++ b) = run (run r a) b := List.foldl_append
theorem run_snoc (r : Nat) (a : List UInt8) (b : UInt8) : run r (a ++ [b]) = tk (run r a) b.toNat := run_append r a [b]
theorem run_lt : ∀ (l : List UInt8) {r : Nat}, r < 4294967296 → run r l < 4294967296
  | [], _, h => h
  | b :: l, _, h => run_lt l (tk_lt h (by have := b.toNat_lt; omega))
def more (sum : Nat) (l : List UInt8) : Nat := run (sum ^^^ 4294967295) l ^^^ 4294967295
theorem ones_lt {a : Nat} (h : a < 4294967296) : a ^^^ 4294967295 < 4294967296 := Nat.xor_lt_two_pow (n := 32) h (by omega)
theorem more_lt {sum : Nat} (l : List UInt8) (h : sum < 4294967296) : more sum l < 4294967296 := ones_lt (run_lt l (ones_lt h))
theorem more_more (sum : Nat) (a b : List UInt8) : more (more sum a) b = more sum (a ++ b) := by
  unfold more; rw [xor_twice, run_append]
theorem more_nil (sum : Nat) : more sum [] = sum := xor_twice _ _

/-- Two registers that take the same in. -/
theorem run_xor : ∀ (l : List UInt8) (r q : Nat), run (r ^^^ q) l = run r l ^^^ mvN (8 * l.length) q
  | [], _, _ => rfl
  | b :: l, r, q => by
    rw [run_cons, run_cons]
    have e : tk (r ^^^ q) b.toNat = tk r b.toNat ^^^ mvN 8 q := by
      unfold tk; rw [Nat.xor_assoc, Nat.xor_comm q, ← Nat.xor_assoc, mvN_xor]
    rw [e, run_xor l, ← mvN_add]
    congr 2
    simp; omega
/-- The sum of two pieces of their sums. -/
theorem more_join (a : Nat) (l : List UInt8) : more a l = mvN (8 * l.length) a ^^^ more 0 l := by
  unfold more
  rw [Nat.zero_xor, Nat.xor_comm a, run_xor, Nat.xor_assoc, Nat.xor_comm (mvN _ _), ← Nat.xor_assoc, Nat.xor_comm]
theorem run_inj {l : List UInt8} {a b : Nat} (ha : a < 4294967296) (hb : b < 4294967296) (h : run a l = run b l) : a = b := by
  have e : run a l = run b l ^^^ mvN (8 * l.length) (b ^^^ a) := by rw [← run_xor, ← Nat.xor_assoc, Nat.xor_self, Nat.zero_xor]
  have e2 : mvN (8 * l.length) (b ^^^ a) = 0 := by
    have : run b l ^^^ (run b l ^^^ mvN (8 * l.length) (b ^^^ a)) = run b l ^^^ run b l := by rw [← e, h]
    rw [← Nat.xor_assoc, Nat.xor_self, Nat.zero_xor] at this; exact this
  have e3 : b ^^^ a = 0 := mvN_inj (Nat.xor_lt_two_pow (n := 32) hb ha) (by omega) (e2.trans (mvN_zero _).symm)
  have : b ^^^ a ^^^ a = 0 ^^^ a := by rw [e3]
  rw [xor_twice, Nat.zero_xor] at this
  exact this.symm
/-- Four bytes at once. -/
theorem run4 (r : Nat) (a b c d : UInt8) : run r [a, b, c, d] = mvN 32 (r ^^^ (a.toNat + b.toNat * 2 ^ 8 + c.toNat * 2 ^ 16 + d.toNat * 2 ^ 24)) := by
  have ha := a.toNat_lt; have hb := b.toNat_lt; have hc := c.toNat_lt; have hd := d.toNat_lt
  have e : a.toNat + b.toNat * 2 ^ 8 + c.toNat * 2 ^ 16 + d.toNat * 2 ^ 24 = d.toNat * 2 ^ 24 ^^^ (c.toNat * 2 ^ 16 ^^^ (b.toNat * 2 ^ 8 ^^^ a.toNat)) := by
    rw [← split_xor 8 b.toNat a.toNat (by omega), ← split_xor 16 c.toNat _ (by omega), ← split_xor 24 d.toNat _ (by omega)]
    omega
  have s8 (n q : Nat) : mvN 8 (q * 2 ^ (n + 8)) = q * 2 ^ n := by
    rw [Nat.pow_add, ← Nat.mul_assoc]; exact mvN_shift 8 _
  rw [e]
  simp only [run, List.foldl_cons, List.foldl_nil, tk]
  rw [show (32 : Nat) = 8 + (8 + (8 + 8)) from rfl, mvN_add, mvN_add, mvN_add]
  rw [show d.toNat * 2 ^ 24 ^^^ (c.toNat * 2 ^ 16 ^^^ (b.toNat * 2 ^ 8 ^^^ a.toNat)) = a.toNat ^^^ (d.toNat * 2 ^ 24 ^^^ (c.toNat * 2 ^ 16 ^^^ b.toNat * 2 ^ 8)) by
    rw [← Nat.xor_assoc (c.toNat * 2 ^ 16), ← Nat.xor_assoc, Nat.xor_comm]]
  rw [← Nat.xor_assoc r, mvN_xor 8 (r ^^^ a.toNat), mvN_xor 8 (d.toNat * 2 ^ 24), mvN_xor 8 (c.toNat * 2 ^ 16), s8 16, s8 8, s8 0, Nat.pow_zero, Nat.mul_one]
  rw [show d.toNat * 2 ^ 16 ^^^ (c.toNat * 2 ^ 8 ^^^ b.toNat) = b.toNat ^^^ (d.toNat * 2 ^ 16 ^^^ c.toNat * 2 ^ 8) by
    rw [← Nat.xor_assoc, Nat.xor_comm]]
  rw [← Nat.xor_assoc _ b.toNat, mvN_xor 8 _ (d.toNat * 2 ^ 16 ^^^ c.toNat * 2 ^ 8), mvN_xor 8 (d.toNat * 2 ^ 16), s8 8, s8 0, Nat.pow_zero, Nat.mul_one]
  rw [Nat.xor_comm (d.toNat * 2 ^ 8), ← Nat.xor_assoc _ c.toNat, mvN_xor 8 _ (d.toNat * 2 ^ 8), s8 0, Nat.pow_zero, Nat.mul_one]
end Go.Proofs.YtihokphamgkkcaaGreat.K.M
namespace Go.Proofs.YtihokphamgkkcaaGreat.K.M

/-- The table by powers of two. -/
theorem tab_step {k i : Nat} (h : i < 2 ^ k) : mvN 8 (2 ^ k + i) = mvN 8 (2 ^ k) ^^^ mvN 8 i := by
  have := split_xor k 1 i h
  rw [Nat.one_mul] at this
  rw [this, mvN_xor]

/-- The product, the highest power first. -/
def prodF : Nat → Nat → Nat → Nat
  | 0, _, _ => 0
  | f + 1, a, b => (if 2147483648 ≤ a then b else 0) ^^^ prodF f (a * 2 % 4294967296) (mv b)
theorem prodF_zero : ∀ (f b : Nat), prodF f 0 b = 0
  | 0, _ => rfl
  | f + 1, b => by
    show (if 2147483648 ≤ 0 then b else 0) ^^^ prodF f (0 * 2 % 4294967296) (mv b) = 0
    rw [if_neg (by omega), Nat.zero_mul, Nat.zero_mod, prodF_zero f]; rfl
theorem prodF_mv : ∀ (f a b : Nat), prodF f a (mv b) = mv (prodF f a b)
  | 0, _, _ => by show 0 = mv 0; exact mv_zero.symm
  | f + 1, a, b => by
    show (if 2147483648 ≤ a then mv b else 0) ^^^ prodF f (a * 2 % 4294967296) (mv (mv b)) = mv ((if 2147483648 ≤ a then b else 0) ^^^ prodF f (a * 2 % 4294967296) (mv b))
    rw [mv_xor, prodF_mv f]
    split
    · rfl
    · rfl
theorem prodF_mvN : ∀ (k f a b : Nat), prodF f a (mvN k b) = mvN k (prodF f a b)
  | 0, _, _, _ => rfl
  | k + 1, f, a, b => by
    rw [mvN_succ, prodF_mv, prodF_mvN k, ← mvN_succ]
theorem mv_pow (f : Nat) : mv (2 ^ (f + 1)) = 2 ^ f := by
  have h := mvN_shift 1 (2 ^ f)
  rw [mvN_one] at h
  rw [Nat.pow_succ]
  simpa using h
theorem prodF_one : ∀ (f c : Nat), f ≤ 31 → c < 2 ^ (f + 1) → prodF (f + 1) (c * 2 ^ (31 - f)) (2 ^ f) = c
  | 0, c, _, hc => by
    have : c = 0 ∨ c = 1 := by omega
    rcases this with rfl | rfl <;> rfl
  | f + 1, c, hf, hc => by
    show (if 2147483648 ≤ c * 2 ^ (31 - (f + 1)) then 2 ^ (f + 1) else 0) ^^^ prodF (f + 1) (c * 2 ^ (31 - (f + 1)) * 2 % 4294967296) (mv (2 ^ (f + 1))) = c
    have e1 : c * 2 ^ (31 - (f + 1)) * 2 = c * 2 ^ (31 - f) := by
      rw [Nat.mul_assoc, ← Nat.pow_succ]; congr 2; omega
    have e32 : 4294967296 = 2 ^ (f + 1) * 2 ^ (31 - f) := by
      rw [← Nat.pow_add, show f + 1 + (31 - f) = 32 by omega]
    have e31 : 2147483648 = 2 ^ (f + 1) * 2 ^ (31 - (f + 1)) := by
      rw [← Nat.pow_add, show f + 1 + (31 - (f + 1)) = 31 by omega]
    have e2 : c * 2 ^ (31 - f) % 4294967296 = c % 2 ^ (f + 1) * 2 ^ (31 - f) := by
      rw [e32, Nat.mul_mod_mul_right]
    have hq := Nat.div_add_mod c (2 ^ (f + 1))
    have hm := Nat.mod_lt c (Nat.pow_pos (n := f + 1) (show 0 < 2 by omega))
    rw [e1, e2, mv_pow, prodF_one f (c % 2 ^ (f + 1)) (by omega) hm]
    have hp := split_xor (f + 1) 1 (c % 2 ^ (f + 1)) hm
    have hpp : 0 < 2 ^ (31 - (f + 1)) := Nat.pow_pos (by omega)
    by_cases h : 2 ^ (f + 1) ≤ c
    · have hd : c / 2 ^ (f + 1) = 1 := by
        rw [Nat.div_eq_iff (Nat.pow_pos (by omega))]
        rw [Nat.pow_succ] at hc
        omega
      rw [if_pos (by rw [e31]; exact Nat.mul_le_mul_right _ h)]
      rw [hd] at hq
      rw [Nat.one_mul] at hp
      rw [← hp]; omega
    · have hd : c / 2 ^ (f + 1) = 0 := Nat.div_eq_of_lt (by omega)
      rw [if_neg (by rw [e31]; intro hh; exact h (Nat.le_of_mul_le_mul_right hh hpp)), Nat.zero_xor]
      rw [hd] at hq
      omega
/-- A product with a power of the polynomial x. -/
theorem prod_pow {a : Nat} (k : Nat) (h : a < 4294967296) : prodF 32 a (mvN k 2147483648) = mvN k a := by
  rw [prodF_mvN]
  have := prodF_one 31 a (by omega) (by omega)
  simp only [Nat.sub_self, Nat.pow_zero, Nat.mul_one] at this
  rw [this]

/-- What a matrix makes of a register's lowest bits. -/
def mo (m : Nat → Nat) (r : Nat) : Nat → Nat
  | 0 => 0
  | i + 1 => if r / 2 ^ i % 2 = 1 then mo m r i ^^^ m i else mo m r i
theorem mo_lin (k r : Nat) : ∀ i, mo (fun i => mvN k (2 ^ i)) r i = mvN k (r % 2 ^ i)
  | 0 => by simp [mo, Nat.mod_one, mvN_zero]
  | i + 1 => by
    show (if r / 2 ^ i % 2 = 1 then mo (fun i => mvN k (2 ^ i)) r i ^^^ mvN k (2 ^ i) else mo (fun i => mvN k (2 ^ i)) r i) = _
    have hm := Nat.mod_lt r (Nat.pow_pos (n := i) (show 0 < 2 by omega))
    have e : r % 2 ^ (i + 1) = r % 2 ^ i + 2 ^ i * (r / 2 ^ i % 2) := by rw [Nat.pow_succ, Nat.mod_mul]
    rw [mo_lin k r i]
    split
    · next h =>
      rw [e, h, Nat.mul_one]
      have hp := split_xor i 1 (r % 2 ^ i) hm
      rw [Nat.one_mul] at hp
      rw [Nat.add_comm, hp, mvN_xor, Nat.xor_comm]
    · next h =>
      have : r / 2 ^ i % 2 = 0 := by omega
      rw [e, this, Nat.mul_zero, Nat.add_zero]
theorem mo_all (k : Nat) {r : Nat} (h : r < 4294967296) : mo (fun i => mvN k (2 ^ i)) r 32 = mvN k r := by
  rw [mo_lin, Nat.mod_eq_of_lt (by omega)]
theorem pow32_lt {i : Nat} (h : i < 32) : 2 ^ i < 4294967296 := by
  have := Nat.pow_lt_pow_right (a := 2) (by omega) h
  omega
theorem mo_lt (m : Nat → Nat) (hm : ∀ i, i < 32 → m i < 4294967296) (r : Nat) : ∀ i, i ≤ 32 → mo m r i < 4294967296
  | 0, _ => by show 0 < _; omega
  | i + 1, h => by
    unfold mo
    have := mo_lt m hm r i (by omega)
    split
    · exact Nat.xor_lt_two_pow (n := 32) this (hm i (by omega))
    · exact this

/-- What n bytes 00 make of a register. -/
def zer (n r : Nat) : Nat := mvN (8 * n) r
theorem zer_add (m n r : Nat) : zer (m + n) r = zer n (zer m r) := by unfold zer; rw [Nat.mul_add, mvN_add]
theorem zer_zero (r : Nat) : zer 0 r = r := rfl
theorem zer_nul (n : Nat) : zer n 0 = 0 := mvN_zero _
theorem zer_lt {n r : Nat} (h : r < 4294967296) : zer n r < 4294967296 := mvN_lt _ h
def join (a b n : Nat) : Nat := zer n a ^^^ b
theorem join_lt {a b n : Nat} (ha : a < 4294967296) (hb : b < 4294967296) : join a b n < 4294967296 := Nat.xor_lt_two_pow (n := 32) (zer_lt ha) hb
theorem xor_left (a b : Nat) : a ^^^ (a ^^^ b) = b := by rw [← Nat.xor_assoc, Nat.xor_self, Nat.zero_xor]

/-- The four bytes. -/
def need (sum want : Nat) : Nat := bkN 32 (want ^^^ 4294967295) ^^^ sum ^^^ 4294967295
theorem need_lt {sum want : Nat} (hs : sum < 4294967296) (hw : want < 4294967296) : need sum want < 4294967296 :=
  ones_lt (Nat.xor_lt_two_pow (n := 32) (bkN_lt 32 (ones_lt hw)) hs)
def four (n : Nat) : List UInt8 := [UInt8.ofNat n, UInt8.ofNat (n / 256), UInt8.ofNat (n / 65536), UInt8.ofNat (n / 16777216)]
theorem run_four (r n : Nat) (h : n < 4294967296) : run r (four n) = mvN 32 (r ^^^ n) := by
  unfold four
  rw [run4]
  congr 2
  simp only [UInt8.toNat_ofNat']
  omega
theorem fix_more {sum want : Nat} (hs : sum < 4294967296) (hw : want < 4294967296) : more sum (four (need sum want)) = want := by
  unfold more
  rw [run_four _ _ (need_lt hs hw)]
  unfold need
  rw [show sum ^^^ 4294967295 ^^^ (bkN 32 (want ^^^ 4294967295) ^^^ sum ^^^ 4294967295) = bkN 32 (want ^^^ 4294967295) by
    rw [Nat.xor_assoc (bkN _ _), Nat.xor_comm (bkN _ _), ← Nat.xor_assoc, Nat.xor_self, Nat.zero_xor]]
  rw [mvN_bkN 32 (ones_lt hw), xor_twice]
theorem four_inj {a b : Nat} (ha : a < 4294967296) (hb : b < 4294967296) (h : four a = four b) : a = b := by
  have e := run_four 0 a ha
  rw [h, run_four 0 b hb, Nat.zero_xor, Nat.zero_xor] at e
  exact (mvN_inj hb ha e).symm
theorem need_inj {sum a b : Nat} (ha : a < 4294967296) (hb : b < 4294967296) (hs : sum < 4294967296) (h : four (need sum a) = four (need sum b)) : a = b := by
  rw [← fix_more hs ha, h, fix_more hs hb]
end Go.Proofs.YtihokphamgkkcaaGreat.K.M
namespace Go.Proofs.YtihokphamgkkcaaGreat.K
open Go.RowKit
theorem ret_int {k : IntKind} {a b : Int} (h : a = b) : Ending.returned (.int k a) = .returned (.int k b) := by rw [h]
theorem and_one {X : Nat} (h : X < 4294967296) : bits BinOp.and IntKind.u32 (X : Int) 1 = ((X % 2 : Nat) : Int) := by
  have := u32_and_nat X 1 h (by omega)
  rw [Nat.and_one_is_mod] at this
  exact this
theorem mv_odd {X : Nat} (h : X < 4294967296) (ho : X % 2 = 1) : bits BinOp.xor IntKind.u32 ((X : Int) / 2) 2197175160 = ((M.mv X : Nat) : Int) := by
  have := u32_xor_nat (X / 2) 2197175160 (by omega) (by omega)
  unfold M.mv
  rw [if_pos ho]
  exact this
theorem mv_even {X : Nat} (ho : X % 2 = 0) : (X : Int) / 2 = ((M.mv X : Nat) : Int) := by
  unfold M.mv
  rw [if_neg (by omega)]
  rfl
set_option maxHeartbeats 1000000 in
set_option maxRecDepth 20000 in
theorem on_any (r n : Nat) (w : World) (hr : r < 4294967296) (hn : n ≤ 4294967296) :
    Calls Tryz.prog 134 #[.int .u32 r, .int .i64 n] w fun e w' => e = .returned (.int .u32 (M.mvN n r : Nat)) ∧ w' = w := by
  go_enter Tryz.func134, Tryz.ntmps134
  go_wp2
  go_loop [0, 6] (fun v i => ∃ k X : Nat, k ≤ n ∧ X < 4294967296 ∧ i = .int .i64 k ∧ v = .int .u32 X ∧ M.mvN n r = M.mvN (n - k) X) (fun _ i => n - (intOf i).toNat)
  case atStart => exact ⟨0, r, by omega, hr, rfl, rfl, rfl⟩
  case round =>
    obtain ⟨k, X, hk, hX, rfl, rfl, hd⟩ := hrel
    have HD : Hid (M.mvN n r = M.mvN (n - k) X) := hd
    clear hd
    by_cases hlt : k < n
    · have hnk : n - k = n - (k + 1) + 1 := by omega
      have HS : Hid (M.mvN n r = M.mvN (n - (k + 1)) (M.mv X)) := by show M.mvN n r = _; rw [HD.out, hnk]; rfl
      have hlt2 := M.mv_lt hX
      clear hnk HD
      have ha := and_one hX
      rcases Nat.mod_two_eq_zero_or_one X with ho | ho
      · rw [ho] at ha
        have hx := mv_even ho
        go_wp2
        exact ⟨⟨k + 1, M.mv X, by omega, hlt2, rfl, rfl, HS⟩, by simp [intOf]; omega⟩
      · rw [ho] at ha
        have hx := mv_odd hX ho
        go_wp2
        exact ⟨⟨k + 1, M.mv X, by omega, hlt2, rfl, rfl, HS⟩, by simp [intOf]; omega⟩
    · obtain rfl : k = n := by omega
      go_wp2
      go_ret
      exact ⟨ret_int (by rw [HD.out, Nat.sub_self]; rfl), rfl⟩
theorem and_high {X : Nat} (h : X < 4294967296) : bits BinOp.and IntKind.u32 (X : Int) 2147483648 = if 2147483648 ≤ X then 2147483648 else 0 := by
  have h1 := u32_and_nat X 2147483648 h (by omega)
  rw [show ((2147483648 : Nat) : Int) = 2147483648 from rfl] at h1
  rw [h1]
  have h2 : X &&& 2147483648 = if 2147483648 ≤ X then 2147483648 else 0 := by
    have h3 : X.testBit 31 = decide (2147483648 ≤ X) := by
      rw [Nat.testBit_eq_decide_div_mod_eq]
      congr 1
      apply propext
      omega
    have h5 (i : Nat) : Nat.testBit 2147483648 i = decide (31 = i) := Nat.testBit_two_pow (n := 31)
    apply Nat.eq_of_testBit_eq
    intro i
    rw [Nat.testBit_and, h5]
    by_cases h4 : 2147483648 ≤ X
    · rw [if_pos h4, h5]
      by_cases hi : 31 = i
      · subst hi
        rw [h3]; simp [h4]
      · simp [hi]
    · rw [if_neg h4]
      by_cases hi : 31 = i
      · subst hi
        rw [h3]; simp [h4]
      · simp [hi]
  rw [h2]
  split <;> rfl
theorem or_low {x : Int} (h0 : 0 ≤ x) (h1 : x < 4294967296) (he : x % 2 = 0) : bits BinOp.or IntKind.u32 x 1 = x + 1 := by
  obtain ⟨X, rfl⟩ := Int.eq_ofNat_of_zero_le h0
  have := u32_or_nat X 1 (by omega) (by omega)
  rw [show ((1 : Nat) : Int) = 1 from rfl] at this
  rw [this]
  have h2 := nat_join 1 X 1 (by omega) (by omega)
  rw [h2]; rfl
theorem bk_high {X : Nat} (h : X < 4294967296) (ho : 2147483648 ≤ X) : bits BinOp.or IntKind.u32 (bits BinOp.xor IntKind.u32 (X : Int) 2197175160 * 2 % 4294967296) 1 = ((M.bk X : Nat) : Int) := by
  have h1 := u32_xor_nat X 2197175160 h (by omega)
  rw [show ((2197175160 : Nat) : Int) = 2197175160 from rfl] at h1
  rw [h1, or_low (by omega) (by omega) (by omega)]
  unfold M.bk
  rw [if_pos ho]
  omega
theorem bk_lowr {X : Nat} (ho : ¬ 2147483648 ≤ X) : IntKind.u32.wrap ((X : Int) * 2) = ((M.bk X : Nat) : Int) := by
  rw [IntKind.wrap_u32']
  unfold M.bk
  rw [if_neg ho]
  omega
end Go.Proofs.YtihokphamgkkcaaGreat.K
namespace Go.Proofs.YtihokphamgkkcaaGreat.K
open Go.RowKit
theorem xor_nat {A B : Nat} (ha : A < 4294967296) (hb : B < 4294967296) : bits BinOp.xor IntKind.u32 (A : Int) (B : Int) = ((A ^^^ B : Nat) : Int) := u32_xor_nat A B ha hb
theorem xlt {A B : Nat} (ha : A < 4294967296) (hb : B < 4294967296) : A ^^^ B < 4294967296 := Nat.xor_lt_two_pow (n := 32) ha hb
end Go.Proofs.YtihokphamgkkcaaGreat.K
namespace Go.Proofs.YtihokphamgkkcaaGreat.K
open Go.RowKit
/-- Nothing that was there has turned but what S names. -/
structure Ch (S : Nat → Prop) (w w' : World) : Prop where
  os : w'.os = w.os
  tape : w'.tape = w.tape
  output : w'.output = w.output
  size : w.heap.size ≤ w'.heap.size
  block : ∀ k, k < w.heap.size → ¬ S k → w'.heap[k]? = w.heap[k]?
theorem Ch.refl (S : Nat → Prop) (w : World) : Ch S w w := ⟨rfl, rfl, rfl, Nat.le_refl _, fun _ _ _ => rfl⟩
theorem Ch.trans {S : Nat → Prop} {a b c : World} (h : Ch S a b) (k : Ch S b c) : Ch S a c :=
  ⟨k.os.trans h.os, k.tape.trans h.tape, k.output.trans h.output, Nat.le_trans h.size k.size, fun i hi hs => (k.block i (Nat.lt_of_lt_of_le hi h.size) hs).trans (h.block i hi hs)⟩
/-- Behind one step another whose blocks are S's or new. -/
theorem Ch.then {S T : Nat → Prop} {a b c : World} (h : Ch S a b) (k : Ch T b c) (hT : ∀ i, i < a.heap.size → T i → S i) : Ch S a c :=
  ⟨k.os.trans h.os, k.tape.trans h.tape, k.output.trans h.output, Nat.le_trans h.size k.size, fun i hi hs => (k.block i (Nat.lt_of_lt_of_le hi h.size) (fun ht => hs (hT i hi ht))).trans (h.block i hi hs)⟩
theorem Ch.mono {S T : Nat → Prop} {a b : World} (h : Ch S a b) (hT : ∀ i, i < a.heap.size → S i → T i) : Ch T a b :=
  ⟨h.os, h.tape, h.output, h.size, fun i hi hs => h.block i hi (fun hs' => hs (hT i hi hs'))⟩
theorem Ch.of_below {S : Nat → Prop} {a b : World} (h : Below a.heap.size a b) : Ch S a b := ⟨h.os, h.tape, h.output, h.size, fun i hi _ => h.block i hi⟩
theorem Ch.below {S : Nat → Prop} {a b : World} {B : Nat} (h : Ch S a b) (hB : B ≤ a.heap.size) (hS : ∀ i, i < B → ¬ S i) : Below B a b := ⟨h.os, h.tape, h.output, h.size, fun i hi => h.block i (by omega) (hS i hi)⟩
theorem Ch.drew {S : Nat → Prop} {a b : World} (h : Ch S a b) : Ch S a b.drew := ⟨h.os, h.tape, h.output, h.size, h.block⟩
theorem Ch.alloc {S : Nat → Prop} {a b : World} (h : Ch S a b) (o : Obj) : Ch S a (b.alloc o) :=
  ⟨h.os, h.tape, h.output, by have := h.size; simp; omega, fun i hi hs => (Below.heap_alloc b o i (by have := h.size; omega)).trans (h.block i hi hs)⟩
theorem Ch.setCell {S : Nat → Prop} {a b : World} (h : Ch S a b) (p : Addr) (v : Value) (hp : p.block < a.heap.size → S p.block) : Ch S a (b.setCell p v) :=
  ⟨h.os, h.tape, h.output, by have := h.size; simp [World.setCell]; omega, fun i hi hs => (Below.heap_setCell b p v i (fun e => hs (e ▸ hp (e ▸ hi)))).trans (h.block i hi hs)⟩
theorem Ch.drewN {S : Nat → Prop} {a b : World} (h : Ch S a b) (n : Nat) : Ch S a (b.drewN n) := by
  refine h.trans ⟨rfl, rfl, rfl, Nat.le_refl _, fun _ _ _ => rfl⟩

theorem lt_of_heap {w : World} {b : Nat} {o : Obj} (h : w.heap[b]? = some o) : b < w.heap.size := by
  rcases Nat.lt_or_ge b w.heap.size with h1 | h1
  · exact h1
  · rw [Array.getElem?_eq_none h1] at h; cases h
theorem heap_alloc_at {w : World} {b : Nat} {o o' : Obj} (h : w.heap[b]? = some o) : (w.alloc o').heap[b]? = some o := by rw [Below.heap_alloc w o' b (lt_of_heap h), h]
theorem heap_new (w : World) (o : Obj) : (w.alloc o).heap[w.heap.size]? = some o := by show (w.heap.push o)[w.heap.size]? = _; simp
theorem heap_set_far {w : World} {b : Nat} {o : Obj} {p : Addr} {v : Value} (h : w.heap[b]? = some o) (hp : b ≠ p.block) : (w.setCell p v).heap[b]? = some o := by rw [Below.heap_setCell w p v b hp, h]
theorem heap_set {w : World} {b i : Nat} {c : Array Value} {T : TypeId} {fz : Nat × Nat} {v : Value} (h : w.heap[b]? = some (.cells c T fz)) : (w.setCell ⟨b, i, none⟩ v).heap[b]? = some (.cells (c.setIfInBounds i v) T fz) := by
  simp only [World.setCell, Array.getElem?_modify, if_true, h]
  rfl
theorem cell_of {w : World} {b i : Nat} {c : Array Value} {T : TypeId} {fz : Nat × Nat} (h : w.heap[b]? = some (.cells c T fz)) : w.cell? ⟨b, i, none⟩ = c[i]? := by simp [World.cell?, h]
theorem froz_of {w : World} {b i : Nat} {c : Array Value} {T : TypeId} (h : w.heap[b]? = some (.cells c T (0, 0))) : w.frozen? ⟨b, i, none⟩ = false := by simp [World.frozen?, h]


theorem ch_bel {S : Nat → Prop} {a b c : World} {B : Nat} (h : Below B a b) (hc : Ch S b c) (hB : B ≤ b.heap.size) (hS : ∀ i, i < B → ¬ S i) : Below B a c := h.trans (hc.below hB hS)
/-- Behind a world that has grown, another. -/
theorem bel_bel {a b c : World} {B : Nat} (h : Below B a b) (k : Below b.heap.size b c) (hB : B ≤ b.heap.size) : Below B a c := h.trans (k.mono hB)
theorem heap_new' (w : World) (o : Obj) (n : Nat) (h : w.heap.size = n) : (w.alloc o).heap[n]? = some o := by subst h; exact heap_new _ _
theorem heap_setRow_far (w : World) (g k : Nat) (c : Array Value) (h : k ≠ g) : (w.setRow g c).heap[k]? = w.heap[k]? := by
  simp only [World.setRow, Array.getElem?_modify]
  rw [if_neg (fun e => h e.symm)]
theorem size_setRow (w : World) (g : Nat) (c : Array Value) : (w.setRow g c).heap.size = w.heap.size := by simp [World.setRow]
theorem bel_setRow {B g : Nat} {a w : World} (h : Below B a w) (hg : B ≤ g) (c : Array Value) : Below B a (w.setRow g c) :=
  ⟨h.os, h.tape, h.output, by rw [size_setRow]; exact h.size, fun k hk => (heap_setRow_far w g k c (by omega)).trans (h.block k hk)⟩
/-- A load and a store of a whole array, as one step. -/
theorem oper_load {P : Program} {a : Act} {w : World} {next : Act → World → Prop} {Q : Exit → Act → World → Prop} {o : Oper} {t : TypeId} {x : Operand} {v : Value}
    (ho : o.op = .load t x) (h : (Instr.loadAt t (a.eval x)).run P w = .ok v w) (k : next (a.put o.dst v) w) : o.wp P a w next Q := by
  simp only [Oper.wp, execOp, ho, Sem.run_bind, h, Result.andThen, Sem.run_pure]
  exact k
theorem oper_store {P : Program} {a : Act} {w w' : World} {next : Act → World → Prop} {Q : Exit → Act → World → Prop} {o : Oper} {t : TypeId} {x y : Operand}
    (ho : o.op = .store t x y) (h : (Instr.storeAt t (a.eval x) (a.eval y)).run P w = .ok () w') (k : next (a.put o.dst undef) w') : o.wp P a w next Q := by
  simp only [Oper.wp, execOp, ho, Sem.run_bind, h, Result.andThen, Sem.run_pure]
  exact k
theorem load_row {P : Program} {w : World} {g : Nat} {t ty e : TypeId} {cs : Array Value} {fr : Nat × Nat} {n : Nat} (hg : w.heap[g]? = some (.cells cs t fr)) (hu : P.underlying ty = some (.array n e)) (hi : (P.info? ty).map (·.size) = some cs.size) :
    (Instr.loadAt ty (.pointer (some ⟨g, 0, none⟩))).run P w = .ok (.agg cs) w := by
  simp only [Instr.loadAt, Instr.sureAddr, Sem.run_bind, Sem.run_pure, Result.andThen]
  exact run_loadVar_row w g t ty cs fr _ hg hu rfl hi
theorem store_row {P : Program} {w : World} {g : Nat} {t ty : TypeId} {old cs : Array Value} (hg : w.heap[g]? = some (.cells old t (0, 0))) (hi : (P.info? ty).map (·.size) = some cs.size) (ho : old.size = cs.size) (h1 : ∀ v ∈ cs, v.oneCell' = true) :
    (Instr.storeAt ty (.pointer (some ⟨g, 0, none⟩)) (.agg cs)).run P w = .ok () (w.setRow g cs) := by
  simp only [Instr.storeAt, Instr.sureAddr, Sem.run_bind, Sem.run_pure, Result.andThen]
  exact run_storeVar_row w g t ty old cs hg hi ho (Array.all_eq_true_iff_forall_mem.2 h1)
theorem results_cell {fn : Func} {p : Tmp} {ty : TypeId} (h : fn.results = #[.cell p ty]) (tmps : Array Value) (P : Program) (w : World) :
    (results fn tmps).run P w = ((asAddr (tmps.getD p undef)).run P w).andThen fun a w1 => (loadVar ty a).run P w1 := by
  simp only [results, h]
  simp [Sem.run_bind, Result.andThen]
theorem results_ptr {fn : Func} {p : Tmp} {ty : TypeId} {tmps : Array Value} {P : Program} {w : World} {a : Addr} {v : Value} (h : fn.results = #[.cell p ty]) (hp : tmps.getD p undef = .pointer (some a)) (hl : (loadVar ty a).run P w = .ok v w) :
    (results fn tmps).run P w = .ok v w := by
  rw [results_cell h, hp]
  simp [asAddr, Result.andThen, hl]
end Go.Proofs.YtihokphamgkkcaaGreat.K
namespace Go.Proofs.YtihokphamgkkcaaGreat.K
open Go.RowKit
theorem Tryz.infoTab : (Tryz.prog.info? 137).map (fun i => (i.zero, i.size)) = some (some (.agg (Array.replicate 256 (.int .u32 0))), 256) := by kernel_rfl
/-- The table's first K elements stand. -/
def Upto (c : Array Value) (K : Nat) : Prop := c.size = 256 ∧ (∀ i, i < K → c[i]? = some (.int .u32 (M.mvN 8 i : Nat))) ∧ ∀ v ∈ c, v.oneCell' = true
theorem Upto.step {c : Array Value} {K : Nat} (h : Upto c K) (hK : K < 256) {v : Value} (hv : v = .int .u32 (M.mvN 8 K : Nat)) : Upto (c.setIfInBounds K v) (K + 1) := by
  obtain ⟨h1, h2, h3⟩ := h
  refine ⟨by simpa using h1, ?_, ?_⟩
  · intro i hi
    rw [Array.getElem?_setIfInBounds]
    by_cases he : K = i
    · subst he
      rw [if_pos rfl, if_pos (by omega), hv]
    · rw [if_neg he]; exact h2 i (by omega)
  · intro u hu
    rcases Array.mem_or_eq_of_mem_setIfInBounds hu with h | h
    · exact h3 u h
    · rw [h, hv]; rfl
set_option maxHeartbeats 4000000 in
set_option maxRecDepth 1000000 in
theorem table_any (w : World) :
    Calls Tryz.prog 93 #[] w fun e w' => ∃ c, e = .returned (.agg c) ∧ Upto c 256 ∧ Below w.heap.size w w' := by
  have hv := (zero_of_info Tryz.infoTab).1
  have hi := (zero_of_info Tryz.infoTab).2
  go_enter Tryz.func93, Tryz.ntmps93
  go_wp2
  have hz : Upto (Array.replicate 256 (.int .u32 0)) 1 := by
    refine ⟨by simp, ?_, ?_⟩
    · intro i h
      obtain rfl : i = 0 := by omega
      rfl
    · intro v hv
      rw [Array.mem_replicate] at hv
      rw [hv.2]; rfl
  have hzs : (Array.replicate 256 (Value.int .u32 0)).size = 256 := by simp
  generalize Array.replicate 256 (Value.int .u32 0) = z at *
  go_loopg [2] 8 (fun k u wr => ∃ c : Array Value, k ≤ 8 ∧ u = .int .i64 (2 ^ (8 - k) : Nat) ∧ Upto c (2 ^ (8 - k)) ∧ wr = (w.alloc (.cells z 137)).alloc (.cells c 137))
  case atStart => exact ⟨z, by omega, rfl, hz, rfl⟩
  case round =>
    obtain ⟨c, hk, rfl, hU, rfl⟩ := hrel
    by_cases h0 : gk = 0
    · subst h0
      have hU2 : Upto c 256 := hU
      have W2 : Hid (Below w.heap.size w (((w.alloc (.cells z 137)).alloc (.cells c 137)).setRow w.heap.size c)) := bel_setRow (((Below.refl _ w).alloc (Nat.le_refl _) _).alloc (by simp) _) (Nat.le_refl _) c
      have hg0 : ((w.alloc (.cells z 137)).alloc (.cells c 137)).heap[w.heap.size]? = some (.cells z 137 (0, 0)) := heap_alloc_at (heap_new w _)
      have hg1 : ((w.alloc (.cells z 137)).alloc (.cells c 137)).heap[w.heap.size + 1]? = some (.cells c 137 (0, 0)) := heap_new' _ _ _ (by simp)
      have hu : Tryz.prog.underlying 137 = some (.array 256 55) := by kernel_rfl
      have hsz : (Tryz.prog.info? 137).map (·.size) = some c.size := by rw [hU2.1]; exact hi
      have hld := load_row hg1 hu hsz
      have hst := store_row hg0 hsz (by rw [hU2.1]; exact hzs) hU2.2.2
      have hg2 := setRow_heap _ _ _ c _ _ hg0
      generalize (w.alloc (.cells z 137)).alloc (.cells c 137) = W at *
      have hld2 := run_loadVar_row _ _ _ _ _ _ _ hg2 hu rfl hsz
      generalize W.setRow w.heap.size c = V at *
      clear hg0 hg1 hg2 hv
      go_upto_region 11 with fail
      go_step
      go_step
      refine oper_load rfl hld ?_
      go_step
      go_step
      refine oper_store rfl hst ?_
      go_wp2
      exact bodyPost_ret (v := .agg c) (results_ptr rfl rfl hld2) rfl ⟨c, rfl, hU2, W2⟩
    · obtain ⟨g, rfl⟩ : ∃ g, gk = g + 1 := ⟨gk - 1, by omega⟩
      obtain ⟨p, hp⟩ : ∃ p, p = 2 ^ (8 - (g + 1)) := ⟨_, rfl⟩
      have hp1 : 1 ≤ p := by rw [hp]; exact Nat.pow_pos (by omega)
      have hp2 : p ≤ 128 := by
        rw [hp]; exact Nat.pow_le_pow_right (n := 2) (i := 8 - (g + 1)) (j := 7) (by omega) (by omega)
      have HP : Hid (p = 2 ^ (8 - (g + 1))) := hp
      have HT : Hid (∀ j, j < p → M.mvN 8 (p + j) = M.mvN 8 p ^^^ M.mvN 8 j) := by
        intro j hj
        rw [hp]; rw [hp] at hj; exact M.tab_step hj
      have hpl := M.mvN_lt 8 (r := p) (by omega)
      rw [← hp] at hU
      rw [← hp]
      clear hp
      have hU' : Upto c (p + 0) := hU
      clear hU
      have hon := on_any p 8 ((w.alloc (.cells z 137)).alloc (.cells c 137)) (by omega) (by omega)
      have hw1 : (p : Int) % 4294967296 = p := by omega
      go_wp2_with fail
      refine hon.mono ?_
      rintro e w1 ⟨rfl, rfl⟩
      go_wp2_with fail
      go_loopg [13] p (fun k u wr => ∃ (c : Array Value) (j : Nat), j + k = p ∧ u = .int .i64 j ∧ Upto c (p + j) ∧ wr = (w.alloc (.cells z 137)).alloc (.cells c 137))
      case atStart => exact ⟨c, 0, by omega, rfl, hU', rfl⟩
      case round =>
        clear hU' hon
        obtain ⟨c, j, hj, rfl, hU, rfl⟩ := hrel
        by_cases hlt : j < p
        · obtain ⟨k, rfl⟩ : ∃ k, gk = k + 1 := ⟨gk - 1, by omega⟩
          have hcell : ((w.alloc (.cells z 137)).alloc (.cells c 137)).cell? ⟨w.heap.size + 1, j, none⟩ = some (.int .u32 (M.mvN 8 j : Nat)) :=
            (cell_of (heap_new' (w.alloc (.cells z 137)) (.cells c 137) _ (by simp))).trans (hU.2.1 j (by omega))
          have hjl := M.mvN_lt 8 (r := j) (by omega)
          have hx := xor_nat hpl hjl
          rw [← HT.out j hlt] at hx
          have hUs := hU.step (by omega) rfl
          have hcj : c[j]? = some (.int .u32 (M.mvN 8 j : Nat)) := hU.2.1 j (by omega)
          obtain ⟨v0, hv0⟩ : ∃ v0, c[p + j]? = some v0 := ⟨c[p + j]'(by rw [hU.1]; omega), Array.getElem?_eq_getElem _⟩
          go_wp2_with fail
          go_roundg k
          case measure => omega
          case rel => exact ⟨_, j + 1, by omega, by first | rfl | simp, hUs, by first | rfl | simp⟩
        · obtain rfl : j = p := by omega
          go_wp2_with fail
          go_roundg g
          case measure => omega
          case rel =>
            have e : 2 ^ (8 - g) = j + j := by
              rw [HP.out, ← Nat.two_mul, ← Nat.pow_succ']; congr 1; omega
            rw [e]
            exact ⟨c, by omega, by first | rfl | (congr 1; omega), hU, rfl⟩
end Go.Proofs.YtihokphamgkkcaaGreat.K
namespace Go.Proofs.YtihokphamgkkcaaGreat.K
open Go.RowKit
theorem xor_mask {A : Nat} (h : A < 4294967296) : bits BinOp.xor IntKind.u32 (A : Int) 4294967295 = ((A ^^^ 4294967295 : Nat) : Int) := u32_xor_nat A 4294967295 h (by omega)
theorem data_at (s : ByteArray) (i : Nat) (h : i < s.size) : s.data.toList.drop i = s[i] :: s.data.toList.drop (i + 1) := by
  have : i < s.data.toList.length := by simpa using h
  rw [List.drop_eq_getElem_cons this]
  rfl
set_option maxHeartbeats 4000000 in
set_option maxRecDepth 1000000 in
theorem more_any (sum : Nat) (s : ByteArray) (w : World) (h : sum < 4294967296) (hs : s.size ≤ 9223372036854775807) :
    Calls Tryz.prog 50 #[.int .u32 sum, .string s] w fun e w' => e = .returned (.int .u32 (M.more sum s.data.toList : Nat)) ∧ Below w.heap.size w w' := by
  have hv := (zero_of_info Tryz.infoTab).1
  have hi := (zero_of_info Tryz.infoTab).2
  have hx := xor_mask h
  have hx1 := M.ones_lt h
  have HM : Hid (M.more sum s.data.toList = M.run (sum ^^^ 4294967295) s.data.toList ^^^ 4294967295) := rfl
  generalize M.more sum s.data.toList = R at *
  generalize sum ^^^ 4294967295 = r0 at *
  have htab := table_any w
  go_enter Tryz.func50, Tryz.ntmps50
  go_wp2_with fail
  refine htab.mono ?_
  rintro e w1 ⟨c, rfl, hU, hb1⟩
  have hsz := hU.1
  have hsc := run_storeCells_new (P := Tryz.prog) w1 137 (Array.replicate 256 (.int .u32 0)) c (by rw [hsz]; exact hi) (by simp [hsz]) (Array.all_eq_true_iff_forall_mem.2 hU.2.2)
  have HU : Hid (Upto c 256) := hU
  clear hU htab
  go_wp2_with fail
  clear hsc hv hi hsz
  have hb2 : Below w.heap.size w (w1.alloc (.cells c 137)) := hb1.alloc hb1.size _
  have hg : (w1.alloc (.cells c 137)).heap[w1.heap.size]? = some (.cells c 137 (0, 0)) := heap_new _ _
  have HC : Hid (∀ i, i < 256 → (w1.alloc (.cells c 137)).cell? ⟨w1.heap.size, i, none⟩ = some (.int .u32 (M.mvN 8 i : Nat))) := fun i hi => (cell_of hg).trans (HU.out.2.1 i hi)
  generalize w1.alloc (.cells c 137) = V at *
  generalize w1.heap.size = b at *
  clear hg hb1 HU
  go_loopg [6, 13] s.size (fun k u v wr => ∃ (i r : Nat), i + k = s.size ∧ r < 4294967296 ∧ u = .int .u32 r ∧ v = .int .i64 i ∧ Hid (M.run r0 s.data.toList = M.run r (s.data.toList.drop i)) ∧ wr = V)
  case atStart => exact ⟨0, r0, by omega, hx1, rfl, rfl, rfl, rfl⟩
  case round =>
    obtain ⟨i, r, hk, hr, rfl, rfl, HD, rfl⟩ := hrel
    by_cases hlt : i < s.size
    · obtain ⟨k, rfl⟩ : ∃ k, gk = k + 1 := ⟨gk - 1, by omega⟩
      have HN : Hid (M.run r0 s.data.toList = M.run (M.tk r s[i].toNat) (s.data.toList.drop (i + 1))) := by
        show M.run r0 s.data.toList = _
        rw [HD.out, data_at s i hlt, M.run_cons]
      have hb := s[i].toNat_lt
      have hI : r % 256 ^^^ s[i].toNat < 256 := Nat.xor_lt_two_pow (n := 8) (by omega) hb
      have hx8 := u8_xor_nat (r % 256) s[i].toNat (by omega) hb
      have hcv : (r : Int) % 256 = ((r % 256 : Nat) : Int) := by omega
      have hq : (r : Int) / 256 = ((r / 256 : Nat) : Int) := by omega
      have htl := M.tk_lt hr hb
      have hcell := HC.out _ hI
      have hx9 := xor_nat (A := r / 256) (by omega) (M.mvN_lt 8 (r := r % 256 ^^^ s[i].toNat) (by omega))
      rw [M.tk_table hb] at hx9
      clear HD
      generalize r % 256 ^^^ s[i].toNat = I at *
      generalize r % 256 = m at *
      generalize r / 256 = q at *
      generalize M.tk r s[i].toNat = T at *
      go_wp2_with fail
      go_roundg k
      case measure => omega
      case rel => exact ⟨i + 1, T, by omega, htl, by first | rfl | simp, by first | rfl | simp, HN, rfl⟩
    · obtain rfl : i = s.size := by omega
      have hd : M.run r0 s.data.toList = r := by
        rw [HD.out, List.drop_eq_nil_of_le (by simp), M.run_nil]
      have hx9 := xor_mask hr
      have HR : Hid (R = r ^^^ 4294967295) := by show R = _; rw [HM.out, hd]
      clear hd
      go_wp2_with fail
      go_ret
      exact ⟨ret_int (by rw [HR.out]), hb2⟩
set_option maxHeartbeats 1000000 in
theorem sum_any (s : ByteArray) (w : World) (hs : s.size ≤ 9223372036854775807) :
    Calls Tryz.prog 51 #[.string s] w fun e w' => e = .returned (.int .u32 (M.more 0 s.data.toList : Nat)) ∧ Below w.heap.size w w' := by
  have h := more_any 0 s w (by omega) hs
  generalize M.more 0 s.data.toList = R at *
  go_enter Tryz.func51, Tryz.ntmps51
  go_wp2_with fail
  refine h.mono ?_
  rintro e w1 ⟨rfl, hb⟩
  go_wp2_with fail
  go_ret
  exact ⟨rfl, hb⟩
end Go.Proofs.YtihokphamgkkcaaGreat.K
namespace Go.Proofs.YtihokphamgkkcaaGreat.K
open Go.RowKit
set_option maxHeartbeats 1000000 in
set_option maxRecDepth 20000 in
theorem rtake_any (r b : Nat) (w : World) (hr : r < 4294967296) (hb : b < 256) :
    Calls Tryz.prog 101 #[.int .u32 r, .int .u8 b] w fun e w' => e = .returned (.int .u32 (M.tk r b : Nat)) ∧ w' = w := by
  have hx := xor_nat hr (show b < 4294967296 by omega)
  have hxl := xlt hr (show b < 4294967296 by omega)
  have HR : Hid (M.tk r b = M.mvN 8 (r ^^^ b)) := rfl
  generalize M.tk r b = R at *
  generalize r ^^^ b = r0 at *
  go_enter Tryz.func101, Tryz.ntmps101
  go_wp2
  go_loop [0, 5] (fun v i => ∃ k X : Nat, k ≤ 8 ∧ X < 4294967296 ∧ i = .int .i64 k ∧ v = .int .u32 X ∧ M.mvN 8 r0 = M.mvN (8 - k) X) (fun _ i => 8 - (intOf i).toNat)
  case atStart => exact ⟨0, r0, by omega, hxl, rfl, rfl, rfl⟩
  case round =>
    obtain ⟨k, X, hk, hX, rfl, rfl, hd⟩ := hrel
    have HD : Hid (M.mvN 8 r0 = M.mvN (8 - k) X) := hd
    clear hd
    by_cases hlt : k < 8
    · have hlt' : (k : Int) < 8 := by omega
      have hnk : 8 - k = 8 - (k + 1) + 1 := by omega
      have HS : Hid (M.mvN 8 r0 = M.mvN (8 - (k + 1)) (M.mv X)) := by show M.mvN 8 r0 = _; rw [HD.out, hnk]; rfl
      have hlt2 := M.mv_lt hX
      clear hnk HD
      have ha := and_one hX
      rcases Nat.mod_two_eq_zero_or_one X with ho | ho
      · rw [ho] at ha
        have hx := mv_even ho
        go_wp2
        exact ⟨⟨k + 1, M.mv X, by omega, hlt2, rfl, rfl, HS⟩, by simp [intOf]; omega⟩
      · rw [ho] at ha
        have hx := mv_odd hX ho
        go_wp2
        exact ⟨⟨k + 1, M.mv X, by omega, hlt2, rfl, rfl, HS⟩, by simp [intOf]; omega⟩
    · obtain rfl : k = 8 := by omega
      go_wp2
      go_ret
      exact ⟨ret_int (by rw [HR.out, HD.out, Nat.sub_self]; rfl), rfl⟩
set_option maxHeartbeats 4000000 in
set_option maxRecDepth 20000 in
theorem rmore_any (sum : Nat) (s : ByteArray) (w : World) (h : sum < 4294967296) (hs : s.size ≤ 9223372036854775807) :
    Calls Tryz.prog 64 #[.int .u32 sum, .string s] w fun e w' => e = .returned (.int .u32 (M.more sum s.data.toList : Nat)) ∧ w' = w := by
  have hx := xor_mask h
  have hx1 := M.ones_lt h
  have HM : Hid (M.more sum s.data.toList = M.run (sum ^^^ 4294967295) s.data.toList ^^^ 4294967295) := rfl
  generalize M.more sum s.data.toList = R at *
  generalize sum ^^^ 4294967295 = r0 at *
  go_enter Tryz.func64, Tryz.ntmps64
  go_wp2_with fail
  go_loopg [5, 6] s.size (fun k u v wr => ∃ (i r : Nat), i + k = s.size ∧ r < 4294967296 ∧ u = .int .u32 r ∧ v = .int .i64 i ∧ Hid (M.run r0 s.data.toList = M.run r (s.data.toList.drop i)) ∧ wr = w)
  case atStart => exact ⟨0, r0, by omega, hx1, rfl, rfl, rfl, rfl⟩
  case round =>
    obtain ⟨i, r, hk, hr, rfl, rfl, HD, rfl⟩ := hrel
    by_cases hlt : i < s.size
    · obtain ⟨k, rfl⟩ : ∃ k, gk = k + 1 := ⟨gk - 1, by omega⟩
      have HN : Hid (M.run r0 s.data.toList = M.run (M.tk r s[i].toNat) (s.data.toList.drop (i + 1))) := by
        show M.run r0 s.data.toList = _
        rw [HD.out, data_at s i hlt, M.run_cons]
      have hb := s[i].toNat_lt
      have htl := M.tk_lt hr hb
      have ct := rtake_any r s[i].toNat wr hr hb
      clear HD
      generalize M.tk r s[i].toNat = T at *
      go_wp2_with fail
      refine ct.mono ?_
      rintro e w1 ⟨rfl, rfl⟩
      go_wp2_with fail
      go_roundg k
      case measure => omega
      case rel => exact ⟨i + 1, T, by omega, htl, by first | rfl | simp, by first | rfl | simp, HN, rfl⟩
    · obtain rfl : i = s.size := by omega
      have hd : M.run r0 s.data.toList = r := by
        rw [HD.out, List.drop_eq_nil_of_le (by simp), M.run_nil]
      have hx9 := xor_mask hr
      have HR : Hid (R = r ^^^ 4294967295) := by show R = _; rw [HM.out, hd]
      clear hd
      go_wp2_with fail
      go_ret
      exact ⟨ret_int (by rw [HR.out]), rfl⟩
set_option maxHeartbeats 1000000 in
theorem rsum_any (s : ByteArray) (w : World) (hs : s.size ≤ 9223372036854775807) :
    Calls Tryz.prog 33 #[.string s] w fun e w' => e = .returned (.int .u32 (M.more 0 s.data.toList : Nat)) ∧ w' = w := by
  have h := rmore_any 0 s w (by omega) hs
  generalize M.more 0 s.data.toList = R at *
  go_enter Tryz.func33, Tryz.ntmps33
  go_wp2_with fail
  refine h.mono ?_
  rintro e w1 ⟨rfl, rfl⟩
  go_wp2_with fail
  go_ret
  exact ⟨rfl, rfl⟩
end Go.Proofs.YtihokphamgkkcaaGreat.K
