/- CrcTells' walk: a text in which up to 32 bits that stand together are turned has another sum; nothing that was there before is turned. -/
import Derived.Test.YtohpjbhjcgihkabTurned
namespace Go.Proofs.Ytohpjbhjcgihkab
open Go.RowKit Go.WideShapes
/-- The text with the four bytes turned. -/
def t4 (s : ByteArray) (a m : Nat) : ByteArray := tn (tn (tn (tn s a (m % 256)) (a + 1) (m / 256 % 256)) (a + 2) (m / 65536 % 256)) (a + 3) (m / 16777216)
theorem split4 (l : List UInt8) (a : Nat) (h : a + 4 ≤ l.length) : ∃ p b0 b1 b2 b3 q, l = p ++ b0 :: b1 :: b2 :: b3 :: q ∧ p.length = a := by
  have e := (List.take_append_drop a l).symm
  have hd : (l.drop a).length = l.length - a := by simp
  match hq : l.drop a with
  | b0 :: b1 :: b2 :: b3 :: q => exact ⟨l.take a, b0, b1, b2, b3, q, by rw [← hq]; exact e, by simp; omega⟩
  | [] => rw [hq] at hd; simp at hd; omega
  | [_] => rw [hq] at hd; simp at hd; omega
  | [_, _] => rw [hq] at hd; simp at hd; omega
  | [_, _, _] => rw [hq] at hd; simp at hd; omega
theorem set_at (p : List UInt8) (b x : UInt8) (q : List UInt8) (k : Nat) (h : p.length = k) : (p ++ b :: q).set k x = p ++ x :: q := by
  subst h; simp
theorem get_at (p : List UInt8) (b : UInt8) (q : List UInt8) (k : Nat) (h : p.length = k) : (p ++ b :: q).getD k 0 = b := by
  subst h; simp [List.getD]
theorem tn_at {s : ByteArray} {p : List UInt8} {b : UInt8} {q : List UInt8} {k : Nat} (m : Nat) (hs : s.data.toList = p ++ b :: q) (h : p.length = k) : (tn s k m).data.toList = p ++ UInt8.ofNat (b.toNat ^^^ m) :: q := by
  rw [tn_data, hs, get_at p b q k h, set_at p b _ q k h]
theorem t4_data {s : ByteArray} {p : List UInt8} {b0 b1 b2 b3 : UInt8} {q : List UInt8} {a : Nat} (m : Nat) (hs : s.data.toList = p ++ b0 :: b1 :: b2 :: b3 :: q) (h : p.length = a) :
    (t4 s a m).data.toList = p ++ UInt8.ofNat (b0.toNat ^^^ (m % 256)) :: UInt8.ofNat (b1.toNat ^^^ (m / 256 % 256)) :: UInt8.ofNat (b2.toNat ^^^ (m / 65536 % 256)) :: UInt8.ofNat (b3.toNat ^^^ (m / 16777216)) :: q := by
  have h1 := tn_at (m % 256) hs h
  have h2 := tn_at (s := tn s a (m % 256)) (p := p ++ [UInt8.ofNat (b0.toNat ^^^ (m % 256))]) (b := b1) (q := b2 :: b3 :: q) (k := a + 1) (m / 256 % 256) (by rw [h1, List.append_assoc]; rfl) (by simp [h])
  have h3 := tn_at (s := tn (tn s a (m % 256)) (a + 1) (m / 256 % 256)) (p := p ++ [UInt8.ofNat (b0.toNat ^^^ (m % 256)), UInt8.ofNat (b1.toNat ^^^ (m / 256 % 256))]) (b := b2) (q := b3 :: q) (k := a + 2) (m / 65536 % 256) (by rw [h2]; simp) (by simp [h])
  have h4 := tn_at (s := tn (tn (tn s a (m % 256)) (a + 1) (m / 256 % 256)) (a + 2) (m / 65536 % 256)) (p := p ++ [UInt8.ofNat (b0.toNat ^^^ (m % 256)), UInt8.ofNat (b1.toNat ^^^ (m / 256 % 256)), UInt8.ofNat (b2.toNat ^^^ (m / 65536 % 256))]) (b := b3) (q := q) (k := a + 3) (m / 16777216) (by rw [h3]; simp) (by simp [h])
  unfold t4
  rw [h4]; simp
theorem xor_back {b m : Nat} (h : b ^^^ m = b) : m = 0 := by
  have := M.xor_left b m
  rw [h, Nat.xor_self] at this
  exact this.symm
theorem t4_sum (s : ByteArray) (a m : Nat) (ha : a + 4 ≤ s.size) (hm : m < 4294967296) (h0 : m ≠ 0) : M.more 0 (t4 s a m).data.toList ≠ M.more 0 s.data.toList := by
  obtain ⟨p, b0, b1, b2, b3, q, hs, hp⟩ := split4 s.data.toList a (by simpa using ha)
  rw [t4_data m hs hp, hs]
  intro e
  unfold M.more at e
  have e1 : M.run (0 ^^^ 4294967295) (p ++ UInt8.ofNat (b0.toNat ^^^ (m % 256)) :: UInt8.ofNat (b1.toNat ^^^ (m / 256 % 256)) :: UInt8.ofNat (b2.toNat ^^^ (m / 65536 % 256)) :: UInt8.ofNat (b3.toNat ^^^ (m / 16777216)) :: q) = M.run (0 ^^^ 4294967295) (p ++ b0 :: b1 :: b2 :: b3 :: q) := by
    have h := congrArg (fun x => x ^^^ 4294967295) e
    simpa only [M.xor_twice] using h
  have c (x0 x1 x2 x3 : UInt8) : M.run (0 ^^^ 4294967295) (p ++ x0 :: x1 :: x2 :: x3 :: q) = M.run (M.run (M.run (0 ^^^ 4294967295) p) [x0, x1, x2, x3]) q := by
    rw [M.run_append]; rfl
  rw [c, c] at e1
  have lr : M.run (0 ^^^ 4294967295) p < 4294967296 := M.run_lt p (M.ones_lt (by omega))
  generalize M.run (0 ^^^ 4294967295) p = r at *
  have e2 := M.run_inj (M.run_lt _ lr) (M.run_lt _ lr) e1
  rw [M.run4, M.run4] at e2
  have hb0 := b0.toNat_lt; have hb1 := b1.toNat_lt; have hb2 := b2.toNat_lt; have hb3 := b3.toNat_lt
  have x0 : b0.toNat ^^^ (m % 256) < 2 ^ 8 := Nat.xor_lt_two_pow hb0 (by omega)
  have x1 : b1.toNat ^^^ (m / 256 % 256) < 2 ^ 8 := Nat.xor_lt_two_pow hb1 (by omega)
  have x2 : b2.toNat ^^^ (m / 65536 % 256) < 2 ^ 8 := Nat.xor_lt_two_pow hb2 (by omega)
  have x3 : b3.toNat ^^^ (m / 16777216) < 2 ^ 8 := Nat.xor_lt_two_pow hb3 (by omega)
  simp only [UInt8.toNat_ofNat', Nat.mod_eq_of_lt x0, Nat.mod_eq_of_lt x1, Nat.mod_eq_of_lt x2, Nat.mod_eq_of_lt x3] at e2
  have y0 := xor_back (b := b0.toNat) (m := m % 256)
  have y1 := xor_back (b := b1.toNat) (m := m / 256 % 256)
  have y2 := xor_back (b := b2.toNat) (m := m / 65536 % 256)
  have y3 := xor_back (b := b3.toNat) (m := m / 16777216)
  generalize b0.toNat ^^^ (m % 256) = z0 at *
  generalize b1.toNat ^^^ (m / 256 % 256) = z1 at *
  generalize b2.toNat ^^^ (m / 65536 % 256) = z2 at *
  generalize b3.toNat ^^^ (m / 16777216) = z3 at *
  have e3 := M.mvN_inj (Nat.xor_lt_two_pow (n := 32) lr (by omega)) (Nat.xor_lt_two_pow (n := 32) lr (by omega)) e2
  have e4 : z0 + z1 * 2 ^ 8 + z2 * 2 ^ 16 + z3 * 2 ^ 24 = b0.toNat + b1.toNat * 2 ^ 8 + b2.toNat * 2 ^ 16 + b3.toNat * 2 ^ 24 := by
    have h := congrArg (fun x => r ^^^ x) e3
    simpa only [M.xor_left] using h
  have := y0 (by omega); have := y1 (by omega); have := y2 (by omega); have := y3 (by omega)
  omega
theorem t4_size (s : ByteArray) (a m : Nat) : (t4 s a m).size = s.size := by
  unfold t4; rw [tn_size, tn_size, tn_size, tn_size]
end Go.Proofs.Ytohpjbhjcgihkab
