/- The program's bucket of a place and how far two places are alike: what they answer. -/
import Derived.Test.YtdkfenmhfkggdaaWld
import Derived.Deep.QuietTactic
import Derived.BigQuiet
namespace Go.Proofs.Ytdkfenmhfkggdaa
open Go.RowKit
def hvI (a b c d : UInt8) : Int := bits BinOp.or IntKind.u32 (bits BinOp.or IntKind.u32 (bits BinOp.or IntKind.u32 ((a.toNat : Int) % 4294967296 * 16777216 % 4294967296) ((b.toNat : Int) % 4294967296 * 65536 % 4294967296)) ((c.toNat : Int) % 4294967296 * 256 % 4294967296)) ((d.toNat : Int) % 4294967296) * 2654435769 % 4294967296 / 524288
theorem hvI_bd (a b c d : UInt8) : 0 ≤ hvI a b c d ∧ hvI a b c d < 8192 := by
  unfold hvI
  generalize bits BinOp.or IntKind.u32 (bits BinOp.or IntKind.u32 (bits BinOp.or IntKind.u32 ((a.toNat : Int) % 4294967296 * 16777216 % 4294967296) ((b.toNat : Int) % 4294967296 * 65536 % 4294967296)) ((c.toNat : Int) % 4294967296 * 256 % 4294967296)) ((d.toNat : Int) % 4294967296) = x
  omega
/-- The bucket of a place; where too few bytes are left, none. -/
def hh (l : List UInt8) (q : Nat) : Nat := if q + 4 ≤ l.length then (hvI (M.by_ l q) (M.by_ l (q + 1)) (M.by_ l (q + 2)) (M.by_ l (q + 3))).toNat else 8192
theorem hh_lt {l : List UInt8} {q : Nat} (h : q + 4 ≤ l.length) : hh l q < 8192 := by
  unfold hh
  rw [if_pos h]
  have := hvI_bd (M.by_ l q) (M.by_ l (q + 1)) (M.by_ l (q + 2)) (M.by_ l (q + 3))
  omega
theorem hh_end {l : List UInt8} {q : Nat} (h : ¬ q + 4 ≤ l.length) : hh l q = 8192 := by
  unfold hh
  rw [if_neg h]
/-- Four bytes alike: one bucket. -/
theorem hh_alk {l : List UInt8} {a b m : Nat} (ha : a + 4 ≤ l.length) (hb : b + 4 ≤ l.length) (h : 4 ≤ M.alk l m a b) : hh l a = hh l b := by
  unfold hh
  rw [if_pos ha, if_pos hb]
  have e0 := M.alk_eq l m a b 0 (by omega)
  have e1 := M.alk_eq l m a b 1 (by omega)
  have e2 := M.alk_eq l m a b 2 (by omega)
  have e3 := M.alk_eq l m a b 3 (by omega)
  rw [Nat.add_zero, Nat.add_zero] at e0
  rw [e0, e1, e2, e3]
set_option maxHeartbeats 1000000 in
set_option maxRecDepth 20000 in
theorem bucket_any (s : ByteArray) (p : Nat) (w : World) (hs : s.size ≤ 9223372036854775807) (hp : p + 4 ≤ s.size) :
    Calls Try.prog 35 #[.string s, .int .i64 p] w fun e w' => e = .returned (.int .u32 (hh s.data.toList p : Nat)) ∧ Qt w w' := by
  have HH : Hid ((hh s.data.toList p : Int) = hvI s[p] s[p + 1] s[p + 2] s[p + 3]) := by
    show (hh s.data.toList p : Int) = _
    unfold hh
    rw [if_pos (by simpa using hp), at_ s p, at_ s (p + 1), at_ s (p + 2), at_ s (p + 3)]
    have := hvI_bd (M.by_ s.data.toList p) (M.by_ s.data.toList (p + 1)) (M.by_ s.data.toList (p + 2)) (M.by_ s.data.toList (p + 3))
    omega
  generalize hh s.data.toList p = R at *
  have h0 : p < s.size := by omega
  obtain ⟨p1, q1⟩ : ∃ q, q = p + 1 := ⟨_, rfl⟩
  obtain ⟨p2, q2⟩ : ∃ q, q = p + 2 := ⟨_, rfl⟩
  obtain ⟨p3, q3⟩ : ∃ q, q = p + 3 := ⟨_, rfl⟩
  have h1 : p1 < s.size := by omega
  have h2 : p2 < s.size := by omega
  have h3 : p3 < s.size := by omega
  have e1 : IntKind.i64.wrap ((p : Int) + 1) = (p1 : Int) := by rw [q1]; exact wrap_add (b := 1) (by omega)
  have e2 : IntKind.i64.wrap ((p : Int) + 2) = (p2 : Int) := by rw [q2]; exact wrap_add (b := 2) (by omega)
  have e3 : IntKind.i64.wrap ((p : Int) + 3) = (p3 : Int) := by rw [q3]; exact wrap_add (b := 3) (by omega)
  have H2 : Hid ((R : Int) = hvI s[p] s[p1] s[p2] s[p3]) := by
    subst q1 q2 q3
    exact HH.out
  clear q1 q2 q3 HH
  go_enter Try.func35, Try.ntmps35
  go_wp2
  go_quiet (fail)
  go_wp2
  go_ret
  exact ⟨ret_int H2.out.symm, (Qt.refl _).drewN _⟩
set_option maxHeartbeats 1000000 in
set_option maxRecDepth 20000 in
theorem alike_any (s : ByteArray) (a b m : Nat) (w : World) (hs : s.size ≤ 9223372036854775807) (ha : a + m ≤ s.size) (hb : b + m ≤ s.size) :
    Calls Try.prog 36 #[.string s, .int .i64 a, .int .i64 b, .int .i64 m] w fun e w' => e = .returned (.int .i64 (M.alk s.data.toList m a b : Nat)) ∧ Qt w w' := by
  go_enter Try.func36, Try.ntmps36
  go_wp2
  go_loopw [9] (fun i wr => ∃ k : Nat, k ≤ m ∧ i = .int .i64 k ∧ Hid (∀ j, j < k → M.by_ s.data.toList (a + j) = M.by_ s.data.toList (b + j)) ∧ Qt w wr) (fun i _ => m - (intOf i).toNat)
  case atStart => exact ⟨0, by omega, rfl, fun j hj => by omega, Qt.refl _⟩
  case round =>
    obtain ⟨k, hk, rfl, HK, hq⟩ := hrel
    by_cases hlt : k < m
    · obtain ⟨x, hx⟩ : ∃ x, x = a + k := ⟨_, rfl⟩
      obtain ⟨y, hy⟩ : ∃ y, y = b + k := ⟨_, rfl⟩
      have h1 : x < s.size := by omega
      have h2 : y < s.size := by omega
      have e1 : IntKind.i64.wrap ((a : Int) + k) = (x : Int) := by rw [hx]; exact wrap_add (by omega)
      have e2 : IntKind.i64.wrap ((b : Int) + k) = (y : Int) := by rw [hy]; exact wrap_add (by omega)
      have d1 : decide ((k : Int) < m) = true := by simp; omega
      have f1 : s[x] = M.by_ s.data.toList (a + k) := by rw [at_ s x h1, hx]
      have f2 : s[y] = M.by_ s.data.toList (b + k) := by rw [at_ s y h2, hy]
      by_cases he : s[x] = s[y]
      · have HK' : Hid (∀ j, j < k + 1 → M.by_ s.data.toList (a + j) = M.by_ s.data.toList (b + j)) := by
          intro j hj
          by_cases hjk : j = k
          · rw [hjk, ← f1, ← f2]; exact he
          · exact HK.out j (by omega)
        have he2 : (((s[x].toNat : Nat) : Int) == ((s[y].toNat : Nat) : Int)) = true := by rw [he]; simp
        clear he f1 f2 hx hy
        go_wp2
        go_quiet (fail)
        go_wp2
        go_roundw
        case rel => exact ⟨k + 1, by omega, by go_num, HK', hq.drewN _⟩
        case measure => simp [intOf]; omega
      · have hA : M.alk s.data.toList m a b = k := M.alk_is (by omega) HK.out (fun _ => by rw [← f1, ← f2]; exact he)
        have he2 : (((s[x].toNat : Nat) : Int) == ((s[y].toNat : Nat) : Int)) = false := by
          rw [beq_eq_false_iff_ne]
          intro h
          exact he (UInt8.toNat_inj.1 (by omega))
        have HA := hid hA
        clear he f1 f2 hx hy hA
        go_wp2
        go_quiet (fail)
        go_wp2
        go_ret
        exact ⟨ret_int (by rw [HA.out]), hq.drewN _⟩
    · have hA : M.alk s.data.toList m a b = k := M.alk_is (by omega) HK.out (fun h => absurd h hlt)
      have HA := hid hA
      have d1 : decide ((k : Int) < m) = false := by simp; omega
      clear hA
      go_wp2
      go_quiet (fail)
      go_wp2
      go_ret
      exact ⟨ret_int (by rw [HA.out]), hq.drewN _⟩
end Go.Proofs.Ytdkfenmhfkggdaa
