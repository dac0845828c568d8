/- Texts of the proof, put together: Reb, Bhm, Bsm, Bfl, Bhd, Brt, Bpk. -/
import Derived.Test.YtihokphamgkkcaaGreatWm
import Derived.Test.YtihokphamgkkcaaGreatOsz
import Derived.Deep.RegionHeld
import Derived.Deep.RegionHeld3
import Derived.Test.YtihokphamgkkcaaGreatSays
import Derived.Lib.MinMaxS
import Derived.Test.YtihokphamgkkcaaGreatRmC
import Derived.Test.YtihokphamgkkcaaGreatRmB
import Derived.Test.YtihokphamgkkcaaGreatRmA
import Derived.Test.YtihokphamgkkcaaGreatML1
namespace Go.Proofs.YtihokphamgkkcaaGreat
open Go.RowKit
theorem isoff_any (n : Int) (w : World) : Calls Tryz.prog 82 #[.int .i64 n] w fun e w' => e = .returned (.bool (decide (0 ≤ n ∧ n < 4611686018427387904))) ∧ w' = w := by
  by_cases h1 : 0 ≤ n
  · by_cases h2 : n < 4611686018427387904
    · rw [decide_eq_true ⟨h1, h2⟩]
      go_enter Tryz.func82, Tryz.ntmps82
      go_wp2
      go_ret
      exact ⟨rfl, rfl⟩
    · rw [decide_eq_false (fun h => h2 h.2)]
      go_enter Tryz.func82, Tryz.ntmps82
      go_wp2
      go_ret
      exact ⟨rfl, rfl⟩
  · rw [decide_eq_false (fun h => h1 h.1)]
    have h3 : n < 0 := by omega
    go_enter Tryz.func82, Tryz.ntmps82
    go_wp2
    go_ret
    exact ⟨rfl, rfl⟩
theorem isoff_yes (n : Int) (w : World) (h : 0 ≤ n ∧ n < 4611686018427387904) : Calls Tryz.prog 82 #[.int .i64 n] w fun e w' => e = .returned (.bool true) ∧ w' = w := by
  have := isoff_any n w
  rw [decide_eq_true h] at this
  exact this
theorem isoff_no (n : Int) (w : World) (h : ¬ (0 ≤ n ∧ n < 4611686018427387904)) : Calls Tryz.prog 82 #[.int .i64 n] w fun e w' => e = .returned (.bool false) ∧ w' = w := by
  have := isoff_any n w
  rw [decide_eq_false h] at this
  exact this
/-- Why a frame can't be moved, or 0; and the moved frame. -/
def rbe (s : ByteArray) (base : Int) : Nat := if s.size < 51 then 20 else if ¬ (0 ≤ base ∧ base < 4611686018427387904) then 1 else 0
def rbt (s : ByteArray) (base : Int) : ByteArray := if rbe s base = 0 then bs (nb 8 base.toNat) ++ s.extract 8 s.size else ⟨#[]⟩
end Go.Proofs.YtihokphamgkkcaaGreat
namespace Go.Proofs.YtihokphamgkkcaaGreat
open Go.RowKit
/-- The number that n bytes from k on say. -/
def num (s : ByteArray) (k n : Nat) : Nat := be (bl (s.extract k (k + n)))
theorem num_fx {s : ByteArray} {k n : Nat} (h : k + n ≤ s.size) : fx n s k 0 = (num s k n, k + n, 0) := fx_ok h
theorem num_lt {s : ByteArray} {k n : Nat} (h : k + n ≤ s.size) : num s k n < 256 ^ n := be_ext s k n h
theorem num_lt4 {s : ByteArray} {k : Nat} (h : k + 4 ≤ s.size) : num s k 4 < 4294967296 := by
  have := num_lt h
  rwa [show 256 ^ 4 = 4294967296 from by decide] at this
theorem num_lt2 {s : ByteArray} {k : Nat} (h : k + 2 ≤ s.size) : num s k 2 < 65536 := by
  have := num_lt h
  rwa [show 256 ^ 2 = 65536 from by decide] at this
theorem num_lt1 {s : ByteArray} {k : Nat} (h : k + 1 ≤ s.size) : num s k 1 < 256 := by
  have := num_lt h
  rwa [show 256 ^ 1 = 256 from by decide] at this
theorem num_lt8 {s : ByteArray} {k : Nat} (h : k + 8 ≤ s.size) : num s k 8 < 18446744073709551616 := by
  have := num_lt h
  rwa [show 256 ^ 8 = 18446744073709551616 from by decide] at this
/-- The numbers of a head. -/
structure Fs where
  base : Int
  len : Nat
  mark : Nat
  sum : Nat
  st : Nat
  cnt : Nat
  first : Int
  grt : Int
  prod : Int
  seq : Int
def fsOf (s : ByteArray) : Fs := ⟨wrap64 (num s 0 8), num s 8 4, num s 12 1, num s 13 4, num s 17 2, num s 19 4, wrap64 (num s 23 8), wrap64 (num s 31 8), wrap64 (num s 39 8), wrap32 (num s 47 4)⟩
/-- They stand in their kinds. -/
structure FsOk (f : Fs) : Prop where
  len : f.len < 4294967296
  mark : f.mark < 256
  sum : f.sum < 4294967296
  st : f.st < 65536
  cnt : f.cnt < 4294967296
  b1 : -9223372036854775808 ≤ f.base
  b2 : f.base ≤ 9223372036854775807
  f1 : -9223372036854775808 ≤ f.first
  f2 : f.first ≤ 9223372036854775807
  g1 : -9223372036854775808 ≤ f.grt
  g2 : f.grt ≤ 9223372036854775807
theorem wrap64_in (x : Int) : -9223372036854775808 ≤ wrap64 x ∧ wrap64 x ≤ 9223372036854775807 := by unfold wrap64; omega
theorem fsOf_ok {s : ByteArray} (h : 51 ≤ s.size) : FsOk (fsOf s) := by
  refine ⟨?_, ?_, ?_, ?_, ?_, (wrap64_in _).1, (wrap64_in _).2, (wrap64_in _).1, (wrap64_in _).2, (wrap64_in _).1, (wrap64_in _).2⟩
  · show num s 8 4 < 4294967296
    exact num_lt4 (by omega)
  · show num s 12 1 < 256
    exact num_lt1 (by omega)
  · show num s 13 4 < 4294967296
    exact num_lt4 (by omega)
  · show num s 17 2 < 65536
    exact num_lt2 (by omega)
  · show num s 19 4 < 4294967296
    exact num_lt4 (by omega)
def fsA (f : Fs) : Array Value := #[.int .i64 f.base, .int .u32 f.len, .int .u8 f.mark, .int .u32 f.sum, .int .u16 f.st, .int .u32 f.cnt, .int .i64 f.first, .int .i64 f.grt, .int .i64 f.prod, .int .i32 f.seq]
def fsV (f : Fs) : Value := .agg (fsA f)
def noFs : Value := .agg #[.int .i64 0, .int .u32 0, .int .u8 0, .int .u32 0, .int .u16 0, .int .u32 0, .int .i64 0, .int .i64 0, .int .i64 0, .int .i32 0]
def hdV (f : Fs) : Value := .agg #[.int .i64 f.base, .int .i64 (12 + f.len : Nat), .bool (decide (f.st = 1)), .int .i64 f.cnt, .int .i64 f.first, .int .i64 f.grt, .int .i64 f.prod, .int .i32 f.seq]
def noHd : Value := .agg #[.int .i64 0, .int .i64 0, .bool false, .int .i64 0, .int .i64 0, .int .i64 0, .int .i64 0, .int .i32 0]
/-- May a batch have this producer and this sequence? -/
def isPr (p q : Int) : Bool := decide ((p = -1 ∧ q = -1) ∨ (0 ≤ p ∧ 0 ≤ q))
structure Right (f : Fs) : Prop where
  mark : f.mark = 71
  st : f.st ≤ 1
  c1 : 1 ≤ f.cnt
  c2 : f.cnt ≤ 65536
  b : 0 ≤ f.base ∧ f.base < 4611686018427387904
  o : f.base ≤ 4611686018427387904 - f.cnt
  t : f.first ≤ f.grt
  p : isPr f.prod f.seq = true
  l1 : 46 ≤ f.len
  l2 : f.len ≤ 16777204
/-- May they be a head's? -/
def rgt (f : Fs) : Bool := decide (f.mark = 71) && decide (f.st ≤ 1) && decide (1 ≤ f.cnt) && decide (f.cnt ≤ 65536) && decide (0 ≤ f.base ∧ f.base < 4611686018427387904) && decide (f.base ≤ 4611686018427387904 - f.cnt) && decide (f.first ≤ f.grt) && isPr f.prod f.seq && decide (46 ≤ f.len) && decide (f.len ≤ 16777204)
theorem rgt_iff {f : Fs} : rgt f = true ↔ Right f := by
  unfold rgt
  simp only [Bool.and_eq_true, decide_eq_true_eq]
  constructor
  · rintro ⟨⟨⟨⟨⟨⟨⟨⟨⟨h1, h2⟩, h3⟩, h4⟩, h5⟩, h6⟩, h7⟩, h8⟩, h9⟩, h10⟩
    exact ⟨h1, h2, h3, h4, h5, h6, h7, h8, h9, h10⟩
  · rintro ⟨h1, h2, h3, h4, h5, h6, h7, h8, h9, h10⟩
    exact ⟨⟨⟨⟨⟨⟨⟨⟨⟨h1, h2⟩, h3⟩, h4⟩, h5⟩, h6⟩, h7⟩, h8⟩, h9⟩, h10⟩
/-- Why bytes don't begin with a head, or 0. -/
def pke (s : ByteArray) : Nat := if s.size < 51 then 20 else if rgt (fsOf s) = true then 0 else 28
/-- n, or the bound that it lies beyond. -/
def wth (n a b : Int) : Int := min (max n a) b
end Go.Proofs.YtihokphamgkkcaaGreat
namespace Go.Proofs.YtihokphamgkkcaaGreat
open Go.RowKit
theorem b6size_any (f : Fs) (w : World) (hf : FsOk f) : Calls Tryz.prog 67 #[fsV f] w fun e w' => e = .returned (.int .u64 (12 + f.len : Nat)) ∧ Below w.heap.size w w' := by
  have h1 := hf.len
  clear hf
  unfold fsV fsA
  go_enter Tryz.func67, Tryz.ntmps67
  go_wp2
  go_ret
  exact ⟨ret_int (by omega), (Below.refl _ _).alloc (Nat.le_refl _) _⟩
theorem b6within_any (n a b : Int) (w : World) : Calls Tryz.prog 69 #[.int .i64 n, .int .i64 a, .int .i64 b] w fun e w' => e = .returned (.int .i64 (wth n a b)) ∧ w' = w := by
  unfold wth
  go_enter Tryz.func69, Tryz.ntmps69
  go_wp2
  all_goals go_ret
  all_goals exact ⟨ret_int (by omega), rfl⟩
theorem ispr_any (p q : Int) (w : World) : Calls Tryz.prog 83 #[.int .i64 p, .int .i32 q] w fun e w' => e = .returned (.bool (isPr p q)) ∧ w' = w := by
  unfold isPr
  by_cases h1 : p = -1
  · by_cases h2 : q = -1
    · rw [decide_eq_true (Or.inl ⟨h1, h2⟩)]
      subst h1 h2
      go_enter Tryz.func83, Tryz.ntmps83
      go_wp2
      go_ret
      exact ⟨rfl, rfl⟩
    · rw [decide_eq_false (by omega)]
      subst h1
      go_enter Tryz.func83, Tryz.ntmps83
      go_wp2
      go_ret
      exact ⟨by simp [h2], rfl⟩
  · by_cases h2 : 0 ≤ p
    · by_cases h3 : 0 ≤ q
      · rw [decide_eq_true (Or.inr ⟨h2, h3⟩)]
        go_enter Tryz.func83, Tryz.ntmps83
        go_wp2
        go_ret
        exact ⟨rfl, rfl⟩
      · rw [decide_eq_false (by omega)]
        go_enter Tryz.func83, Tryz.ntmps83
        go_wp2
        go_ret
        exact ⟨rfl, rfl⟩
    · rw [decide_eq_false (by omega)]
      have h3 : p < 0 := by omega
      go_enter Tryz.func83, Tryz.ntmps83
      go_wp2
      go_ret
      exact ⟨rfl, rfl⟩
theorem haveoff_any (b : Int) (c : Nat) (w : World) (hc : c < 4294967296) : Calls Tryz.prog 84 #[.int .i64 b, .int .i64 c] w fun e w' => e = .returned (.bool (decide (b ≤ 4611686018427387904 - c))) ∧ w' = w := by
  by_cases h1 : b ≤ 4611686018427387904 - c
  · rw [decide_eq_true h1]
    go_enter Tryz.func84, Tryz.ntmps84
    go_wp2
    go_ret
    exact ⟨rfl, rfl⟩
  · rw [decide_eq_false h1]
    go_enter Tryz.func84, Tryz.ntmps84
    go_wp2
    go_ret
    exact ⟨rfl, rfl⟩
/-- A box that came in, the answer's block behind it; below them nothing has turned. -/
structure Bx2 (w : World) (b : Array Value) (T : TypeId) (r : Array Value) (U : TypeId) (x : World) : Prop where
  p : x.heap[w.heap.size]? = some (.cells b T (0, 0))
  q : x.heap[w.heap.size + 1]? = some (.cells r U (0, 0))
  b : Below w.heap.size w x
theorem Bx2.drew {w : World} {b : Array Value} {T : TypeId} {r : Array Value} {U : TypeId} {x : World} (h : Bx2 w b T r U x) : Bx2 w b T r U x.drew := ⟨h.p, h.q, h.b.drew⟩
theorem Bx2.new (w : World) (b : Array Value) (T : TypeId) (r : Array Value) (U : TypeId) : Bx2 w b T r U ((w.alloc (.cells b T)).alloc (.cells r U)) :=
  ⟨heap_alloc_at (heap_new _ _), heap_new' _ _ _ (by simp), ((Below.refl _ _).alloc (Nat.le_refl _) _).alloc (by simp) _⟩
theorem Bx2.call {w : World} {b : Array Value} {T : TypeId} {r : Array Value} {U : TypeId} {x x' : World} (h : Bx2 w b T r U x) (k : Below x.heap.size x x') : Bx2 w b T r U x' :=
  ⟨(k.block _ (lt_of_heap h.p)).trans h.p, (k.block _ (lt_of_heap h.q)).trans h.q, h.b.trans (k.mono h.b.size)⟩
theorem Bx2.far {w : World} {b : Array Value} {T : TypeId} {r : Array Value} {U : TypeId} {x : World} (h : Bx2 w b T r U x) (i : Nat) (v : Value) : (x.setCell ⟨w.heap.size + 1, i, none⟩ v).heap[w.heap.size]? = some (.cells b T (0, 0)) := heap_set_far h.p (by simp)
theorem Bx2.set {w : World} {b : Array Value} {T : TypeId} {r : Array Value} {U : TypeId} {x : World} (h : Bx2 w b T r U x) (i : Nat) (v : Value) : Bx2 w b T (r.setIfInBounds i v) U (x.setCell ⟨w.heap.size + 1, i, none⟩ v) := ⟨heap_set_far h.p (by simp), heap_set h.q, h.b.setCell (Nat.le_succ _) v⟩
theorem cells8 {w : World} {G : Nat} {T : TypeId} {v0 v1 v2 v3 v4 v5 v6 v7 : Value} (h : w.heap[G]? = some (.cells #[v0, v1, v2, v3, v4, v5, v6, v7] T (0, 0))) :
    w.cell? ⟨G, 0, none⟩ = some v0 ∧ w.cell? ⟨G, 1, none⟩ = some v1 ∧ w.cell? ⟨G, 2, none⟩ = some v2 ∧ w.cell? ⟨G, 3, none⟩ = some v3 ∧ w.cell? ⟨G, 4, none⟩ = some v4 ∧ w.cell? ⟨G, 5, none⟩ = some v5 ∧ w.cell? ⟨G, 6, none⟩ = some v6 ∧ w.cell? ⟨G, 7, none⟩ = some v7 :=
  ⟨(cell_of h).trans rfl, (cell_of h).trans rfl, (cell_of h).trans rfl, (cell_of h).trans rfl, (cell_of h).trans rfl, (cell_of h).trans rfl, (cell_of h).trans rfl, (cell_of h).trans rfl⟩
theorem froz8 {w : World} {G : Nat} {T : TypeId} {c : Array Value} (h : w.heap[G]? = some (.cells c T (0, 0))) :
    w.frozen? ⟨G, 0, none⟩ = false ∧ w.frozen? ⟨G, 1, none⟩ = false ∧ w.frozen? ⟨G, 2, none⟩ = false ∧ w.frozen? ⟨G, 3, none⟩ = false ∧ w.frozen? ⟨G, 4, none⟩ = false ∧ w.frozen? ⟨G, 5, none⟩ = false ∧ w.frozen? ⟨G, 6, none⟩ = false ∧ w.frozen? ⟨G, 7, none⟩ = false :=
  ⟨froz_of h, froz_of h, froz_of h, froz_of h, froz_of h, froz_of h, froz_of h, froz_of h⟩
theorem store8 {x : World} {G R : Nat} {o : Obj} {v0 v1 v2 v3 v4 v5 v6 v7 : Value} (h : x.heap[G]? = some o) (hne : G ≠ R) :
    ((((((((x.setCell ⟨R, 0, none⟩ v0).setCell ⟨R, 1, none⟩ v1).setCell ⟨R, 2, none⟩ v2).setCell ⟨R, 3, none⟩ v3).setCell ⟨R, 4, none⟩ v4).setCell ⟨R, 5, none⟩ v5).setCell ⟨R, 6, none⟩ v6).setCell ⟨R, 7, none⟩ v7).heap[G]? = some o :=
  heap_set_far (heap_set_far (heap_set_far (heap_set_far (heap_set_far (heap_set_far (heap_set_far (heap_set_far h hne) hne) hne) hne) hne) hne) hne) hne
theorem put8 {w : World} {b : Array Value} {T U : TypeId} {u0 u1 u2 u3 u4 u5 u6 u7 : Value} {x : World} (h : Bx2 w b T #[u0, u1, u2, u3, u4, u5, u6, u7] U x) (v0 v1 v2 v3 v4 v5 v6 v7 : Value) :
    Bx2 w b T #[v0, v1, v2, v3, v4, v5, v6, v7] U ((((((((x.setCell ⟨w.heap.size + 1, 0, none⟩ v0).setCell ⟨w.heap.size + 1, 1, none⟩ v1).setCell ⟨w.heap.size + 1, 2, none⟩ v2).setCell ⟨w.heap.size + 1, 3, none⟩ v3).setCell ⟨w.heap.size + 1, 4, none⟩ v4).setCell ⟨w.heap.size + 1, 5, none⟩ v5).setCell ⟨w.heap.size + 1, 6, none⟩ v6).setCell ⟨w.heap.size + 1, 7, none⟩ v7) := by
  have h0 : Bx2 w b T #[v0, u1, u2, u3, u4, u5, u6, u7] U (x.setCell ⟨w.heap.size + 1, 0, none⟩ v0) := h.set 0 v0
  have h1 : Bx2 w b T #[v0, v1, u2, u3, u4, u5, u6, u7] U _ := h0.set 1 v1
  have h2 : Bx2 w b T #[v0, v1, v2, u3, u4, u5, u6, u7] U _ := h1.set 2 v2
  have h3 : Bx2 w b T #[v0, v1, v2, v3, u4, u5, u6, u7] U _ := h2.set 3 v3
  have h4 : Bx2 w b T #[v0, v1, v2, v3, v4, u5, u6, u7] U _ := h3.set 4 v4
  have h5 : Bx2 w b T #[v0, v1, v2, v3, v4, v5, u6, u7] U _ := h4.set 5 v5
  have h6 : Bx2 w b T #[v0, v1, v2, v3, v4, v5, v6, u7] U _ := h5.set 6 v6
  have h7 : Bx2 w b T #[v0, v1, v2, v3, v4, v5, v6, v7] U _ := h6.set 7 v7
  exact h7
theorem cells10' {w : World} {G : Nat} {T : TypeId} {v0 v1 v2 v3 v4 v5 v6 v7 v8 v9 : Value} (h : w.heap[G]? = some (.cells #[v0, v1, v2, v3, v4, v5, v6, v7, v8, v9] T (0, 0))) :
    w.cell? ⟨G, 0, none⟩ = some v0 ∧ w.cell? ⟨G, 1, none⟩ = some v1 ∧ w.cell? ⟨G, 2, none⟩ = some v2 ∧ w.cell? ⟨G, 3, none⟩ = some v3 ∧ w.cell? ⟨G, 4, none⟩ = some v4 ∧ w.cell? ⟨G, 5, none⟩ = some v5 ∧ w.cell? ⟨G, 6, none⟩ = some v6 ∧ w.cell? ⟨G, 7, none⟩ = some v7 ∧ w.cell? ⟨G, 8, none⟩ = some v8 ∧ w.cell? ⟨G, 9, none⟩ = some v9 :=
  ⟨(cell_of h).trans rfl, (cell_of h).trans rfl, (cell_of h).trans rfl, (cell_of h).trans rfl, (cell_of h).trans rfl, (cell_of h).trans rfl, (cell_of h).trans rfl, (cell_of h).trans rfl, (cell_of h).trans rfl, (cell_of h).trans rfl⟩
end Go.Proofs.YtihokphamgkkcaaGreat
namespace Go.Proofs.YtihokphamgkkcaaGreat
open Go.RowKit
/-- Ten cells in block G, a reader in the next; below G nothing has turned. -/
structure FR (w0 : World) (G : Nat) (c : Array Value) (s : ByteArray) (k : Nat) (w : World) : Prop where
  f : w.heap[G]? = some (.cells c 59 (0, 0))
  r : Rd w (G + 1) s k 0
  b : Below G w0 w
theorem FR.read {w0 w w' : World} {G : Nat} {c : Array Value} {s : ByteArray} {k k' : Nat} (h : FR w0 G c s k w) (hr : Rd w' (G + 1) s k' 0) (hc : Ch (fun i => i = G + 1) w w') : FR w0 G c s k' w' :=
  ⟨(hc.block G (lt_of_heap h.f) (by omega)).trans h.f, hr, h.b.trans (hc.below (by have := lt_of_heap h.f; omega) (fun i hi => by omega))⟩
theorem FR.set {w0 w : World} {G : Nat} {c : Array Value} {s : ByteArray} {k : Nat} (h : FR w0 G c s k w) (i : Nat) (v : Value) : FR w0 G (c.setIfInBounds i v) s k (w.setCell ⟨G, i, none⟩ v) :=
  ⟨heap_set h.f, h.r.far v (by simp), h.b.setCell (Nat.le_refl _) v⟩
theorem FR.cell {w0 w : World} {G : Nat} {c : Array Value} {s : ByteArray} {k : Nat} (h : FR w0 G c s k w) (i : Nat) : w.cell? ⟨G, i, none⟩ = c[i]? := cell_of h.f
theorem FR.fz {w0 w : World} {G : Nat} {c : Array Value} {s : ByteArray} {k : Nat} (h : FR w0 G c s k w) (i : Nat) : w.frozen? ⟨G, i, none⟩ = false := froz_of h.f
theorem FR.cells {w0 w : World} {G : Nat} {v0 v1 v2 v3 v4 v5 v6 v7 v8 v9 : Value} {s : ByteArray} {k : Nat} (h : FR w0 G #[v0, v1, v2, v3, v4, v5, v6, v7, v8, v9] s k w) :
    w.cell? ⟨G, 0, none⟩ = some v0 ∧ w.cell? ⟨G, 1, none⟩ = some v1 ∧ w.cell? ⟨G, 2, none⟩ = some v2 ∧ w.cell? ⟨G, 3, none⟩ = some v3 ∧ w.cell? ⟨G, 4, none⟩ = some v4 ∧ w.cell? ⟨G, 5, none⟩ = some v5 ∧ w.cell? ⟨G, 6, none⟩ = some v6 ∧ w.cell? ⟨G, 7, none⟩ = some v7 ∧ w.cell? ⟨G, 8, none⟩ = some v8 ∧ w.cell? ⟨G, 9, none⟩ = some v9 :=
  ⟨h.cell 0, h.cell 1, h.cell 2, h.cell 3, h.cell 4, h.cell 5, h.cell 6, h.cell 7, h.cell 8, h.cell 9⟩
theorem cells10 {w : World} {G : Nat} {T : TypeId} {v0 v1 v2 v3 v4 v5 v6 v7 v8 v9 : Value} (h : w.heap[G]? = some (.cells #[v0, v1, v2, v3, v4, v5, v6, v7, v8, v9] T (0, 0))) :
    w.cell? ⟨G, 0, none⟩ = some v0 ∧ w.cell? ⟨G, 1, none⟩ = some v1 ∧ w.cell? ⟨G, 2, none⟩ = some v2 ∧ w.cell? ⟨G, 3, none⟩ = some v3 ∧ w.cell? ⟨G, 4, none⟩ = some v4 ∧ w.cell? ⟨G, 5, none⟩ = some v5 ∧ w.cell? ⟨G, 6, none⟩ = some v6 ∧ w.cell? ⟨G, 7, none⟩ = some v7 ∧ w.cell? ⟨G, 8, none⟩ = some v8 ∧ w.cell? ⟨G, 9, none⟩ = some v9 :=
  ⟨(cell_of h).trans rfl, (cell_of h).trans rfl, (cell_of h).trans rfl, (cell_of h).trans rfl, (cell_of h).trans rfl, (cell_of h).trans rfl, (cell_of h).trans rfl, (cell_of h).trans rfl, (cell_of h).trans rfl, (cell_of h).trans rfl⟩
theorem store10 {w : World} {G : Nat} {T : TypeId} {u0 u1 u2 u3 u4 u5 u6 u7 u8 u9 : Value} (h : w.heap[G]? = some (.cells #[u0, u1, u2, u3, u4, u5, u6, u7, u8, u9] T (0, 0))) (v0 v1 v2 v3 v4 v5 v6 v7 v8 v9 : Value) :
    ((((((((((w.setCell ⟨G, 0, none⟩ v0).setCell ⟨G, 1, none⟩ v1).setCell ⟨G, 2, none⟩ v2).setCell ⟨G, 3, none⟩ v3).setCell ⟨G, 4, none⟩ v4).setCell ⟨G, 5, none⟩ v5).setCell ⟨G, 6, none⟩ v6).setCell ⟨G, 7, none⟩ v7).setCell ⟨G, 8, none⟩ v8).setCell ⟨G, 9, none⟩ v9).heap[G]? = some (.cells #[v0, v1, v2, v3, v4, v5, v6, v7, v8, v9] T (0, 0)) := by
  have h0 : (w.setCell ⟨G, 0, none⟩ v0).heap[G]? = some (.cells #[v0, u1, u2, u3, u4, u5, u6, u7, u8, u9] T (0, 0)) := heap_set h
  have h1 : ((w.setCell ⟨G, 0, none⟩ v0).setCell ⟨G, 1, none⟩ v1).heap[G]? = some (.cells #[v0, v1, u2, u3, u4, u5, u6, u7, u8, u9] T (0, 0)) := heap_set h0
  have h2 : (((w.setCell ⟨G, 0, none⟩ v0).setCell ⟨G, 1, none⟩ v1).setCell ⟨G, 2, none⟩ v2).heap[G]? = some (.cells #[v0, v1, v2, u3, u4, u5, u6, u7, u8, u9] T (0, 0)) := heap_set h1
  have h3 : ((((w.setCell ⟨G, 0, none⟩ v0).setCell ⟨G, 1, none⟩ v1).setCell ⟨G, 2, none⟩ v2).setCell ⟨G, 3, none⟩ v3).heap[G]? = some (.cells #[v0, v1, v2, v3, u4, u5, u6, u7, u8, u9] T (0, 0)) := heap_set h2
  have h4 : (((((w.setCell ⟨G, 0, none⟩ v0).setCell ⟨G, 1, none⟩ v1).setCell ⟨G, 2, none⟩ v2).setCell ⟨G, 3, none⟩ v3).setCell ⟨G, 4, none⟩ v4).heap[G]? = some (.cells #[v0, v1, v2, v3, v4, u5, u6, u7, u8, u9] T (0, 0)) := heap_set h3
  have h5 : ((((((w.setCell ⟨G, 0, none⟩ v0).setCell ⟨G, 1, none⟩ v1).setCell ⟨G, 2, none⟩ v2).setCell ⟨G, 3, none⟩ v3).setCell ⟨G, 4, none⟩ v4).setCell ⟨G, 5, none⟩ v5).heap[G]? = some (.cells #[v0, v1, v2, v3, v4, v5, u6, u7, u8, u9] T (0, 0)) := heap_set h4
  have h6 : (((((((w.setCell ⟨G, 0, none⟩ v0).setCell ⟨G, 1, none⟩ v1).setCell ⟨G, 2, none⟩ v2).setCell ⟨G, 3, none⟩ v3).setCell ⟨G, 4, none⟩ v4).setCell ⟨G, 5, none⟩ v5).setCell ⟨G, 6, none⟩ v6).heap[G]? = some (.cells #[v0, v1, v2, v3, v4, v5, v6, u7, u8, u9] T (0, 0)) := heap_set h5
  have h7 : ((((((((w.setCell ⟨G, 0, none⟩ v0).setCell ⟨G, 1, none⟩ v1).setCell ⟨G, 2, none⟩ v2).setCell ⟨G, 3, none⟩ v3).setCell ⟨G, 4, none⟩ v4).setCell ⟨G, 5, none⟩ v5).setCell ⟨G, 6, none⟩ v6).setCell ⟨G, 7, none⟩ v7).heap[G]? = some (.cells #[v0, v1, v2, v3, v4, v5, v6, v7, u8, u9] T (0, 0)) := heap_set h6
  have h8 : (((((((((w.setCell ⟨G, 0, none⟩ v0).setCell ⟨G, 1, none⟩ v1).setCell ⟨G, 2, none⟩ v2).setCell ⟨G, 3, none⟩ v3).setCell ⟨G, 4, none⟩ v4).setCell ⟨G, 5, none⟩ v5).setCell ⟨G, 6, none⟩ v6).setCell ⟨G, 7, none⟩ v7).setCell ⟨G, 8, none⟩ v8).heap[G]? = some (.cells #[v0, v1, v2, v3, v4, v5, v6, v7, v8, u9] T (0, 0)) := heap_set h7
  have h9 : ((((((((((w.setCell ⟨G, 0, none⟩ v0).setCell ⟨G, 1, none⟩ v1).setCell ⟨G, 2, none⟩ v2).setCell ⟨G, 3, none⟩ v3).setCell ⟨G, 4, none⟩ v4).setCell ⟨G, 5, none⟩ v5).setCell ⟨G, 6, none⟩ v6).setCell ⟨G, 7, none⟩ v7).setCell ⟨G, 8, none⟩ v8).setCell ⟨G, 9, none⟩ v9).heap[G]? = some (.cells #[v0, v1, v2, v3, v4, v5, v6, v7, v8, v9] T (0, 0)) := heap_set h8
  exact h9
set_option maxHeartbeats 2000000 in
set_option maxRecDepth 20000 in
theorem readFields_any (s : ByteArray) (w : World) (h : 51 ≤ s.size) (hs : s.size ≤ 9223372036854775807) :
    Calls Tryz.prog 65 #[.string s] w fun e w' => e = .returned (fsV (fsOf s)) ∧ Below w.heap.size w w' := by
  unfold fsV fsA fsOf
  dsimp only
  have c0 := fun (wx : World) (hr : Rd wx (w.heap.size + 1 + 1) s 0 0) => i64_any (w.heap.size + 1 + 1) s 0 0 wx hr (by omega) hs
  rw [num_fx (k := 0) (n := 8) (by omega)] at c0
  dsimp only [Nat.reduceAdd] at c0
  have C0 := hid c0
  clear c0
  have c1 := fun (wx : World) (hr : Rd wx (w.heap.size + 1 + 1) s 8 0) => u32_any (w.heap.size + 1 + 1) s 8 0 wx hr (by omega) hs
  rw [num_fx (k := 8) (n := 4) (by omega)] at c1
  dsimp only [Nat.reduceAdd] at c1
  have C1 := hid c1
  clear c1
  have c2 := fun (wx : World) (hr : Rd wx (w.heap.size + 1 + 1) s 12 0) => u8_any (w.heap.size + 1 + 1) s 12 0 wx hr (by omega) hs
  rw [num_fx (k := 12) (n := 1) (by omega)] at c2
  dsimp only [Nat.reduceAdd] at c2
  have C2 := hid c2
  clear c2
  have c3 := fun (wx : World) (hr : Rd wx (w.heap.size + 1 + 1) s 13 0) => u32_any (w.heap.size + 1 + 1) s 13 0 wx hr (by omega) hs
  rw [num_fx (k := 13) (n := 4) (by omega)] at c3
  dsimp only [Nat.reduceAdd] at c3
  have C3 := hid c3
  clear c3
  have c4 := fun (wx : World) (hr : Rd wx (w.heap.size + 1 + 1) s 17 0) => u16_any (w.heap.size + 1 + 1) s 17 0 wx hr (by omega) hs
  rw [num_fx (k := 17) (n := 2) (by omega)] at c4
  dsimp only [Nat.reduceAdd] at c4
  have C4 := hid c4
  clear c4
  have c5 := fun (wx : World) (hr : Rd wx (w.heap.size + 1 + 1) s 19 0) => u32_any (w.heap.size + 1 + 1) s 19 0 wx hr (by omega) hs
  rw [num_fx (k := 19) (n := 4) (by omega)] at c5
  dsimp only [Nat.reduceAdd] at c5
  have C5 := hid c5
  clear c5
  have c6 := fun (wx : World) (hr : Rd wx (w.heap.size + 1 + 1) s 23 0) => i64_any (w.heap.size + 1 + 1) s 23 0 wx hr (by omega) hs
  rw [num_fx (k := 23) (n := 8) (by omega)] at c6
  dsimp only [Nat.reduceAdd] at c6
  have C6 := hid c6
  clear c6
  have c7 := fun (wx : World) (hr : Rd wx (w.heap.size + 1 + 1) s 31 0) => i64_any (w.heap.size + 1 + 1) s 31 0 wx hr (by omega) hs
  rw [num_fx (k := 31) (n := 8) (by omega)] at c7
  dsimp only [Nat.reduceAdd] at c7
  have C7 := hid c7
  clear c7
  have c8 := fun (wx : World) (hr : Rd wx (w.heap.size + 1 + 1) s 39 0) => i64_any (w.heap.size + 1 + 1) s 39 0 wx hr (by omega) hs
  rw [num_fx (k := 39) (n := 8) (by omega)] at c8
  dsimp only [Nat.reduceAdd] at c8
  have C8 := hid c8
  clear c8
  have c9 := fun (wx : World) (hr : Rd wx (w.heap.size + 1 + 1) s 47 0) => i32_any (w.heap.size + 1 + 1) s 47 0 wx hr (by omega) hs
  rw [num_fx (k := 47) (n := 4) (by omega)] at c9
  dsimp only [Nat.reduceAdd] at c9
  have C9 := hid c9
  clear c9
  generalize num s 0 8 = x0 at *
  generalize num s 8 4 = x1 at *
  generalize num s 12 1 = x2 at *
  generalize num s 13 4 = x3 at *
  generalize num s 17 2 = x4 at *
  generalize num s 19 4 = x5 at *
  generalize num s 23 8 = x6 at *
  generalize num s 31 8 = x7 at *
  generalize num s 39 8 = x8 at *
  generalize num s 47 4 = x9 at *
  have CN := hid (fun w => newreader_any s w)
  clear h hs
  go_enter Tryz.func65, Tryz.ntmps65
  go_wp2_with (go_at_call 102; refine (CN.out _).mono ?_; rintro e w' ⟨rfl, rfl⟩)
  have F0 : FR (w.alloc (.cells #[.int .i64 0, .int .u32 0, .int .u8 0, .int .u32 0, .int .u16 0, .int .u32 0, .int .i64 0, .int .i64 0, .int .i64 0, .int .i32 0] 59)) (w.heap.size + 1) #[.int .i64 0, .int .u32 0, .int .u8 0, .int .u32 0, .int .u16 0, .int .u32 0, .int .i64 0, .int .i64 0, .int .i64 0, .int .i32 0] s 0 (((w.alloc (.cells #[.int .i64 0, .int .u32 0, .int .u8 0, .int .u32 0, .int .u16 0, .int .u32 0, .int .i64 0, .int .i64 0, .int .i64 0, .int .i32 0] 59)).alloc (.cells #[.int .i64 0, .int .u32 0, .int .u8 0, .int .u32 0, .int .u16 0, .int .u32 0, .int .i64 0, .int .i64 0, .int .i64 0, .int .i32 0] 59)).alloc (.cells #[.int .i64 0, .string s, .int .i64 0] 172)) :=
    ⟨heap_alloc_at (heap_new' _ _ _ (by simp)), heap_new' _ _ _ (by simp), ((Below.refl _ _).alloc (by simp) _).alloc (by simp) _⟩
  have B0 := (Below.refl w.heap.size w).alloc (Nat.le_refl _) (.cells #[.int .i64 0, .int .u32 0, .int .u8 0, .int .u32 0, .int .u16 0, .int .u32 0, .int .i64 0, .int .i64 0, .int .i64 0, .int .i32 0] 59)
  have R0 : (w.alloc (.cells #[.int .i64 0, .int .u32 0, .int .u8 0, .int .u32 0, .int .u16 0, .int .u32 0, .int .i64 0, .int .i64 0, .int .i64 0, .int .i32 0] 59)).heap[w.heap.size]? = some (.cells #[.int .i64 0, .int .u32 0, .int .u8 0, .int .u32 0, .int .u16 0, .int .u32 0, .int .i64 0, .int .i64 0, .int .i64 0, .int .i32 0] 59 (0, 0)) := heap_new _ _
  have hsz : (w.alloc (.cells #[.int .i64 0, .int .u32 0, .int .u8 0, .int .u32 0, .int .u16 0, .int .u32 0, .int .i64 0, .int .i64 0, .int .i64 0, .int .i32 0] 59)).heap.size = w.heap.size + 1 := by simp
  generalize ((w.alloc (.cells #[.int .i64 0, .int .u32 0, .int .u8 0, .int .u32 0, .int .u16 0, .int .u32 0, .int .i64 0, .int .i64 0, .int .i64 0, .int .i32 0] 59)).alloc (.cells #[.int .i64 0, .int .u32 0, .int .u8 0, .int .u32 0, .int .u16 0, .int .u32 0, .int .i64 0, .int .i64 0, .int .i64 0, .int .i32 0] 59)).alloc (.cells #[.int .i64 0, .string s, .int .i64 0] 172) = W0 at *
  generalize w.alloc (.cells #[.int .i64 0, .int .u32 0, .int .u8 0, .int .u32 0, .int .u16 0, .int .u32 0, .int .i64 0, .int .i64 0, .int .i64 0, .int .i32 0] 59) = WR at *
  have HR := hid R0
  have HB := hid B0
  have HZ := hid hsz
  clear R0 B0 hsz
  refine (C0.out _ F0.r).mono ?_
  rintro e w0 ⟨rfl, hr, hc⟩
  have F1 : FR WR (w.heap.size + 1) #[.int .i64 0, .int .u32 0, .int .u8 0, .int .u32 0, .int .u16 0, .int .u32 0, .int .i64 0, .int .i64 0, .int .i64 0, .int .i32 0] s 8 w0 := F0.read hr hc
  clear F0 hr hc C0
  have cc0 : w0.cell? ⟨w.heap.size + 1, 0, none⟩ = some (.int .i64 0) := F1.cell 0
  have zz0 := F1.fz 0
  go_wp2_with fail
  refine (C1.out _ (F1.set 0 (.int .i64 (wrap64 x0))).r).mono ?_
  rintro e w1 ⟨rfl, hr, hc⟩
  have F2 : FR WR (w.heap.size + 1) #[.int .i64 (wrap64 x0), .int .u32 0, .int .u8 0, .int .u32 0, .int .u16 0, .int .u32 0, .int .i64 0, .int .i64 0, .int .i64 0, .int .i32 0] s 12 w1 := (F1.set 0 (.int .i64 (wrap64 x0))).read hr hc
  clear F1 hr hc C1 cc0 zz0
  have cc1 : w1.cell? ⟨w.heap.size + 1, 1, none⟩ = some (.int .u32 0) := F2.cell 1
  have zz1 := F2.fz 1
  go_wp2_with fail
  refine (C2.out _ (F2.set 1 (.int .u32 x1)).r).mono ?_
  rintro e w2 ⟨rfl, hr, hc⟩
  have F3 : FR WR (w.heap.size + 1) #[.int .i64 (wrap64 x0), .int .u32 x1, .int .u8 0, .int .u32 0, .int .u16 0, .int .u32 0, .int .i64 0, .int .i64 0, .int .i64 0, .int .i32 0] s 13 w2 := (F2.set 1 (.int .u32 x1)).read hr hc
  clear F2 hr hc C2 cc1 zz1
  have cc2 : w2.cell? ⟨w.heap.size + 1, 2, none⟩ = some (.int .u8 0) := F3.cell 2
  have zz2 := F3.fz 2
  go_wp2_with fail
  refine (C3.out _ (F3.set 2 (.int .u8 x2)).r).mono ?_
  rintro e w3 ⟨rfl, hr, hc⟩
  have F4 : FR WR (w.heap.size + 1) #[.int .i64 (wrap64 x0), .int .u32 x1, .int .u8 x2, .int .u32 0, .int .u16 0, .int .u32 0, .int .i64 0, .int .i64 0, .int .i64 0, .int .i32 0] s 17 w3 := (F3.set 2 (.int .u8 x2)).read hr hc
  clear F3 hr hc C3 cc2 zz2
  have cc3 : w3.cell? ⟨w.heap.size + 1, 3, none⟩ = some (.int .u32 0) := F4.cell 3
  have zz3 := F4.fz 3
  go_wp2_with fail
  refine (C4.out _ (F4.set 3 (.int .u32 x3)).r).mono ?_
  rintro e w4 ⟨rfl, hr, hc⟩
  have F5 : FR WR (w.heap.size + 1) #[.int .i64 (wrap64 x0), .int .u32 x1, .int .u8 x2, .int .u32 x3, .int .u16 0, .int .u32 0, .int .i64 0, .int .i64 0, .int .i64 0, .int .i32 0] s 19 w4 := (F4.set 3 (.int .u32 x3)).read hr hc
  clear F4 hr hc C4 cc3 zz3
  have cc4 : w4.cell? ⟨w.heap.size + 1, 4, none⟩ = some (.int .u16 0) := F5.cell 4
  have zz4 := F5.fz 4
  go_wp2_with fail
  refine (C5.out _ (F5.set 4 (.int .u16 x4)).r).mono ?_
  rintro e w5 ⟨rfl, hr, hc⟩
  have F6 : FR WR (w.heap.size + 1) #[.int .i64 (wrap64 x0), .int .u32 x1, .int .u8 x2, .int .u32 x3, .int .u16 x4, .int .u32 0, .int .i64 0, .int .i64 0, .int .i64 0, .int .i32 0] s 23 w5 := (F5.set 4 (.int .u16 x4)).read hr hc
  clear F5 hr hc C5 cc4 zz4
  have cc5 : w5.cell? ⟨w.heap.size + 1, 5, none⟩ = some (.int .u32 0) := F6.cell 5
  have zz5 := F6.fz 5
  go_wp2_with fail
  refine (C6.out _ (F6.set 5 (.int .u32 x5)).r).mono ?_
  rintro e w6 ⟨rfl, hr, hc⟩
  have F7 : FR WR (w.heap.size + 1) #[.int .i64 (wrap64 x0), .int .u32 x1, .int .u8 x2, .int .u32 x3, .int .u16 x4, .int .u32 x5, .int .i64 0, .int .i64 0, .int .i64 0, .int .i32 0] s 31 w6 := (F6.set 5 (.int .u32 x5)).read hr hc
  clear F6 hr hc C6 cc5 zz5
  have cc6 : w6.cell? ⟨w.heap.size + 1, 6, none⟩ = some (.int .i64 0) := F7.cell 6
  have zz6 := F7.fz 6
  go_wp2_with fail
  refine (C7.out _ (F7.set 6 (.int .i64 (wrap64 x6))).r).mono ?_
  rintro e w7 ⟨rfl, hr, hc⟩
  have F8 : FR WR (w.heap.size + 1) #[.int .i64 (wrap64 x0), .int .u32 x1, .int .u8 x2, .int .u32 x3, .int .u16 x4, .int .u32 x5, .int .i64 (wrap64 x6), .int .i64 0, .int .i64 0, .int .i32 0] s 39 w7 := (F7.set 6 (.int .i64 (wrap64 x6))).read hr hc
  clear F7 hr hc C7 cc6 zz6
  have cc7 : w7.cell? ⟨w.heap.size + 1, 7, none⟩ = some (.int .i64 0) := F8.cell 7
  have zz7 := F8.fz 7
  go_wp2_with fail
  refine (C8.out _ (F8.set 7 (.int .i64 (wrap64 x7))).r).mono ?_
  rintro e w8 ⟨rfl, hr, hc⟩
  have F9 : FR WR (w.heap.size + 1) #[.int .i64 (wrap64 x0), .int .u32 x1, .int .u8 x2, .int .u32 x3, .int .u16 x4, .int .u32 x5, .int .i64 (wrap64 x6), .int .i64 (wrap64 x7), .int .i64 0, .int .i32 0] s 47 w8 := (F8.set 7 (.int .i64 (wrap64 x7))).read hr hc
  clear F8 hr hc C8 cc7 zz7
  have cc8 : w8.cell? ⟨w.heap.size + 1, 8, none⟩ = some (.int .i64 0) := F9.cell 8
  have zz8 := F9.fz 8
  go_wp2_with fail
  refine (C9.out _ (F9.set 8 (.int .i64 (wrap64 x8))).r).mono ?_
  rintro e w9 ⟨rfl, hr, hc⟩
  have F10 : FR WR (w.heap.size + 1) #[.int .i64 (wrap64 x0), .int .u32 x1, .int .u8 x2, .int .u32 x3, .int .u16 x4, .int .u32 x5, .int .i64 (wrap64 x6), .int .i64 (wrap64 x7), .int .i64 (wrap64 x8), .int .i32 0] s 51 w9 := (F9.set 8 (.int .i64 (wrap64 x8))).read hr hc
  clear F9 hr hc C9 cc8 zz8
  have cc9 : w9.cell? ⟨w.heap.size + 1, 9, none⟩ = some (.int .i32 0) := F10.cell 9
  have zz9 := F10.fz 9
  have F11 : FR WR (w.heap.size + 1) #[.int .i64 (wrap64 x0), .int .u32 x1, .int .u8 x2, .int .u32 x3, .int .u16 x4, .int .u32 x5, .int .i64 (wrap64 x6), .int .i64 (wrap64 x7), .int .i64 (wrap64 x8), .int .i32 (wrap32 x9)] s 51 (w9.setCell ⟨w.heap.size + 1, 9, none⟩ (.int .i32 (wrap32 x9))) := F10.set 9 _
  obtain ⟨k0, k1, k2, k3, k4, k5, k6, k7, k8, k9⟩ := F11.cells
  have RR : (w9.setCell ⟨w.heap.size + 1, 9, none⟩ (.int .i32 (wrap32 x9))).heap[w.heap.size]? = some (.cells #[.int .i64 0, .int .u32 0, .int .u8 0, .int .u32 0, .int .u16 0, .int .u32 0, .int .i64 0, .int .i64 0, .int .i64 0, .int .i32 0] 59 (0, 0)) := (F11.b.block _ (Nat.lt_succ_self _)).trans HR.out
  have HBB := hid (HB.out.trans (F11.b.mono (Nat.le_succ _)))
  obtain ⟨WX, hWX⟩ : ∃ x, w9.setCell ⟨w.heap.size + 1, 9, none⟩ (.int .i32 (wrap32 x9)) = x := ⟨_, rfl⟩
  rw [hWX] at k0 k1 k2 k3 k4 k5 k6 k7 k8 k9 RR HBB
  have z0 : WX.frozen? ⟨w.heap.size, 0, none⟩ = false := froz_of RR
  have z1 : WX.frozen? ⟨w.heap.size, 1, none⟩ = false := froz_of RR
  have z2 : WX.frozen? ⟨w.heap.size, 2, none⟩ = false := froz_of RR
  have z3 : WX.frozen? ⟨w.heap.size, 3, none⟩ = false := froz_of RR
  have z4 : WX.frozen? ⟨w.heap.size, 4, none⟩ = false := froz_of RR
  have z5 : WX.frozen? ⟨w.heap.size, 5, none⟩ = false := froz_of RR
  have z6 : WX.frozen? ⟨w.heap.size, 6, none⟩ = false := froz_of RR
  have z7 : WX.frozen? ⟨w.heap.size, 7, none⟩ = false := froz_of RR
  have z8 : WX.frozen? ⟨w.heap.size, 8, none⟩ = false := froz_of RR
  have z9 : WX.frozen? ⟨w.heap.size, 9, none⟩ = false := froz_of RR
  obtain ⟨r0, r1, r2, r3, r4, r5, r6, r7, r8, r9⟩ := cells10 RR
  have HE := hid (store10 RR (.int .i64 (wrap64 x0)) (.int .u32 x1) (.int .u8 x2) (.int .u32 x3) (.int .u16 x4) (.int .u32 x5) (.int .i64 (wrap64 x6)) (.int .i64 (wrap64 x7)) (.int .i64 (wrap64 x8)) (.int .i32 (wrap32 x9)))
  clear F11 F10 RR
  go_wp2_with fail
  have hE := HE.out
  have hB : Below w.heap.size w (((((((((((WX.setCell ⟨w.heap.size, 0, none⟩ (.int .i64 (wrap64 x0))).setCell ⟨w.heap.size, 1, none⟩ (.int .u32 x1)).setCell ⟨w.heap.size, 2, none⟩ (.int .u8 x2)).setCell ⟨w.heap.size, 3, none⟩ (.int .u32 x3)).setCell ⟨w.heap.size, 4, none⟩ (.int .u16 x4)).setCell ⟨w.heap.size, 5, none⟩ (.int .u32 x5)).setCell ⟨w.heap.size, 6, none⟩ (.int .i64 (wrap64 x6))).setCell ⟨w.heap.size, 7, none⟩ (.int .i64 (wrap64 x7))).setCell ⟨w.heap.size, 8, none⟩ (.int .i64 (wrap64 x8))).setCell ⟨w.heap.size, 9, none⟩ (.int .i32 (wrap32 x9)))) := ((((((((((HBB.out.setCell (Nat.le_refl _) _).setCell (Nat.le_refl _) _).setCell (Nat.le_refl _) _).setCell (Nat.le_refl _) _).setCell (Nat.le_refl _) _).setCell (Nat.le_refl _) _).setCell (Nat.le_refl _) _).setCell (Nat.le_refl _) _).setCell (Nat.le_refl _) _).setCell (Nat.le_refl _) _)
  obtain ⟨e0, e1, e2, e3, e4, e5, e6, e7, e8, e9⟩ := cells10 hE
  clear k0 k1 k2 k3 k4 k5 k6 k7 k8 k9 r0 r1 r2 r3 r4 r5 r6 r7 r8 r9 z0 z1 z2 z3 z4 z5 z6 z7 z8 z9 hWX cc9 zz9 HE
  generalize ((((((((((WX.setCell ⟨w.heap.size, 0, none⟩ (.int .i64 (wrap64 x0))).setCell ⟨w.heap.size, 1, none⟩ (.int .u32 x1)).setCell ⟨w.heap.size, 2, none⟩ (.int .u8 x2)).setCell ⟨w.heap.size, 3, none⟩ (.int .u32 x3)).setCell ⟨w.heap.size, 4, none⟩ (.int .u16 x4)).setCell ⟨w.heap.size, 5, none⟩ (.int .u32 x5)).setCell ⟨w.heap.size, 6, none⟩ (.int .i64 (wrap64 x6))).setCell ⟨w.heap.size, 7, none⟩ (.int .i64 (wrap64 x7))).setCell ⟨w.heap.size, 8, none⟩ (.int .i64 (wrap64 x8))).setCell ⟨w.heap.size, 9, none⟩ (.int .i32 (wrap32 x9))) = WF at *
  exact bodyPost_ret (v := .agg #[.int .i64 (wrap64 x0), .int .u32 x1, .int .u8 x2, .int .u32 x3, .int .u16 x4, .int .u32 x5, .int .i64 (wrap64 x6), .int .i64 (wrap64 x7), .int .i64 (wrap64 x8), .int .i32 (wrap32 x9)]) (by simp [results, Tryz.results65, go_sem, e0, e1, e2, e3, e4, e5, e6, e7, e8, e9]) rfl ⟨rfl, hB⟩
end Go.Proofs.YtihokphamgkkcaaGreat
namespace Go.Proofs.YtihokphamgkkcaaGreat
open Go.RowKit
set_option maxHeartbeats 1000000 in
set_option maxRecDepth 20000 in
theorem b6head_any (f : Fs) (w : World) (hf : FsOk f) : Calls Tryz.prog 35 #[fsV f] w fun e w' => e = .returned (hdV f) ∧ Below w.heap.size w w' := by
  have cs := fun w => b6size_any f w hf
  have h1 := hf.len
  have h2 := hf.cnt
  clear hf
  unfold hdV
  unfold fsV fsA at *
  obtain ⟨base, len, mark, sum, st, cnt, first, grt, prod, seq⟩ := f
  dsimp only at *
  have hcs : ∀ x, Bx2 w #[.int .i64 base, .int .u32 len, .int .u8 mark, .int .u32 sum, .int .u16 st, .int .u32 cnt, .int .i64 first, .int .i64 grt, .int .i64 prod, .int .i32 seq] 59 #[.int .i64 0, .int .i64 0, .bool false, .int .i64 0, .int .i64 0, .int .i64 0, .int .i64 0, .int .i32 0] 35 x → Calls Tryz.prog 67 #[.agg #[.int .i64 base, .int .u32 len, .int .u8 mark, .int .u32 sum, .int .u16 st, .int .u32 cnt, .int .i64 first, .int .i64 grt, .int .i64 prod, .int .i32 seq]] x fun e w' => e = .returned (.int .u64 (12 + len : Nat)) ∧ Bx2 w #[.int .i64 base, .int .u32 len, .int .u8 mark, .int .u32 sum, .int .u16 st, .int .u32 cnt, .int .i64 first, .int .i64 grt, .int .i64 prod, .int .i32 seq] 59 #[.int .i64 0, .int .i64 0, .bool false, .int .i64 0, .int .i64 0, .int .i64 0, .int .i64 0, .int .i32 0] 35 w' := fun x hx => (cs x).mono fun e w' h => ⟨h.1, hx.call h.2⟩
  have CS := hid hcs
  clear cs hcs
  have HN := Bx2.new w #[.int .i64 base, .int .u32 len, .int .u8 mark, .int .u32 sum, .int .u16 st, .int .u32 cnt, .int .i64 first, .int .i64 grt, .int .i64 prod, .int .i32 seq] 59 #[.int .i64 0, .int .i64 0, .bool false, .int .i64 0, .int .i64 0, .int .i64 0, .int .i64 0, .int .i32 0] 35
  have hlen : ((12 + len : Nat) : Int) ≤ 9223372036854775807 := by omega
  have hst : decide ((st : Int) = 1) = decide (st = 1) := by by_cases h : st = 1 <;> simp [h] <;> omega
  obtain ⟨W, hW⟩ : ∃ x, (w.alloc (.cells #[.int .i64 base, .int .u32 len, .int .u8 mark, .int .u32 sum, .int .u16 st, .int .u32 cnt, .int .i64 first, .int .i64 grt, .int .i64 prod, .int .i32 seq] 59)).alloc (.cells #[.int .i64 0, .int .i64 0, .bool false, .int .i64 0, .int .i64 0, .int .i64 0, .int .i64 0, .int .i32 0] 35) = x := ⟨_, rfl⟩
  rw [hW] at HN
  go_enter Tryz.func35, Tryz.ntmps35
  go_wp2_with fail
  go_region_held3 (fun x => x.cell? ⟨w.heap.size, 0, none⟩ = some (.int .i64 base) ∧ x.cell? ⟨w.heap.size, 1, none⟩ = some (.int .u32 len) ∧ x.cell? ⟨w.heap.size, 2, none⟩ = some (.int .u8 mark) ∧ x.cell? ⟨w.heap.size, 3, none⟩ = some (.int .u32 sum) ∧ x.cell? ⟨w.heap.size, 4, none⟩ = some (.int .u16 st) ∧ x.cell? ⟨w.heap.size, 5, none⟩ = some (.int .u32 cnt) ∧ x.cell? ⟨w.heap.size, 6, none⟩ = some (.int .i64 first) ∧ x.cell? ⟨w.heap.size, 7, none⟩ = some (.int .i64 grt) ∧ x.cell? ⟨w.heap.size, 8, none⟩ = some (.int .i64 prod) ∧ x.cell? ⟨w.heap.size, 9, none⟩ = some (.int .i32 seq)) (first | with_reducible exact cells10' HN.p | with_reducible exact cells10' HN.drew.p | with_reducible exact cells10' (Bx2.p (by assumption)) | with_reducible exact cells10' (store8 (Bx2.p (by assumption)) (by omega))) (first | (go_at_call 67; with_reducible refine (CS.out _ ?_).mono ?_; (first | exact HN.drew | exact HN); rintro e w2 ⟨rfl, hk⟩; obtain ⟨q0, q1, q2, q3, q4, q5, q6, q7⟩ := cells8 hk.q; obtain ⟨z0, z1, z2, z3, z4, z5, z6, z7⟩ := froz8 hk.q))
  have e1 : IntKind.i64.wrap (12 + (len : Int)) = ((12 + len : Nat) : Int) := by rw [Lz.wrap_in (by omega) (by omega)]; omega
  have e2 : IntKind.i64.wrap (cnt : Int) = (cnt : Int) := Lz.wrap_in (by omega) (by omega)
  have e3 : ((st : Int) == 1) = decide (st = 1) := hst
  rw [e1, e2, e3]
  have P := put8 hk (.int .i64 base) (.int .i64 (12 + len : Nat)) (.bool (decide (st = 1))) (.int .i64 cnt) (.int .i64 first) (.int .i64 grt) (.int .i64 prod) (.int .i32 seq)
  clear q0 q1 q2 q3 q4 q5 q6 q7 z0 z1 z2 z3 z4 z5 z6 z7
  generalize ((((((((w2.setCell ⟨w.heap.size + 1, 0, none⟩ (.int .i64 base)).setCell ⟨w.heap.size + 1, 1, none⟩ (.int .i64 (12 + len : Nat))).setCell ⟨w.heap.size + 1, 2, none⟩ (.bool (decide (st = 1)))).setCell ⟨w.heap.size + 1, 3, none⟩ (.int .i64 cnt)).setCell ⟨w.heap.size + 1, 4, none⟩ (.int .i64 first)).setCell ⟨w.heap.size + 1, 5, none⟩ (.int .i64 grt)).setCell ⟨w.heap.size + 1, 6, none⟩ (.int .i64 prod)).setCell ⟨w.heap.size + 1, 7, none⟩ (.int .i32 seq)) = WF at *
  obtain ⟨q0, q1, q2, q3, q4, q5, q6, q7⟩ := cells8 P.q
  have HP := hid P.b
  clear P hk HN hW
  go_wp2_with fail
  exact bodyPost_ret (v := .agg #[.int .i64 base, .int .i64 (12 + len : Nat), .bool (decide (st = 1)), .int .i64 cnt, .int .i64 first, .int .i64 grt, .int .i64 prod, .int .i32 seq]) (by simp [results, Tryz.results35, go_sem, q0, q1, q2, q3, q4, q5, q6, q7]) rfl ⟨rfl, HP.out⟩
end Go.Proofs.YtihokphamgkkcaaGreat
namespace Go.Proofs.YtihokphamgkkcaaGreat
open Go.RowKit
theorem ret_bool {a b : Bool} (h : a = b) : Ending.returned (.bool a) = .returned (.bool b) := by rw [h]
set_option maxHeartbeats 1000000 in
set_option maxRecDepth 20000 in
theorem right_no0 (f : Fs) (w : World) (hf : FsOk f)  (n0 : ¬ (f.mark : Int) = 71) : Calls Tryz.prog 66 #[fsV f] w fun e w' => e = .returned (.bool false) ∧ Below w.heap.size w w' := by
  have CO := hid (fun w => isoff_any f.base w)
  have CH := hid (fun w => haveoff_any f.base f.cnt w hf.cnt)
  have CP := hid (fun w => ispr_any f.prod f.seq w)
  have CS := hid (fun w => b6size_any f w hf)
  have hl := hf.len
  have hc := hf.cnt
  clear hf
  unfold fsV fsA at *
  obtain ⟨base, len, mark, sum, st, cnt, first, grt, prod, seq⟩ := f
  dsimp only at *
  generalize hL : 12 + len = L at *

  go_enter Tryz.func66, Tryz.ntmps66
  go_wp2_with (first
    | (go_at_call 82; refine (CO.out _).mono ?_; rintro e w' ⟨rfl, rfl⟩)
    | (go_at_call 84; refine (CH.out _).mono ?_; rintro e w' ⟨rfl, rfl⟩)
    | (go_at_call 83; refine (CP.out _).mono ?_; rintro e w' ⟨rfl, rfl⟩))
  go_ret
  exact ⟨rfl, (Below.refl _ _).alloc (Nat.le_refl _) _⟩
set_option maxHeartbeats 1000000 in
set_option maxRecDepth 20000 in
theorem right_no1 (f : Fs) (w : World) (hf : FsOk f) (t0 : (f.mark : Int) = 71) (n1 : (1 : Int) < f.st) : Calls Tryz.prog 66 #[fsV f] w fun e w' => e = .returned (.bool false) ∧ Below w.heap.size w w' := by
  have CO := hid (fun w => isoff_any f.base w)
  have CH := hid (fun w => haveoff_any f.base f.cnt w hf.cnt)
  have CP := hid (fun w => ispr_any f.prod f.seq w)
  have CS := hid (fun w => b6size_any f w hf)
  have hl := hf.len
  have hc := hf.cnt
  clear hf
  unfold fsV fsA at *
  obtain ⟨base, len, mark, sum, st, cnt, first, grt, prod, seq⟩ := f
  dsimp only at *
  generalize hL : 12 + len = L at *

  go_enter Tryz.func66, Tryz.ntmps66
  go_wp2_with (first
    | (go_at_call 82; refine (CO.out _).mono ?_; rintro e w' ⟨rfl, rfl⟩)
    | (go_at_call 84; refine (CH.out _).mono ?_; rintro e w' ⟨rfl, rfl⟩)
    | (go_at_call 83; refine (CP.out _).mono ?_; rintro e w' ⟨rfl, rfl⟩))
  go_ret
  exact ⟨rfl, (Below.refl _ _).alloc (Nat.le_refl _) _⟩
set_option maxHeartbeats 1000000 in
set_option maxRecDepth 20000 in
theorem right_no2 (f : Fs) (w : World) (hf : FsOk f) (t0 : (f.mark : Int) = 71) (t1 : (f.st : Int) ≤ 1) (n2 : (f.cnt : Int) < 1) : Calls Tryz.prog 66 #[fsV f] w fun e w' => e = .returned (.bool false) ∧ Below w.heap.size w w' := by
  have CO := hid (fun w => isoff_any f.base w)
  have CH := hid (fun w => haveoff_any f.base f.cnt w hf.cnt)
  have CP := hid (fun w => ispr_any f.prod f.seq w)
  have CS := hid (fun w => b6size_any f w hf)
  have hl := hf.len
  have hc := hf.cnt
  clear hf
  unfold fsV fsA at *
  obtain ⟨base, len, mark, sum, st, cnt, first, grt, prod, seq⟩ := f
  dsimp only at *
  generalize hL : 12 + len = L at *

  go_enter Tryz.func66, Tryz.ntmps66
  go_wp2_with (first
    | (go_at_call 82; refine (CO.out _).mono ?_; rintro e w' ⟨rfl, rfl⟩)
    | (go_at_call 84; refine (CH.out _).mono ?_; rintro e w' ⟨rfl, rfl⟩)
    | (go_at_call 83; refine (CP.out _).mono ?_; rintro e w' ⟨rfl, rfl⟩))
  go_ret
  exact ⟨rfl, (Below.refl _ _).alloc (Nat.le_refl _) _⟩
set_option maxHeartbeats 1000000 in
set_option maxRecDepth 20000 in
theorem right_no3 (f : Fs) (w : World) (hf : FsOk f) (t0 : (f.mark : Int) = 71) (t1 : (f.st : Int) ≤ 1) (t2 : 1 ≤ (f.cnt : Int)) (n3 : 65536 < (f.cnt : Int)) : Calls Tryz.prog 66 #[fsV f] w fun e w' => e = .returned (.bool false) ∧ Below w.heap.size w w' := by
  have CO := hid (fun w => isoff_any f.base w)
  have CH := hid (fun w => haveoff_any f.base f.cnt w hf.cnt)
  have CP := hid (fun w => ispr_any f.prod f.seq w)
  have CS := hid (fun w => b6size_any f w hf)
  have hl := hf.len
  have hc := hf.cnt
  clear hf
  unfold fsV fsA at *
  obtain ⟨base, len, mark, sum, st, cnt, first, grt, prod, seq⟩ := f
  dsimp only at *
  generalize hL : 12 + len = L at *

  go_enter Tryz.func66, Tryz.ntmps66
  go_wp2_with (first
    | (go_at_call 82; refine (CO.out _).mono ?_; rintro e w' ⟨rfl, rfl⟩)
    | (go_at_call 84; refine (CH.out _).mono ?_; rintro e w' ⟨rfl, rfl⟩)
    | (go_at_call 83; refine (CP.out _).mono ?_; rintro e w' ⟨rfl, rfl⟩))
  go_ret
  exact ⟨rfl, (Below.refl _ _).alloc (Nat.le_refl _) _⟩
set_option maxHeartbeats 1000000 in
set_option maxRecDepth 20000 in
theorem right_no4 (f : Fs) (w : World) (hf : FsOk f) (t0 : (f.mark : Int) = 71) (t1 : (f.st : Int) ≤ 1) (t2 : 1 ≤ (f.cnt : Int)) (t3 : (f.cnt : Int) ≤ 65536) (n4 : decide (0 ≤ f.base ∧ f.base < 4611686018427387904) = false) : Calls Tryz.prog 66 #[fsV f] w fun e w' => e = .returned (.bool false) ∧ Below w.heap.size w w' := by
  have CO := hid (fun w => isoff_any f.base w)
  have CH := hid (fun w => haveoff_any f.base f.cnt w hf.cnt)
  have CP := hid (fun w => ispr_any f.prod f.seq w)
  have CS := hid (fun w => b6size_any f w hf)
  have hl := hf.len
  have hc := hf.cnt
  rw [n4] at CO
  clear n4
  clear hf
  unfold fsV fsA at *
  obtain ⟨base, len, mark, sum, st, cnt, first, grt, prod, seq⟩ := f
  dsimp only at *
  generalize hL : 12 + len = L at *

  go_enter Tryz.func66, Tryz.ntmps66
  go_wp2_with (first
    | (go_at_call 82; refine (CO.out _).mono ?_; rintro e w' ⟨rfl, rfl⟩)
    | (go_at_call 84; refine (CH.out _).mono ?_; rintro e w' ⟨rfl, rfl⟩)
    | (go_at_call 83; refine (CP.out _).mono ?_; rintro e w' ⟨rfl, rfl⟩))
  go_ret
  exact ⟨rfl, (Below.refl _ _).alloc (Nat.le_refl _) _⟩
set_option maxHeartbeats 1000000 in
set_option maxRecDepth 20000 in
theorem right_no5 (f : Fs) (w : World) (hf : FsOk f) (t0 : (f.mark : Int) = 71) (t1 : (f.st : Int) ≤ 1) (t2 : 1 ≤ (f.cnt : Int)) (t3 : (f.cnt : Int) ≤ 65536) (t4 : decide (0 ≤ f.base ∧ f.base < 4611686018427387904) = true) (n5 : decide (f.base ≤ 4611686018427387904 - (f.cnt : Int)) = false) : Calls Tryz.prog 66 #[fsV f] w fun e w' => e = .returned (.bool false) ∧ Below w.heap.size w w' := by
  have CO := hid (fun w => isoff_any f.base w)
  have CH := hid (fun w => haveoff_any f.base f.cnt w hf.cnt)
  have CP := hid (fun w => ispr_any f.prod f.seq w)
  have CS := hid (fun w => b6size_any f w hf)
  have hl := hf.len
  have hc := hf.cnt
  rw [t4] at CO
  clear t4
  rw [n5] at CH
  clear n5
  clear hf
  unfold fsV fsA at *
  obtain ⟨base, len, mark, sum, st, cnt, first, grt, prod, seq⟩ := f
  dsimp only at *
  generalize hL : 12 + len = L at *

  go_enter Tryz.func66, Tryz.ntmps66
  go_wp2_with (first
    | (go_at_call 82; refine (CO.out _).mono ?_; rintro e w' ⟨rfl, rfl⟩)
    | (go_at_call 84; refine (CH.out _).mono ?_; rintro e w' ⟨rfl, rfl⟩)
    | (go_at_call 83; refine (CP.out _).mono ?_; rintro e w' ⟨rfl, rfl⟩))
  go_ret
  exact ⟨rfl, (Below.refl _ _).alloc (Nat.le_refl _) _⟩
set_option maxHeartbeats 1000000 in
set_option maxRecDepth 20000 in
theorem right_no6 (f : Fs) (w : World) (hf : FsOk f) (t0 : (f.mark : Int) = 71) (t1 : (f.st : Int) ≤ 1) (t2 : 1 ≤ (f.cnt : Int)) (t3 : (f.cnt : Int) ≤ 65536) (t4 : decide (0 ≤ f.base ∧ f.base < 4611686018427387904) = true) (t5 : decide (f.base ≤ 4611686018427387904 - (f.cnt : Int)) = true) (n6 : f.grt < f.first) : Calls Tryz.prog 66 #[fsV f] w fun e w' => e = .returned (.bool false) ∧ Below w.heap.size w w' := by
  have CO := hid (fun w => isoff_any f.base w)
  have CH := hid (fun w => haveoff_any f.base f.cnt w hf.cnt)
  have CP := hid (fun w => ispr_any f.prod f.seq w)
  have CS := hid (fun w => b6size_any f w hf)
  have hl := hf.len
  have hc := hf.cnt
  rw [t4] at CO
  clear t4
  rw [t5] at CH
  clear t5
  clear hf
  unfold fsV fsA at *
  obtain ⟨base, len, mark, sum, st, cnt, first, grt, prod, seq⟩ := f
  dsimp only at *
  generalize hL : 12 + len = L at *

  go_enter Tryz.func66, Tryz.ntmps66
  go_wp2_with (first
    | (go_at_call 82; refine (CO.out _).mono ?_; rintro e w' ⟨rfl, rfl⟩)
    | (go_at_call 84; refine (CH.out _).mono ?_; rintro e w' ⟨rfl, rfl⟩)
    | (go_at_call 83; refine (CP.out _).mono ?_; rintro e w' ⟨rfl, rfl⟩))
  go_ret
  exact ⟨rfl, (Below.refl _ _).alloc (Nat.le_refl _) _⟩
set_option maxHeartbeats 1000000 in
set_option maxRecDepth 20000 in
theorem right_no7 (f : Fs) (w : World) (hf : FsOk f) (t0 : (f.mark : Int) = 71) (t1 : (f.st : Int) ≤ 1) (t2 : 1 ≤ (f.cnt : Int)) (t3 : (f.cnt : Int) ≤ 65536) (t4 : decide (0 ≤ f.base ∧ f.base < 4611686018427387904) = true) (t5 : decide (f.base ≤ 4611686018427387904 - (f.cnt : Int)) = true) (t6 : f.first ≤ f.grt) (n7 : isPr f.prod f.seq = false) : Calls Tryz.prog 66 #[fsV f] w fun e w' => e = .returned (.bool false) ∧ Below w.heap.size w w' := by
  have CO := hid (fun w => isoff_any f.base w)
  have CH := hid (fun w => haveoff_any f.base f.cnt w hf.cnt)
  have CP := hid (fun w => ispr_any f.prod f.seq w)
  have CS := hid (fun w => b6size_any f w hf)
  have hl := hf.len
  have hc := hf.cnt
  rw [t4] at CO
  clear t4
  rw [t5] at CH
  clear t5
  rw [n7] at CP
  clear n7
  clear hf
  unfold fsV fsA at *
  obtain ⟨base, len, mark, sum, st, cnt, first, grt, prod, seq⟩ := f
  dsimp only at *
  generalize hL : 12 + len = L at *

  go_enter Tryz.func66, Tryz.ntmps66
  go_wp2_with (first
    | (go_at_call 82; refine (CO.out _).mono ?_; rintro e w' ⟨rfl, rfl⟩)
    | (go_at_call 84; refine (CH.out _).mono ?_; rintro e w' ⟨rfl, rfl⟩)
    | (go_at_call 83; refine (CP.out _).mono ?_; rintro e w' ⟨rfl, rfl⟩))
  go_ret
  exact ⟨rfl, (Below.refl _ _).alloc (Nat.le_refl _) _⟩
set_option maxHeartbeats 1000000 in
set_option maxRecDepth 20000 in
theorem right_no8 (f : Fs) (w : World) (hf : FsOk f) (t0 : (f.mark : Int) = 71) (t1 : (f.st : Int) ≤ 1) (t2 : 1 ≤ (f.cnt : Int)) (t3 : (f.cnt : Int) ≤ 65536) (t4 : decide (0 ≤ f.base ∧ f.base < 4611686018427387904) = true) (t5 : decide (f.base ≤ 4611686018427387904 - (f.cnt : Int)) = true) (t6 : f.first ≤ f.grt) (t7 : isPr f.prod f.seq = true) (n8 : ((12 + f.len : Nat) : Int) < 58) : Calls Tryz.prog 66 #[fsV f] w fun e w' => e = .returned (.bool false) ∧ Below w.heap.size w w' := by
  have CO := hid (fun w => isoff_any f.base w)
  have CH := hid (fun w => haveoff_any f.base f.cnt w hf.cnt)
  have CP := hid (fun w => ispr_any f.prod f.seq w)
  have CS := hid (fun w => b6size_any f w hf)
  have hl := hf.len
  have hc := hf.cnt
  rw [t4] at CO
  clear t4
  rw [t5] at CH
  clear t5
  rw [t7] at CP
  clear t7
  clear hf
  unfold fsV fsA at *
  obtain ⟨base, len, mark, sum, st, cnt, first, grt, prod, seq⟩ := f
  dsimp only at *
  generalize hL : 12 + len = L at *
  rw [t0] at CS
  go_enter Tryz.func66, Tryz.ntmps66
  go_wp2_with (first
    | (go_at_call 82; refine (CO.out _).mono ?_; rintro e w' ⟨rfl, rfl⟩)
    | (go_at_call 84; refine (CH.out _).mono ?_; rintro e w' ⟨rfl, rfl⟩)
    | (go_at_call 83; refine (CP.out _).mono ?_; rintro e w' ⟨rfl, rfl⟩))
  refine (CS.out _).mono ?_
  rintro e w1 ⟨rfl, b1⟩
  have hb := ((Below.refl _ _).alloc (Nat.le_refl _) _ : Below w.heap.size w (w.alloc (.cells #[.int .i64 base, .int .u32 len, .int .u8 71, .int .u32 sum, .int .u16 st, .int .u32 cnt, .int .i64 first, .int .i64 grt, .int .i64 prod, .int .i32 seq] 59)))
  have hb1 := hb.trans (b1.mono (by simp))
  obtain ⟨c0, c1, c2, c3, c4, c5, c6, c7, c8, c9⟩ := cells10' ((b1.block w.heap.size (by simp)).trans (heap_new w (.cells #[.int .i64 base, .int .u32 len, .int .u8 71, .int .u32 sum, .int .u16 st, .int .u32 cnt, .int .i64 first, .int .i64 grt, .int .i64 prod, .int .i32 seq] 59)))
  have HB1 := hid hb1
  clear hb hb1 b1
  go_wp2_with fail
  go_ret
  exact ⟨rfl, HB1.out⟩
set_option maxHeartbeats 1000000 in
set_option maxRecDepth 20000 in
theorem right_no9 (f : Fs) (w : World) (hf : FsOk f) (t0 : (f.mark : Int) = 71) (t1 : (f.st : Int) ≤ 1) (t2 : 1 ≤ (f.cnt : Int)) (t3 : (f.cnt : Int) ≤ 65536) (t4 : decide (0 ≤ f.base ∧ f.base < 4611686018427387904) = true) (t5 : decide (f.base ≤ 4611686018427387904 - (f.cnt : Int)) = true) (t6 : f.first ≤ f.grt) (t7 : isPr f.prod f.seq = true) (t8 : (58 : Int) ≤ ((12 + f.len : Nat) : Int)) (n9 : (16777216 : Int) < ((12 + f.len : Nat) : Int)) : Calls Tryz.prog 66 #[fsV f] w fun e w' => e = .returned (.bool false) ∧ Below w.heap.size w w' := by
  have CO := hid (fun w => isoff_any f.base w)
  have CH := hid (fun w => haveoff_any f.base f.cnt w hf.cnt)
  have CP := hid (fun w => ispr_any f.prod f.seq w)
  have CS := hid (fun w => b6size_any f w hf)
  have hl := hf.len
  have hc := hf.cnt
  rw [t4] at CO
  clear t4
  rw [t5] at CH
  clear t5
  rw [t7] at CP
  clear t7
  clear hf
  unfold fsV fsA at *
  obtain ⟨base, len, mark, sum, st, cnt, first, grt, prod, seq⟩ := f
  dsimp only at *
  generalize hL : 12 + len = L at *
  rw [t0] at CS
  go_enter Tryz.func66, Tryz.ntmps66
  go_wp2_with (first
    | (go_at_call 82; refine (CO.out _).mono ?_; rintro e w' ⟨rfl, rfl⟩)
    | (go_at_call 84; refine (CH.out _).mono ?_; rintro e w' ⟨rfl, rfl⟩)
    | (go_at_call 83; refine (CP.out _).mono ?_; rintro e w' ⟨rfl, rfl⟩))
  refine (CS.out _).mono ?_
  rintro e w1 ⟨rfl, b1⟩
  have hb := ((Below.refl _ _).alloc (Nat.le_refl _) _ : Below w.heap.size w (w.alloc (.cells #[.int .i64 base, .int .u32 len, .int .u8 71, .int .u32 sum, .int .u16 st, .int .u32 cnt, .int .i64 first, .int .i64 grt, .int .i64 prod, .int .i32 seq] 59)))
  have hb1 := hb.trans (b1.mono (by simp))
  obtain ⟨c0, c1, c2, c3, c4, c5, c6, c7, c8, c9⟩ := cells10' ((b1.block w.heap.size (by simp)).trans (heap_new w (.cells #[.int .i64 base, .int .u32 len, .int .u8 71, .int .u32 sum, .int .u16 st, .int .u32 cnt, .int .i64 first, .int .i64 grt, .int .i64 prod, .int .i32 seq] 59)))
  have HB1 := hid hb1
  clear hb hb1 b1
  go_wp2_with fail
  refine (CS.out _).mono ?_
  rintro e w2 ⟨rfl, b2⟩
  have HB2 := hid (HB1.out.trans (b2.mono HB1.out.size))
  clear b2
  go_wp2_with fail
  go_ret
  exact ⟨ret_bool (decide_eq_false (by omega)), HB2.out⟩
set_option maxHeartbeats 1000000 in
set_option maxRecDepth 20000 in
theorem right_yes (f : Fs) (w : World) (hf : FsOk f) (t0 : (f.mark : Int) = 71) (t1 : (f.st : Int) ≤ 1) (t2 : 1 ≤ (f.cnt : Int)) (t3 : (f.cnt : Int) ≤ 65536) (t4 : decide (0 ≤ f.base ∧ f.base < 4611686018427387904) = true) (t5 : decide (f.base ≤ 4611686018427387904 - (f.cnt : Int)) = true) (t6 : f.first ≤ f.grt) (t7 : isPr f.prod f.seq = true) (t8 : (58 : Int) ≤ ((12 + f.len : Nat) : Int)) (t9 : ((12 + f.len : Nat) : Int) ≤ 16777216) : Calls Tryz.prog 66 #[fsV f] w fun e w' => e = .returned (.bool true) ∧ Below w.heap.size w w' := by
  have CO := hid (fun w => isoff_any f.base w)
  have CH := hid (fun w => haveoff_any f.base f.cnt w hf.cnt)
  have CP := hid (fun w => ispr_any f.prod f.seq w)
  have CS := hid (fun w => b6size_any f w hf)
  have hl := hf.len
  have hc := hf.cnt
  rw [t4] at CO
  clear t4
  rw [t5] at CH
  clear t5
  rw [t7] at CP
  clear t7
  clear hf
  unfold fsV fsA at *
  obtain ⟨base, len, mark, sum, st, cnt, first, grt, prod, seq⟩ := f
  dsimp only at *
  generalize hL : 12 + len = L at *
  rw [t0] at CS
  go_enter Tryz.func66, Tryz.ntmps66
  go_wp2_with (first
    | (go_at_call 82; refine (CO.out _).mono ?_; rintro e w' ⟨rfl, rfl⟩)
    | (go_at_call 84; refine (CH.out _).mono ?_; rintro e w' ⟨rfl, rfl⟩)
    | (go_at_call 83; refine (CP.out _).mono ?_; rintro e w' ⟨rfl, rfl⟩))
  refine (CS.out _).mono ?_
  rintro e w1 ⟨rfl, b1⟩
  have hb := ((Below.refl _ _).alloc (Nat.le_refl _) _ : Below w.heap.size w (w.alloc (.cells #[.int .i64 base, .int .u32 len, .int .u8 71, .int .u32 sum, .int .u16 st, .int .u32 cnt, .int .i64 first, .int .i64 grt, .int .i64 prod, .int .i32 seq] 59)))
  have hb1 := hb.trans (b1.mono (by simp))
  obtain ⟨c0, c1, c2, c3, c4, c5, c6, c7, c8, c9⟩ := cells10' ((b1.block w.heap.size (by simp)).trans (heap_new w (.cells #[.int .i64 base, .int .u32 len, .int .u8 71, .int .u32 sum, .int .u16 st, .int .u32 cnt, .int .i64 first, .int .i64 grt, .int .i64 prod, .int .i32 seq] 59)))
  have HB1 := hid hb1
  clear hb hb1 b1
  go_wp2_with fail
  refine (CS.out _).mono ?_
  rintro e w2 ⟨rfl, b2⟩
  have HB2 := hid (HB1.out.trans (b2.mono HB1.out.size))
  clear b2
  go_wp2_with fail
  go_ret
  exact ⟨rfl, HB2.out⟩
theorem right_any (f : Fs) (w : World) (hf : FsOk f) : Calls Tryz.prog 66 #[fsV f] w fun e w' => e = .returned (.bool (rgt f)) ∧ Below w.heap.size w w' := by
  by_cases t0 : (f.mark : Int) = 71
  case neg =>
    rw [show rgt f = false from by rw [← Bool.not_eq_true, rgt_iff]; intro R; exact t0 (by have := R.mark; omega)]
    exact right_no0 f w hf  (by exact t0)
  by_cases t1 : (f.st : Int) ≤ 1
  case neg =>
    rw [show rgt f = false from by rw [← Bool.not_eq_true, rgt_iff]; intro R; exact t1 (by have := R.st; omega)]
    exact right_no1 f w hf t0 (by omega)
  by_cases t2 : 1 ≤ (f.cnt : Int)
  case neg =>
    rw [show rgt f = false from by rw [← Bool.not_eq_true, rgt_iff]; intro R; exact t2 (by have := R.c1; omega)]
    exact right_no2 f w hf t0 t1 (by omega)
  by_cases t3 : (f.cnt : Int) ≤ 65536
  case neg =>
    rw [show rgt f = false from by rw [← Bool.not_eq_true, rgt_iff]; intro R; exact t3 (by have := R.c2; omega)]
    exact right_no3 f w hf t0 t1 t2 (by omega)
  by_cases t4 : decide (0 ≤ f.base ∧ f.base < 4611686018427387904) = true
  case neg =>
    rw [show rgt f = false from by rw [← Bool.not_eq_true, rgt_iff]; intro R; exact t4 (decide_eq_true R.b)]
    exact right_no4 f w hf t0 t1 t2 t3 (by simpa using t4)
  by_cases t5 : decide (f.base ≤ 4611686018427387904 - (f.cnt : Int)) = true
  case neg =>
    rw [show rgt f = false from by rw [← Bool.not_eq_true, rgt_iff]; intro R; exact t5 (decide_eq_true R.o)]
    exact right_no5 f w hf t0 t1 t2 t3 t4 (by simpa using t5)
  by_cases t6 : f.first ≤ f.grt
  case neg =>
    rw [show rgt f = false from by rw [← Bool.not_eq_true, rgt_iff]; intro R; exact t6 R.t]
    exact right_no6 f w hf t0 t1 t2 t3 t4 t5 (by omega)
  by_cases t7 : isPr f.prod f.seq = true
  case neg =>
    rw [show rgt f = false from by rw [← Bool.not_eq_true, rgt_iff]; intro R; exact t7 R.p]
    exact right_no7 f w hf t0 t1 t2 t3 t4 t5 t6 (by simpa using t7)
  by_cases t8 : (58 : Int) ≤ ((12 + f.len : Nat) : Int)
  case neg =>
    rw [show rgt f = false from by rw [← Bool.not_eq_true, rgt_iff]; intro R; exact t8 (by have := R.l1; omega)]
    exact right_no8 f w hf t0 t1 t2 t3 t4 t5 t6 t7 (by omega)
  by_cases t9 : ((12 + f.len : Nat) : Int) ≤ 16777216
  case neg =>
    rw [show rgt f = false from by rw [← Bool.not_eq_true, rgt_iff]; intro R; exact t9 (by have := R.l2; omega)]
    exact right_no9 f w hf t0 t1 t2 t3 t4 t5 t6 t7 t8 (by omega)
  rw [show rgt f = true from rgt_iff.2 ⟨by omega, by omega, by omega, by omega, of_decide_eq_true t4, of_decide_eq_true t5, t6, t7, by omega, by omega⟩]
  exact right_yes f w hf t0 t1 t2 t3 t4 t5 t6 t7 t8 t9
end Go.Proofs.YtihokphamgkkcaaGreat
namespace Go.Proofs.YtihokphamgkkcaaGreat
open Go.RowKit
/-- What peek answers. -/
def PeekP (s : ByteArray) : Value := if pke s = 0 then .tuple #[fsV (fsOf s), .int .i64 0] else .tuple #[noFs, .int .i64 (pke s)]
theorem pke_short {s : ByteArray} (h : s.size < 51) : pke s = 20 := by unfold pke; rw [if_pos h]
theorem pke_ok {s : ByteArray} (h : ¬ s.size < 51) (hr : rgt (fsOf s) = true) : pke s = 0 := by unfold pke; rw [if_neg h, if_pos hr]
theorem pke_no {s : ByteArray} (h : ¬ s.size < 51) (hr : rgt (fsOf s) = false) : pke s = 28 := by unfold pke; rw [if_neg h, if_neg (by rw [hr]; simp)]
set_option maxHeartbeats 1000000 in
set_option maxRecDepth 20000 in
theorem peek_any (s : ByteArray) (w : World) (hs : s.size ≤ 9223372036854775807) :
    Calls Tryz.prog 34 #[.string s] w fun e w' => e = .returned (PeekP s) ∧ Below w.heap.size w w' := by
  unfold PeekP noFs
  by_cases h : s.size < 51
  · rw [pke_short h, if_neg (by decide)]
    have d1 : decide ((s.size : Int) < 51) = true := decide_eq_true (by omega)
    clear h
    go_enter Tryz.func34, Tryz.ntmps34
    go_wp2_with fail
    exact bodyPost_ret (v := .tuple #[.agg #[.int .i64 0, .int .u32 0, .int .u8 0, .int .u32 0, .int .u16 0, .int .u32 0, .int .i64 0, .int .i64 0, .int .i64 0, .int .i32 0], .int .i64 20]) (by simp [results, Tryz.results34, go_sem]) rfl ⟨rfl, (Below.refl _ _).alloc (Nat.le_refl _) _⟩
  · have d1 : decide ((s.size : Int) < 51) = false := decide_eq_false (by omega)
    have cf := fun w => readFields_any s w (by omega) hs
    have cr := fun w => right_any (fsOf s) w (fsOf_ok (by omega))
    have B0 := (Below.refl w.heap.size w).alloc (Nat.le_refl _) (.cells #[.int .i64 0, .int .u32 0, .int .u8 0, .int .u32 0, .int .u16 0, .int .u32 0, .int .i64 0, .int .i64 0, .int .i64 0, .int .i32 0] 59)
    have R0 : (w.alloc (.cells #[.int .i64 0, .int .u32 0, .int .u8 0, .int .u32 0, .int .u16 0, .int .u32 0, .int .i64 0, .int .i64 0, .int .i64 0, .int .i32 0] 59)).heap[w.heap.size]? = some (.cells #[.int .i64 0, .int .u32 0, .int .u8 0, .int .u32 0, .int .u16 0, .int .u32 0, .int .i64 0, .int .i64 0, .int .i64 0, .int .i32 0] 59 (0, 0)) := heap_new _ _
    have S0 : (w.alloc (.cells #[.int .i64 0, .int .u32 0, .int .u8 0, .int .u32 0, .int .u16 0, .int .u32 0, .int .i64 0, .int .i64 0, .int .i64 0, .int .i32 0] 59)).heap.size = w.heap.size + 1 := by simp
    have HB0 := hid B0
    have HR0 := hid R0
    have HS0 := hid S0
    clear B0 R0 S0
    cases hr : rgt (fsOf s) with
    | true =>
      rw [pke_ok h hr, if_pos rfl]
      rw [hr] at cr
      clear h hr
      unfold fsV fsA at *
      generalize fsOf s = F at *
      have CF := hid cf
      have CR := hid cr
      clear cf cr
      go_enter Tryz.func34, Tryz.ntmps34
      go_wp2_with fail
      generalize w.alloc (.cells #[.int .i64 0, .int .u32 0, .int .u8 0, .int .u32 0, .int .u16 0, .int .u32 0, .int .i64 0, .int .i64 0, .int .i64 0, .int .i32 0] 59) = W0 at *
      refine (CF.out _).mono ?_
      rintro e w1 ⟨rfl, b1⟩
      have HB1 := hid b1
      clear b1
      go_wp2_with fail
      have X2 : (w1.alloc (.cells #[.int .i64 F.base, .int .u32 F.len, .int .u8 F.mark, .int .u32 F.sum, .int .u16 F.st, .int .u32 F.cnt, .int .i64 F.first, .int .i64 F.grt, .int .i64 F.prod, .int .i32 F.seq] 59)).heap[w1.heap.size]? = some (.cells #[.int .i64 F.base, .int .u32 F.len, .int .u8 F.mark, .int .u32 F.sum, .int .u16 F.st, .int .u32 F.cnt, .int .i64 F.first, .int .i64 F.grt, .int .i64 F.prod, .int .i32 F.seq] 59 (0, 0)) := heap_new _ _
      have BW := (Below.refl w1.heap.size w1).alloc (Nat.le_refl _) (.cells #[.int .i64 F.base, .int .u32 F.len, .int .u8 F.mark, .int .u32 F.sum, .int .u16 F.st, .int .u32 F.cnt, .int .i64 F.first, .int .i64 F.grt, .int .i64 F.prod, .int .i32 F.seq] 59)
      have S2 : (w1.alloc (.cells #[.int .i64 F.base, .int .u32 F.len, .int .u8 F.mark, .int .u32 F.sum, .int .u16 F.st, .int .u32 F.cnt, .int .i64 F.first, .int .i64 F.grt, .int .i64 F.prod, .int .i32 F.seq] 59)).heap.size = w1.heap.size + 1 := by simp
      generalize w1.alloc (.cells #[.int .i64 F.base, .int .u32 F.len, .int .u8 F.mark, .int .u32 F.sum, .int .u16 F.st, .int .u32 F.cnt, .int .i64 F.first, .int .i64 F.grt, .int .i64 F.prod, .int .i32 F.seq] 59) = W2 at *
      refine (CR.out _).mono ?_
      rintro e w3 ⟨rfl, b3⟩
      have s0 := HS0.out
      have s1 := HB1.out.size
      have X3 := (b3.block w1.heap.size (by omega)).trans X2
      have R3 := (b3.block w.heap.size (by omega)).trans ((BW.block w.heap.size (by omega)).trans ((HB1.out.block w.heap.size (by omega)).trans HR0.out))
      have HB3 := hid (((HB0.out.trans (HB1.out.mono (by omega))).trans (BW.mono (by omega))).trans (b3.mono (by omega)))
      obtain ⟨k0, k1, k2, k3, k4, k5, k6, k7, k8, k9⟩ := cells10 X3
      obtain ⟨r0, r1, r2, r3, r4, r5, r6, r7, r8, r9⟩ := cells10 R3
      have z0 : w3.frozen? ⟨w.heap.size, 0, none⟩ = false := froz_of R3
      have z1 : w3.frozen? ⟨w.heap.size, 1, none⟩ = false := froz_of R3
      have z2 : w3.frozen? ⟨w.heap.size, 2, none⟩ = false := froz_of R3
      have z3 : w3.frozen? ⟨w.heap.size, 3, none⟩ = false := froz_of R3
      have z4 : w3.frozen? ⟨w.heap.size, 4, none⟩ = false := froz_of R3
      have z5 : w3.frozen? ⟨w.heap.size, 5, none⟩ = false := froz_of R3
      have z6 : w3.frozen? ⟨w.heap.size, 6, none⟩ = false := froz_of R3
      have z7 : w3.frozen? ⟨w.heap.size, 7, none⟩ = false := froz_of R3
      have z8 : w3.frozen? ⟨w.heap.size, 8, none⟩ = false := froz_of R3
      have z9 : w3.frozen? ⟨w.heap.size, 9, none⟩ = false := froz_of R3
      have HE := hid (store10 R3 (.int .i64 F.base) (.int .u32 F.len) (.int .u8 F.mark) (.int .u32 F.sum) (.int .u16 F.st) (.int .u32 F.cnt) (.int .i64 F.first) (.int .i64 F.grt) (.int .i64 F.prod) (.int .i32 F.seq))
      clear X2 BW S2 b3 s0 s1 X3 R3 HS0 HB1 HR0 HB0 CF CR
      go_wp2_with fail
      have hE := HE.out
      have hB : Below w.heap.size w (((((((((((w3.setCell ⟨w.heap.size, 0, none⟩ (.int .i64 F.base)).setCell ⟨w.heap.size, 1, none⟩ (.int .u32 F.len)).setCell ⟨w.heap.size, 2, none⟩ (.int .u8 F.mark)).setCell ⟨w.heap.size, 3, none⟩ (.int .u32 F.sum)).setCell ⟨w.heap.size, 4, none⟩ (.int .u16 F.st)).setCell ⟨w.heap.size, 5, none⟩ (.int .u32 F.cnt)).setCell ⟨w.heap.size, 6, none⟩ (.int .i64 F.first)).setCell ⟨w.heap.size, 7, none⟩ (.int .i64 F.grt)).setCell ⟨w.heap.size, 8, none⟩ (.int .i64 F.prod)).setCell ⟨w.heap.size, 9, none⟩ (.int .i32 F.seq))) := ((((((((((HB3.out.setCell (Nat.le_refl _) _).setCell (Nat.le_refl _) _).setCell (Nat.le_refl _) _).setCell (Nat.le_refl _) _).setCell (Nat.le_refl _) _).setCell (Nat.le_refl _) _).setCell (Nat.le_refl _) _).setCell (Nat.le_refl _) _).setCell (Nat.le_refl _) _).setCell (Nat.le_refl _) _)
      obtain ⟨e0, e1, e2, e3, e4, e5, e6, e7, e8, e9⟩ := cells10 hE
      clear k0 k1 k2 k3 k4 k5 k6 k7 k8 k9 r0 r1 r2 r3 r4 r5 r6 r7 r8 r9 z0 z1 z2 z3 z4 z5 z6 z7 z8 z9 HE
      generalize ((((((((((w3.setCell ⟨w.heap.size, 0, none⟩ (.int .i64 F.base)).setCell ⟨w.heap.size, 1, none⟩ (.int .u32 F.len)).setCell ⟨w.heap.size, 2, none⟩ (.int .u8 F.mark)).setCell ⟨w.heap.size, 3, none⟩ (.int .u32 F.sum)).setCell ⟨w.heap.size, 4, none⟩ (.int .u16 F.st)).setCell ⟨w.heap.size, 5, none⟩ (.int .u32 F.cnt)).setCell ⟨w.heap.size, 6, none⟩ (.int .i64 F.first)).setCell ⟨w.heap.size, 7, none⟩ (.int .i64 F.grt)).setCell ⟨w.heap.size, 8, none⟩ (.int .i64 F.prod)).setCell ⟨w.heap.size, 9, none⟩ (.int .i32 F.seq)) = WF at *
      exact bodyPost_ret (v := .tuple #[.agg #[.int .i64 F.base, .int .u32 F.len, .int .u8 F.mark, .int .u32 F.sum, .int .u16 F.st, .int .u32 F.cnt, .int .i64 F.first, .int .i64 F.grt, .int .i64 F.prod, .int .i32 F.seq], .int .i64 0]) (by simp [results, Tryz.results34, go_sem, e0, e1, e2, e3, e4, e5, e6, e7, e8, e9]) rfl ⟨rfl, hB⟩
    | false =>
      rw [pke_no h hr, if_neg (by decide)]
      rw [hr] at cr
      clear h hr
      unfold fsV fsA at *
      generalize fsOf s = F at *
      have CF := hid cf
      have CR := hid cr
      clear cf cr
      go_enter Tryz.func34, Tryz.ntmps34
      go_wp2_with fail
      generalize w.alloc (.cells #[.int .i64 0, .int .u32 0, .int .u8 0, .int .u32 0, .int .u16 0, .int .u32 0, .int .i64 0, .int .i64 0, .int .i64 0, .int .i32 0] 59) = W0 at *
      refine (CF.out _).mono ?_
      rintro e w1 ⟨rfl, b1⟩
      have HB1 := hid b1
      clear b1
      go_wp2_with fail
      have BW := (Below.refl w1.heap.size w1).alloc (Nat.le_refl _) (.cells #[.int .i64 F.base, .int .u32 F.len, .int .u8 F.mark, .int .u32 F.sum, .int .u16 F.st, .int .u32 F.cnt, .int .i64 F.first, .int .i64 F.grt, .int .i64 F.prod, .int .i32 F.seq] 59)
      generalize w1.alloc (.cells #[.int .i64 F.base, .int .u32 F.len, .int .u8 F.mark, .int .u32 F.sum, .int .u16 F.st, .int .u32 F.cnt, .int .i64 F.first, .int .i64 F.grt, .int .i64 F.prod, .int .i32 F.seq] 59) = W2 at *
      refine (CR.out _).mono ?_
      rintro e w3 ⟨rfl, b3⟩
      have s0 := HS0.out
      have s1 := HB1.out.size
      have s2 := BW.size
      have R3 := (b3.block w.heap.size (by omega)).trans ((BW.block w.heap.size (by omega)).trans ((HB1.out.block w.heap.size (by omega)).trans HR0.out))
      have HB3 := hid (((HB0.out.trans (HB1.out.mono (by omega))).trans (BW.mono (by omega))).trans (b3.mono (by omega)))
      obtain ⟨r0, r1, r2, r3, r4, r5, r6, r7, r8, r9⟩ := cells10 R3
      have z0 : w3.frozen? ⟨w.heap.size, 0, none⟩ = false := froz_of R3
      have z1 : w3.frozen? ⟨w.heap.size, 1, none⟩ = false := froz_of R3
      have z2 : w3.frozen? ⟨w.heap.size, 2, none⟩ = false := froz_of R3
      have z3 : w3.frozen? ⟨w.heap.size, 3, none⟩ = false := froz_of R3
      have z4 : w3.frozen? ⟨w.heap.size, 4, none⟩ = false := froz_of R3
      have z5 : w3.frozen? ⟨w.heap.size, 5, none⟩ = false := froz_of R3
      have z6 : w3.frozen? ⟨w.heap.size, 6, none⟩ = false := froz_of R3
      have z7 : w3.frozen? ⟨w.heap.size, 7, none⟩ = false := froz_of R3
      have z8 : w3.frozen? ⟨w.heap.size, 8, none⟩ = false := froz_of R3
      have z9 : w3.frozen? ⟨w.heap.size, 9, none⟩ = false := froz_of R3
      have HE := hid (store10 R3 (.int .i64 0) (.int .u32 0) (.int .u8 0) (.int .u32 0) (.int .u16 0) (.int .u32 0) (.int .i64 0) (.int .i64 0) (.int .i64 0) (.int .i32 0))
      clear BW s2 b3 s0 s1 R3 HS0 HB1 HR0 HB0 CF CR
      go_wp2_with fail
      have hE := HE.out
      have hB : Below w.heap.size w (((((((((((w3.setCell ⟨w.heap.size, 0, none⟩ (.int .i64 0)).setCell ⟨w.heap.size, 1, none⟩ (.int .u32 0)).setCell ⟨w.heap.size, 2, none⟩ (.int .u8 0)).setCell ⟨w.heap.size, 3, none⟩ (.int .u32 0)).setCell ⟨w.heap.size, 4, none⟩ (.int .u16 0)).setCell ⟨w.heap.size, 5, none⟩ (.int .u32 0)).setCell ⟨w.heap.size, 6, none⟩ (.int .i64 0)).setCell ⟨w.heap.size, 7, none⟩ (.int .i64 0)).setCell ⟨w.heap.size, 8, none⟩ (.int .i64 0)).setCell ⟨w.heap.size, 9, none⟩ (.int .i32 0))) := ((((((((((HB3.out.setCell (Nat.le_refl _) _).setCell (Nat.le_refl _) _).setCell (Nat.le_refl _) _).setCell (Nat.le_refl _) _).setCell (Nat.le_refl _) _).setCell (Nat.le_refl _) _).setCell (Nat.le_refl _) _).setCell (Nat.le_refl _) _).setCell (Nat.le_refl _) _).setCell (Nat.le_refl _) _)
      obtain ⟨e0, e1, e2, e3, e4, e5, e6, e7, e8, e9⟩ := cells10 hE
      clear r0 r1 r2 r3 r4 r5 r6 r7 r8 r9 z0 z1 z2 z3 z4 z5 z6 z7 z8 z9 HE
      generalize ((((((((((w3.setCell ⟨w.heap.size, 0, none⟩ (.int .i64 0)).setCell ⟨w.heap.size, 1, none⟩ (.int .u32 0)).setCell ⟨w.heap.size, 2, none⟩ (.int .u8 0)).setCell ⟨w.heap.size, 3, none⟩ (.int .u32 0)).setCell ⟨w.heap.size, 4, none⟩ (.int .u16 0)).setCell ⟨w.heap.size, 5, none⟩ (.int .u32 0)).setCell ⟨w.heap.size, 6, none⟩ (.int .i64 0)).setCell ⟨w.heap.size, 7, none⟩ (.int .i64 0)).setCell ⟨w.heap.size, 8, none⟩ (.int .i64 0)).setCell ⟨w.heap.size, 9, none⟩ (.int .i32 0)) = WF at *
      exact bodyPost_ret (v := .tuple #[.agg #[.int .i64 0, .int .u32 0, .int .u8 0, .int .u32 0, .int .u16 0, .int .u32 0, .int .i64 0, .int .i64 0, .int .i64 0, .int .i32 0], .int .i64 28]) (by simp [results, Tryz.results34, go_sem, e0, e1, e2, e3, e4, e5, e6, e7, e8, e9]) rfl ⟨rfl, hB⟩
end Go.Proofs.YtihokphamgkkcaaGreat
