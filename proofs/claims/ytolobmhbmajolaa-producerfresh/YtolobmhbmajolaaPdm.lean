/- A producer's tail in memory; what a batch's head says. -/
import Derived.Test.YtolobmhbmajolaaDch
import Derived.Maps.OwnSet
import Derived.Maps.Ext
import Derived.Deep.RegionHeld3
import Derived.Deep.DeepCutAuto
import Derived.BigRegion
import Derived.WalkArith
namespace Go.Proofs.Ytolobmhbmajolaa
open Go.RowKit
/-- What is kept of a batch: base, count, sequence. -/
structure Nt where
  b : Int
  c : Int
  s : Int
deriving DecidableEq
structure NtOk (x : Nt) : Prop where
  b0 : 0 ≤ x.b
  b1 : x.b ≤ 4611686018427387904
  c0 : 1 ≤ x.c
  c1 : x.c ≤ 65536
  s0 : 0 ≤ x.s
  s1 : x.s < 2147483648
def nx (x : Nt) : Int := (x.s + x.c) % 2147483648
abbrev tc (n : Nat) (a0 a1 a2 a3 a4 : Nt) : Array Value := #[.int .i64 n, .int .i64 a0.b, .int .i32 a0.c, .int .i32 a0.s, .int .i64 a1.b, .int .i32 a1.c, .int .i32 a1.s, .int .i64 a2.b, .int .i32 a2.c, .int .i32 a2.s, .int .i64 a3.b, .int .i32 a3.c, .int .i32 a3.s, .int .i64 a4.b, .int .i32 a4.c, .int .i32 a4.s]
/-- A tail's block. -/
def TA (w : World) (p : Nat) (ns : List Nt) : Prop := ∃ a0 a1 a2 a3 a4 : Nt, ns.length ≤ 5 ∧ ns = [a0, a1, a2, a3, a4].take ns.length ∧ w.heap[p]? = some (.cells (tc ns.length a0 a1 a2 a3 a4) 71 (0, 0))
theorem TA.lt {w : World} {p : Nat} {ns : List Nt} (h : TA w p ns) : p < w.heap.size := by
  obtain ⟨a0, a1, a2, a3, a4, _, _, h⟩ := h
  exact lt_of_heap h
theorem TA.at {w w' : World} {p : Nat} {ns : List Nt} (h : TA w p ns) (hb : w'.heap[p]? = w.heap[p]?) : TA w' p ns := by
  obtain ⟨a0, a1, a2, a3, a4, h1, h2, h⟩ := h
  exact ⟨a0, a1, a2, a3, a4, h1, h2, hb.trans h⟩
theorem TA.len {w : World} {p : Nat} {ns : List Nt} (h : TA w p ns) : ns.length ≤ 5 := by
  obtain ⟨a0, a1, a2, a3, a4, h1, _⟩ := h
  exact h1
theorem cells16 {w : World} {p : Nat} {T : TypeId} {fz : Nat × Nat} {v0 v1 v2 v3 v4 v5 v6 v7 v8 v9 v10 v11 v12 v13 v14 v15 : Value} (h : w.heap[p]? = some (.cells #[v0, v1, v2, v3, v4, v5, v6, v7, v8, v9, v10, v11, v12, v13, v14, v15] T fz)) :
    w.cell? ⟨p, 0, none⟩ = some v0 ∧ w.cell? ⟨p, 1, none⟩ = some v1 ∧ w.cell? ⟨p, 2, none⟩ = some v2 ∧ w.cell? ⟨p, 3, none⟩ = some v3 ∧ w.cell? ⟨p, 4, none⟩ = some v4 ∧ w.cell? ⟨p, 5, none⟩ = some v5 ∧ w.cell? ⟨p, 6, none⟩ = some v6 ∧ w.cell? ⟨p, 7, none⟩ = some v7 ∧ w.cell? ⟨p, 8, none⟩ = some v8 ∧ w.cell? ⟨p, 9, none⟩ = some v9 ∧ w.cell? ⟨p, 10, none⟩ = some v10 ∧ w.cell? ⟨p, 11, none⟩ = some v11 ∧ w.cell? ⟨p, 12, none⟩ = some v12 ∧ w.cell? ⟨p, 13, none⟩ = some v13 ∧ w.cell? ⟨p, 14, none⟩ = some v14 ∧ w.cell? ⟨p, 15, none⟩ = some v15 :=
  ⟨(cell_of h).trans rfl, (cell_of h).trans rfl, (cell_of h).trans rfl, (cell_of h).trans rfl, (cell_of h).trans rfl, (cell_of h).trans rfl, (cell_of h).trans rfl, (cell_of h).trans rfl, (cell_of h).trans rfl, (cell_of h).trans rfl, (cell_of h).trans rfl, (cell_of h).trans rfl, (cell_of h).trans rfl, (cell_of h).trans rfl, (cell_of h).trans rfl, (cell_of h).trans rfl⟩
/-- A head that came in, as a value. -/
abbrev hdV (base len : Int) (pk : Bool) (cnt fst gr prod seq : Int) : Value := .agg #[.int .i64 base, .int .i64 len, .bool pk, .int .i64 cnt, .int .i64 fst, .int .i64 gr, .int .i64 prod, .int .i32 seq]
def sndB (prod seq : Int) : Bool := if prod = -1 then decide (seq = -1) else decide (0 ≤ prod) && decide (0 ≤ seq)
def goodB (base cnt prod seq : Int) : Bool := sndB prod seq && decide (1 ≤ cnt) && decide (cnt ≤ 65536) && decide (0 ≤ base) && decide (base ≤ 4611686018427387904)
theorem sender_any (base len : Int) (pk : Bool) (cnt fst gr prod seq : Int) (w : World) :
    Calls Try.prog 48 #[hdV base len pk cnt fst gr prod seq] w fun e w' => e = .returned (.bool (sndB prod seq)) ∧ Below w.heap.size w w' := by
  go_enter Try.func48, Try.ntmps48
  by_cases h1 : prod = -1
  · have e : sndB prod seq = decide (seq = -1) := by unfold sndB; rw [if_pos h1]
    rw [e]
    subst h1
    go_wp2
    go_ret
    exact ⟨rfl, (Below.refl _ w).alloc (Nat.le_refl _) _⟩
  · have e : sndB prod seq = (decide (0 ≤ prod) && decide (0 ≤ seq)) := by unfold sndB; rw [if_neg h1]
    rw [e]
    have hb := (Below.refl w.heap.size w).alloc (Nat.le_refl _) (.cells #[.int .i64 base, .int .i64 len, .bool pk, .int .i64 cnt, .int .i64 fst, .int .i64 gr, .int .i64 prod, .int .i32 seq] 29)
    by_cases h2 : 0 ≤ prod
    · by_cases h3 : 0 ≤ seq
      · have d2 : decide (0 ≤ prod) = true := by simpa using h2
        have d3 : decide (0 ≤ seq) = true := by simpa using h3
        rw [d2, d3]
        go_wp2
        go_ret
        exact ⟨by simp_all, hb⟩
      · have d2 : decide (0 ≤ prod) = true := by simpa using h2
        have d3 : decide (0 ≤ seq) = false := by simpa using h3
        rw [d2, d3]
        go_wp2
        go_ret
        exact ⟨by simp_all, hb⟩
    · have d2 : decide (0 ≤ prod) = false := by simpa using h2
      rw [d2]
      go_wp2
      go_ret
      exact ⟨by simp_all, hb⟩
theorem ahead_any (a b : Int) (ha0 : 0 ≤ a) (ha : a < 2147483648) (hb0 : 0 ≤ b) (hb : b < 2147483648) (w : World) :
    Calls Try.prog 40 #[.int .i32 a, .int .i32 b] w fun e w' => e = .returned (.bool (decide ((a - b) % 2147483648 < 1073741824))) ∧ w' = w := by
  go_enter Try.func40, Try.ntmps40
  go_wp2
  go_ret
  exact ⟨rfl, rfl⟩
end Go.Proofs.Ytolobmhbmajolaa
