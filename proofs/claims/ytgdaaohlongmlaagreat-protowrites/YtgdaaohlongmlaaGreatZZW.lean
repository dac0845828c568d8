/- Texts of the proof, put together: Zww. -/
import Derived.Test.YtgdaaohlongmlaaGreatMZW
import Derived.Deep.RegionHeld3
import Derived.Deep.LoopGhost
namespace Go.Proofs.YtgdaaohlongmlaaGreat
open Go.RowKit
/-- The four boxes of the arguments, and what lies behind them. -/
def N4 (w : World) (H : Nat) (k1 : Int) (d1 : ByteArray) (o1 t1 m1 k2 : Int) (d2 : ByteArray) (o2 t2 m2 a1 e1 : Int) (b1 : Bool) (x1 n1 : Int) (s1 : ByteArray) (a2 e2 : Int) (b2 : Bool) (x2 n2 : Int) (s2 : ByteArray) (y : World) : Prop := Below w.heap.size w y ∧ y.heap[H]? = some (.cells #[.int .i64 k1, .string d1, .int .i64 o1, .int .i64 t1, .int .i64 m1] 24 (0, 0)) ∧ y.heap[H + 1]? = some (.cells #[.int .i64 k2, .string d2, .int .i64 o2, .int .i64 t2, .int .i64 m2] 24 (0, 0)) ∧ y.heap[H + 2]? = some (.cells #[.int .i64 a1, .int .i64 e1, .bool b1, .int .i64 x1, .int .i64 n1, .string s1] 27 (0, 0)) ∧ y.heap[H + 3]? = some (.cells #[.int .i64 a2, .int .i64 e2, .bool b2, .int .i64 x2, .int .i64 n2, .string s2] 27 (0, 0))
theorem N4.call {w : World} {H : Nat} {k1 : Int} {d1 : ByteArray} {o1 t1 m1 k2 : Int} {d2 : ByteArray} {o2 t2 m2 a1 e1 : Int} {b1 : Bool} {x1 n1 : Int} {s1 : ByteArray} {a2 e2 : Int} {b2 : Bool} {x2 n2 : Int} {s2 : ByteArray} {y z : World} (h : N4 w H k1 d1 o1 t1 m1 k2 d2 o2 t2 m2 a1 e1 b1 x1 n1 s1 a2 e2 b2 x2 n2 s2 y) (hb : Below y.heap.size y z) : N4 w H k1 d1 o1 t1 m1 k2 d2 o2 t2 m2 a1 e1 b1 x1 n1 s1 a2 e2 b2 x2 n2 s2 z :=
  ⟨h.1.trans (hb.mono h.1.size), (hb.block _ (lt_of_heap h.2.1)).trans h.2.1, (hb.block _ (lt_of_heap h.2.2.1)).trans h.2.2.1, (hb.block _ (lt_of_heap h.2.2.2.1)).trans h.2.2.2.1, (hb.block _ (lt_of_heap h.2.2.2.2)).trans h.2.2.2.2⟩
theorem N4.drew {w : World} {H : Nat} {k1 : Int} {d1 : ByteArray} {o1 t1 m1 k2 : Int} {d2 : ByteArray} {o2 t2 m2 a1 e1 : Int} {b1 : Bool} {x1 n1 : Int} {s1 : ByteArray} {a2 e2 : Int} {b2 : Bool} {x2 n2 : Int} {s2 : ByteArray} {y : World} (h : N4 w H k1 d1 o1 t1 m1 k2 d2 o2 t2 m2 a1 e1 b1 x1 n1 s1 a2 e2 b2 x2 n2 s2 y) : N4 w H k1 d1 o1 t1 m1 k2 d2 o2 t2 m2 a1 e1 b1 x1 n1 s1 a2 e2 b2 x2 n2 s2 y.drew := ⟨h.1.drew, h.2⟩
theorem N4.all {w : World} {H : Nat} {k1 : Int} {d1 : ByteArray} {o1 t1 m1 k2 : Int} {d2 : ByteArray} {o2 t2 m2 a1 e1 : Int} {b1 : Bool} {x1 n1 : Int} {s1 : ByteArray} {a2 e2 : Int} {b2 : Bool} {x2 n2 : Int} {s2 : ByteArray} {y : World} (h : N4 w H k1 d1 o1 t1 m1 k2 d2 o2 t2 m2 a1 e1 b1 x1 n1 s1 a2 e2 b2 x2 n2 s2 y) : y.cell? ⟨H, 0, none⟩ = some (.int .i64 k1) ∧ y.cell? ⟨H, 1, none⟩ = some (.string d1) ∧ y.cell? ⟨H, 2, none⟩ = some (.int .i64 o1) ∧ y.cell? ⟨H, 3, none⟩ = some (.int .i64 t1) ∧ y.cell? ⟨H, 4, none⟩ = some (.int .i64 m1) ∧ y.cell? ⟨H + 1, 0, none⟩ = some (.int .i64 k2) ∧ y.cell? ⟨H + 1, 1, none⟩ = some (.string d2) ∧ y.cell? ⟨H + 1, 2, none⟩ = some (.int .i64 o2) ∧ y.cell? ⟨H + 1, 3, none⟩ = some (.int .i64 t2) ∧ y.cell? ⟨H + 1, 4, none⟩ = some (.int .i64 m2) ∧ y.cell? ⟨H + 2, 0, none⟩ = some (.int .i64 a1) ∧ y.cell? ⟨H + 2, 1, none⟩ = some (.int .i64 e1) ∧ y.cell? ⟨H + 2, 2, none⟩ = some (.bool b1) ∧ y.cell? ⟨H + 2, 3, none⟩ = some (.int .i64 x1) ∧ y.cell? ⟨H + 2, 4, none⟩ = some (.int .i64 n1) ∧ y.cell? ⟨H + 2, 5, none⟩ = some (.string s1) ∧ y.cell? ⟨H + 3, 0, none⟩ = some (.int .i64 a2) ∧ y.cell? ⟨H + 3, 1, none⟩ = some (.int .i64 e2) ∧ y.cell? ⟨H + 3, 2, none⟩ = some (.bool b2) ∧ y.cell? ⟨H + 3, 3, none⟩ = some (.int .i64 x2) ∧ y.cell? ⟨H + 3, 4, none⟩ = some (.int .i64 n2) ∧ y.cell? ⟨H + 3, 5, none⟩ = some (.string s2) :=
  ⟨(cell_of h.2.1).trans rfl, (cell_of h.2.1).trans rfl, (cell_of h.2.1).trans rfl, (cell_of h.2.1).trans rfl, (cell_of h.2.1).trans rfl, (cell_of h.2.2.1).trans rfl, (cell_of h.2.2.1).trans rfl, (cell_of h.2.2.1).trans rfl, (cell_of h.2.2.1).trans rfl, (cell_of h.2.2.1).trans rfl, (cell_of h.2.2.2.1).trans rfl, (cell_of h.2.2.2.1).trans rfl, (cell_of h.2.2.2.1).trans rfl, (cell_of h.2.2.2.1).trans rfl, (cell_of h.2.2.2.1).trans rfl, (cell_of h.2.2.2.1).trans rfl, (cell_of h.2.2.2.2).trans rfl, (cell_of h.2.2.2.2).trans rfl, (cell_of h.2.2.2.2).trans rfl, (cell_of h.2.2.2.2).trans rfl, (cell_of h.2.2.2.2).trans rfl, (cell_of h.2.2.2.2).trans rfl⟩
set_option maxHeartbeats 2000000 in
set_option maxRecDepth 20000 in
theorem writes_walk (k1 : Int) (d1 : ByteArray) (o1 t1 m1 k2 : Int) (d2 : ByteArray) (o2 t2 m2 a1 e1 : Int) (b1 : Bool) (x1 n1 : Int) (s1 : ByteArray) (a2 e2 : Int) (b2 : Bool) (x2 n2 : Int) (s2 : ByteArray) (w : World) :
    Calls Tryz.prog 3 #[.agg #[.int .i64 k1, .string d1, .int .i64 o1, .int .i64 t1, .int .i64 m1], .agg #[.int .i64 k2, .string d2, .int .i64 o2, .int .i64 t2, .int .i64 m2], .agg #[.int .i64 a1, .int .i64 e1, .bool b1, .int .i64 x1, .int .i64 n1, .string s1], .agg #[.int .i64 a2, .int .i64 e2, .bool b2, .int .i64 x2, .int .i64 n2, .string s2]] w fun e w' => e = .returned (.bool true) ∧ Below w.heap.size w w' := by
  have CS := hid (fun w1 => speaks_any w1)
  have n0 : N4 w w.heap.size k1 d1 o1 t1 m1 k2 d2 o2 t2 m2 a1 e1 b1 x1 n1 s1 a2 e2 b2 x2 n2 s2 ((((w.alloc (.cells #[.int .i64 k1, .string d1, .int .i64 o1, .int .i64 t1, .int .i64 m1] 24)).alloc (.cells #[.int .i64 k2, .string d2, .int .i64 o2, .int .i64 t2, .int .i64 m2] 24)).alloc (.cells #[.int .i64 a1, .int .i64 e1, .bool b1, .int .i64 x1, .int .i64 n1, .string s1] 27)).alloc (.cells #[.int .i64 a2, .int .i64 e2, .bool b2, .int .i64 x2, .int .i64 n2, .string s2] 27)) := ⟨((((Below.refl _ _).alloc (Nat.le_refl _) _).alloc (by simp) _).alloc (by simp; omega) _).alloc (by simp; omega) _, heap_alloc_at (heap_alloc_at (heap_alloc_at (heap_new _ _))), heap_alloc_at (heap_alloc_at (heap_new' _ _ _ (by simp))), heap_alloc_at (heap_new' _ _ _ (by simp)), heap_new' _ _ _ (by simp)⟩
  go_enter Tryz.func3, Tryz.ntmps3
  go_wp2_with fail
  generalize ((((w.alloc (.cells #[.int .i64 k1, .string d1, .int .i64 o1, .int .i64 t1, .int .i64 m1] 24)).alloc (.cells #[.int .i64 k2, .string d2, .int .i64 o2, .int .i64 t2, .int .i64 m2] 24)).alloc (.cells #[.int .i64 a1, .int .i64 e1, .bool b1, .int .i64 x1, .int .i64 n1, .string s1] 27)).alloc (.cells #[.int .i64 a2, .int .i64 e2, .bool b2, .int .i64 x2, .int .i64 n2, .string s2] 27)) = w0 at *
  refine (CS.out w0).mono ?_
  rintro e w1 ⟨rfl, b1'⟩
  have N1 := hid (n0.call b1')
  clear n0 b1' CS
  have c0_0 : w1.cell? ⟨w.heap.size, 0, none⟩ = some (.int .i64 k1) := (cell_of N1.out.2.1).trans rfl
  have c0_1 : w1.cell? ⟨w.heap.size, 1, none⟩ = some (.string d1) := (cell_of N1.out.2.1).trans rfl
  have c0_2 : w1.cell? ⟨w.heap.size, 2, none⟩ = some (.int .i64 o1) := (cell_of N1.out.2.1).trans rfl
  have c0_3 : w1.cell? ⟨w.heap.size, 3, none⟩ = some (.int .i64 t1) := (cell_of N1.out.2.1).trans rfl
  have c0_4 : w1.cell? ⟨w.heap.size, 4, none⟩ = some (.int .i64 m1) := (cell_of N1.out.2.1).trans rfl
  have c1_0 : w1.cell? ⟨w.heap.size + 1, 0, none⟩ = some (.int .i64 k2) := (cell_of N1.out.2.2.1).trans rfl
  have c1_1 : w1.cell? ⟨w.heap.size + 1, 1, none⟩ = some (.string d2) := (cell_of N1.out.2.2.1).trans rfl
  have c1_2 : w1.cell? ⟨w.heap.size + 1, 2, none⟩ = some (.int .i64 o2) := (cell_of N1.out.2.2.1).trans rfl
  have c1_3 : w1.cell? ⟨w.heap.size + 1, 3, none⟩ = some (.int .i64 t2) := (cell_of N1.out.2.2.1).trans rfl
  have c1_4 : w1.cell? ⟨w.heap.size + 1, 4, none⟩ = some (.int .i64 m2) := (cell_of N1.out.2.2.1).trans rfl
  go_wp2_with fail
  have N2 := hid (N1.out.call ((Below.refl _ _).alloc (Nat.le_refl _) (.cells #[.int .i64 k1, .string d1, .int .i64 o1, .int .i64 t1, .int .i64 m1, .int .i64 k2, .string d2, .int .i64 o2, .int .i64 t2, .int .i64 m2] 24)))
  have R2 : Hid ((w1.alloc (.cells #[.int .i64 k1, .string d1, .int .i64 o1, .int .i64 t1, .int .i64 m1, .int .i64 k2, .string d2, .int .i64 o2, .int .i64 t2, .int .i64 m2] 24)).heap[w1.heap.size]? = some (.cells #[.int .i64 k1, .string d1, .int .i64 o1, .int .i64 t1, .int .i64 m1, .int .i64 k2, .string d2, .int .i64 o2, .int .i64 t2, .int .i64 m2] 24 (0, 0))) := hid (heap_new _ _)
  clear N1
  generalize (w1.alloc (.cells #[.int .i64 k1, .string d1, .int .i64 o1, .int .i64 t1, .int .i64 m1, .int .i64 k2, .string d2, .int .i64 o2, .int .i64 t2, .int .i64 m2] 24)) = w2 at *
  generalize w1.heap.size = RBq at *
  go_loopg [27] 2 (fun g i wr => ∃ j : Nat, g + j = 2 ∧ i = .int .i64 j ∧ Hid (N4 w w.heap.size k1 d1 o1 t1 m1 k2 d2 o2 t2 m2 a1 e1 b1 x1 n1 s1 a2 e2 b2 x2 n2 s2 wr) ∧ Hid (wr.heap[RBq]? = some (.cells #[.int .i64 k1, .string d1, .int .i64 o1, .int .i64 t1, .int .i64 m1, .int .i64 k2, .string d2, .int .i64 o2, .int .i64 t2, .int .i64 m2] 24 (0, 0))))
  case atStart => exact ⟨0, by omega, rfl, N2, R2⟩
  case round =>
    obtain ⟨j, hj, rfl, NR, RR'⟩ := hrel
    clear N2 R2
    have hlr := lt_of_heap RR'.out
    rcases (by omega : j = 0 ∨ j = 1 ∨ j = 2) with rfl | rfl | rfl
    · have r0 : wr.cell? ⟨RBq, 0, none⟩ = some (.int .i64 k1) := (cell_of RR'.out).trans rfl
      have r1 : wr.cell? ⟨RBq, 1, none⟩ = some (.string d1) := (cell_of RR'.out).trans rfl
      have r2 : wr.cell? ⟨RBq, 2, none⟩ = some (.int .i64 o1) := (cell_of RR'.out).trans rfl
      have r3 : wr.cell? ⟨RBq, 3, none⟩ = some (.int .i64 t1) := (cell_of RR'.out).trans rfl
      have r4 : wr.cell? ⟨RBq, 4, none⟩ = some (.int .i64 m1) := (cell_of RR'.out).trans rfl
      have CA := hid (fun w1 => ask_any ⟨k1, d1, o1, t1, m1⟩ w1)
      have CB := hid (fun w1 => zask_any ⟨k1, d1, o1, t1, m1⟩ w1)
      unfold asV at CA CB
      generalize askS ⟨k1, d1, o1, t1, m1⟩ = S at *
      generalize askE ⟨k1, d1, o1, t1, m1⟩ = E at *
      go_wp2_with fail
      have X3 : Hid ((wr.alloc (.cells #[.int .i64 k1, .string d1, .int .i64 o1, .int .i64 t1, .int .i64 m1] 24)).heap[wr.heap.size]? = some (.cells #[.int .i64 k1, .string d1, .int .i64 o1, .int .i64 t1, .int .i64 m1] 24 (0, 0))) := hid (heap_new _ _)
      have N3 := hid (NR.out.call ((Below.refl _ _).alloc (Nat.le_refl _) (.cells #[.int .i64 k1, .string d1, .int .i64 o1, .int .i64 t1, .int .i64 m1] 24)))
      have R3 : Hid ((wr.alloc (.cells #[.int .i64 k1, .string d1, .int .i64 o1, .int .i64 t1, .int .i64 m1] 24)).heap[RBq]? = some (.cells #[.int .i64 k1, .string d1, .int .i64 o1, .int .i64 t1, .int .i64 m1, .int .i64 k2, .string d2, .int .i64 o2, .int .i64 t2, .int .i64 m2] 24 (0, 0))) := hid (heap_alloc_at RR'.out)
      clear NR RR' r0 r1 r2 r3 r4
      generalize wr.alloc (.cells #[.int .i64 k1, .string d1, .int .i64 o1, .int .i64 t1, .int .i64 m1] 24) = w3 at *
      generalize wr.heap.size = XB at *
      refine (CA.out w3).mono ?_
      rintro e w4 ⟨rfl, b4⟩
      have X4 := hid ((b4.block _ (lt_of_heap X3.out)).trans X3.out)
      have N5 := hid (N3.out.call b4)
      have R4 := hid ((b4.block _ (lt_of_heap R3.out)).trans R3.out)
      clear X3 N3 R3 b4 CA
      have r0 : w4.cell? ⟨XB, 0, none⟩ = some (.int .i64 k1) := (cell_of X4.out).trans rfl
      have r1 : w4.cell? ⟨XB, 1, none⟩ = some (.string d1) := (cell_of X4.out).trans rfl
      have r2 : w4.cell? ⟨XB, 2, none⟩ = some (.int .i64 o1) := (cell_of X4.out).trans rfl
      have r3 : w4.cell? ⟨XB, 3, none⟩ = some (.int .i64 t1) := (cell_of X4.out).trans rfl
      have r4 : w4.cell? ⟨XB, 4, none⟩ = some (.int .i64 m1) := (cell_of X4.out).trans rfl
      go_wp2_with fail
      refine (CB.out w4).mono ?_
      rintro e w5 ⟨rfl, b5⟩
      have N6 := hid (N5.out.call b5)
      have R5 := hid ((b5.block _ (lt_of_heap R4.out)).trans R4.out)
      clear X4 N5 R4 b5 CB r0 r1 r2 r3 r4
      go_wp2_with fail
      go_roundg 1
      case measure => omega
      case rel => exact ⟨1, by omega, by first | rfl | go_num, N6, R5⟩
    · have r0 : wr.cell? ⟨RBq, 5, none⟩ = some (.int .i64 k2) := (cell_of RR'.out).trans rfl
      have r1 : wr.cell? ⟨RBq, 6, none⟩ = some (.string d2) := (cell_of RR'.out).trans rfl
      have r2 : wr.cell? ⟨RBq, 7, none⟩ = some (.int .i64 o2) := (cell_of RR'.out).trans rfl
      have r3 : wr.cell? ⟨RBq, 8, none⟩ = some (.int .i64 t2) := (cell_of RR'.out).trans rfl
      have r4 : wr.cell? ⟨RBq, 9, none⟩ = some (.int .i64 m2) := (cell_of RR'.out).trans rfl
      have CA := hid (fun w1 => ask_any ⟨k2, d2, o2, t2, m2⟩ w1)
      have CB := hid (fun w1 => zask_any ⟨k2, d2, o2, t2, m2⟩ w1)
      unfold asV at CA CB
      generalize askS ⟨k2, d2, o2, t2, m2⟩ = S at *
      generalize askE ⟨k2, d2, o2, t2, m2⟩ = E at *
      go_wp2_with fail
      have X3 : Hid ((wr.alloc (.cells #[.int .i64 k2, .string d2, .int .i64 o2, .int .i64 t2, .int .i64 m2] 24)).heap[wr.heap.size]? = some (.cells #[.int .i64 k2, .string d2, .int .i64 o2, .int .i64 t2, .int .i64 m2] 24 (0, 0))) := hid (heap_new _ _)
      have N3 := hid (NR.out.call ((Below.refl _ _).alloc (Nat.le_refl _) (.cells #[.int .i64 k2, .string d2, .int .i64 o2, .int .i64 t2, .int .i64 m2] 24)))
      have R3 : Hid ((wr.alloc (.cells #[.int .i64 k2, .string d2, .int .i64 o2, .int .i64 t2, .int .i64 m2] 24)).heap[RBq]? = some (.cells #[.int .i64 k1, .string d1, .int .i64 o1, .int .i64 t1, .int .i64 m1, .int .i64 k2, .string d2, .int .i64 o2, .int .i64 t2, .int .i64 m2] 24 (0, 0))) := hid (heap_alloc_at RR'.out)
      clear NR RR' r0 r1 r2 r3 r4
      generalize wr.alloc (.cells #[.int .i64 k2, .string d2, .int .i64 o2, .int .i64 t2, .int .i64 m2] 24) = w3 at *
      generalize wr.heap.size = XB at *
      refine (CA.out w3).mono ?_
      rintro e w4 ⟨rfl, b4⟩
      have X4 := hid ((b4.block _ (lt_of_heap X3.out)).trans X3.out)
      have N5 := hid (N3.out.call b4)
      have R4 := hid ((b4.block _ (lt_of_heap R3.out)).trans R3.out)
      clear X3 N3 R3 b4 CA
      have r0 : w4.cell? ⟨XB, 0, none⟩ = some (.int .i64 k2) := (cell_of X4.out).trans rfl
      have r1 : w4.cell? ⟨XB, 1, none⟩ = some (.string d2) := (cell_of X4.out).trans rfl
      have r2 : w4.cell? ⟨XB, 2, none⟩ = some (.int .i64 o2) := (cell_of X4.out).trans rfl
      have r3 : w4.cell? ⟨XB, 3, none⟩ = some (.int .i64 t2) := (cell_of X4.out).trans rfl
      have r4 : w4.cell? ⟨XB, 4, none⟩ = some (.int .i64 m2) := (cell_of X4.out).trans rfl
      go_wp2_with fail
      refine (CB.out w4).mono ?_
      rintro e w5 ⟨rfl, b5⟩
      have N6 := hid (N5.out.call b5)
      have R5 := hid ((b5.block _ (lt_of_heap R4.out)).trans R4.out)
      clear X4 N5 R4 b5 CB r0 r1 r2 r3 r4
      go_wp2_with fail
      go_roundg 0
      case measure => omega
      case rel => exact ⟨2, by omega, by first | rfl | go_num, N6, R5⟩
    · clear RR' hlr
      have c2_0 : wr.cell? ⟨w.heap.size + 2, 0, none⟩ = some (.int .i64 a1) := (cell_of NR.out.2.2.2.1).trans rfl
      have c2_1 : wr.cell? ⟨w.heap.size + 2, 1, none⟩ = some (.int .i64 e1) := (cell_of NR.out.2.2.2.1).trans rfl
      have c2_2 : wr.cell? ⟨w.heap.size + 2, 2, none⟩ = some (.bool b1) := (cell_of NR.out.2.2.2.1).trans rfl
      have c2_3 : wr.cell? ⟨w.heap.size + 2, 3, none⟩ = some (.int .i64 x1) := (cell_of NR.out.2.2.2.1).trans rfl
      have c2_4 : wr.cell? ⟨w.heap.size + 2, 4, none⟩ = some (.int .i64 n1) := (cell_of NR.out.2.2.2.1).trans rfl
      have c2_5 : wr.cell? ⟨w.heap.size + 2, 5, none⟩ = some (.string s1) := (cell_of NR.out.2.2.2.1).trans rfl
      have c3_0 : wr.cell? ⟨w.heap.size + 3, 0, none⟩ = some (.int .i64 a2) := (cell_of NR.out.2.2.2.2).trans rfl
      have c3_1 : wr.cell? ⟨w.heap.size + 3, 1, none⟩ = some (.int .i64 e2) := (cell_of NR.out.2.2.2.2).trans rfl
      have c3_2 : wr.cell? ⟨w.heap.size + 3, 2, none⟩ = some (.bool b2) := (cell_of NR.out.2.2.2.2).trans rfl
      have c3_3 : wr.cell? ⟨w.heap.size + 3, 3, none⟩ = some (.int .i64 x2) := (cell_of NR.out.2.2.2.2).trans rfl
      have c3_4 : wr.cell? ⟨w.heap.size + 3, 4, none⟩ = some (.int .i64 n2) := (cell_of NR.out.2.2.2.2).trans rfl
      have c3_5 : wr.cell? ⟨w.heap.size + 3, 5, none⟩ = some (.string s2) := (cell_of NR.out.2.2.2.2).trans rfl
      go_wp2_with fail
      have N2 := hid (NR.out.call ((Below.refl _ _).alloc (Nat.le_refl _) (.cells #[.int .i64 a1, .int .i64 e1, .bool b1, .int .i64 x1, .int .i64 n1, .string s1, .int .i64 a2, .int .i64 e2, .bool b2, .int .i64 x2, .int .i64 n2, .string s2] 27)))
      have R2 : Hid ((wr.alloc (.cells #[.int .i64 a1, .int .i64 e1, .bool b1, .int .i64 x1, .int .i64 n1, .string s1, .int .i64 a2, .int .i64 e2, .bool b2, .int .i64 x2, .int .i64 n2, .string s2] 27)).heap[wr.heap.size]? = some (.cells #[.int .i64 a1, .int .i64 e1, .bool b1, .int .i64 x1, .int .i64 n1, .string s1, .int .i64 a2, .int .i64 e2, .bool b2, .int .i64 x2, .int .i64 n2, .string s2] 27 (0, 0))) := hid (heap_new _ _)
      clear NR
      generalize (wr.alloc (.cells #[.int .i64 a1, .int .i64 e1, .bool b1, .int .i64 x1, .int .i64 n1, .string s1, .int .i64 a2, .int .i64 e2, .bool b2, .int .i64 x2, .int .i64 n2, .string s2] 27)) = w2 at *
      generalize wr.heap.size = RBp at *
      go_loopg [54] 2 (fun g i wr => ∃ j : Nat, g + j = 2 ∧ i = .int .i64 j ∧ Hid (N4 w w.heap.size k1 d1 o1 t1 m1 k2 d2 o2 t2 m2 a1 e1 b1 x1 n1 s1 a2 e2 b2 x2 n2 s2 wr) ∧ Hid (wr.heap[RBp]? = some (.cells #[.int .i64 a1, .int .i64 e1, .bool b1, .int .i64 x1, .int .i64 n1, .string s1, .int .i64 a2, .int .i64 e2, .bool b2, .int .i64 x2, .int .i64 n2, .string s2] 27 (0, 0))))
      case atStart => exact ⟨0, by omega, rfl, N2, R2⟩
      case round =>
        obtain ⟨j, hj, rfl, NR, RR'⟩ := hrel
        clear N2 R2
        have hlr := lt_of_heap RR'.out
        rcases (by omega : j = 0 ∨ j = 1 ∨ j = 2) with rfl | rfl | rfl
        · have r0 : wr.cell? ⟨RBp, 0, none⟩ = some (.int .i64 a1) := (cell_of RR'.out).trans rfl
          have r1 : wr.cell? ⟨RBp, 1, none⟩ = some (.int .i64 e1) := (cell_of RR'.out).trans rfl
          have r2 : wr.cell? ⟨RBp, 2, none⟩ = some (.bool b1) := (cell_of RR'.out).trans rfl
          have r3 : wr.cell? ⟨RBp, 3, none⟩ = some (.int .i64 x1) := (cell_of RR'.out).trans rfl
          have r4 : wr.cell? ⟨RBp, 4, none⟩ = some (.int .i64 n1) := (cell_of RR'.out).trans rfl
          have r5 : wr.cell? ⟨RBp, 5, none⟩ = some (.string s1) := (cell_of RR'.out).trans rfl
          have CA := hid (fun w1 => reply_any ⟨a1, e1, b1, x1, n1, s1⟩ w1)
          have CB := hid (fun w1 => zreply_any ⟨a1, e1, b1, x1, n1, s1⟩ w1)
          unfold rsV at CA CB
          generalize repS ⟨a1, e1, b1, x1, n1, s1⟩ = S at *
          generalize repE ⟨a1, e1, b1, x1, n1, s1⟩ = E at *
          go_wp2_with fail
          have X3 : Hid ((wr.alloc (.cells #[.int .i64 a1, .int .i64 e1, .bool b1, .int .i64 x1, .int .i64 n1, .string s1] 27)).heap[wr.heap.size]? = some (.cells #[.int .i64 a1, .int .i64 e1, .bool b1, .int .i64 x1, .int .i64 n1, .string s1] 27 (0, 0))) := hid (heap_new _ _)
          have N3 := hid (NR.out.call ((Below.refl _ _).alloc (Nat.le_refl _) (.cells #[.int .i64 a1, .int .i64 e1, .bool b1, .int .i64 x1, .int .i64 n1, .string s1] 27)))
          have R3 : Hid ((wr.alloc (.cells #[.int .i64 a1, .int .i64 e1, .bool b1, .int .i64 x1, .int .i64 n1, .string s1] 27)).heap[RBp]? = some (.cells #[.int .i64 a1, .int .i64 e1, .bool b1, .int .i64 x1, .int .i64 n1, .string s1, .int .i64 a2, .int .i64 e2, .bool b2, .int .i64 x2, .int .i64 n2, .string s2] 27 (0, 0))) := hid (heap_alloc_at RR'.out)
          clear NR RR' r0 r1 r2 r3 r4 r5
          generalize wr.alloc (.cells #[.int .i64 a1, .int .i64 e1, .bool b1, .int .i64 x1, .int .i64 n1, .string s1] 27) = w3 at *
          generalize wr.heap.size = XB at *
          refine (CA.out w3).mono ?_
          rintro e w4 ⟨rfl, b4⟩
          have X4 := hid ((b4.block _ (lt_of_heap X3.out)).trans X3.out)
          have N5 := hid (N3.out.call b4)
          have R4 := hid ((b4.block _ (lt_of_heap R3.out)).trans R3.out)
          clear X3 N3 R3 b4 CA
          have r0 : w4.cell? ⟨XB, 0, none⟩ = some (.int .i64 a1) := (cell_of X4.out).trans rfl
          have r1 : w4.cell? ⟨XB, 1, none⟩ = some (.int .i64 e1) := (cell_of X4.out).trans rfl
          have r2 : w4.cell? ⟨XB, 2, none⟩ = some (.bool b1) := (cell_of X4.out).trans rfl
          have r3 : w4.cell? ⟨XB, 3, none⟩ = some (.int .i64 x1) := (cell_of X4.out).trans rfl
          have r4 : w4.cell? ⟨XB, 4, none⟩ = some (.int .i64 n1) := (cell_of X4.out).trans rfl
          have r5 : w4.cell? ⟨XB, 5, none⟩ = some (.string s1) := (cell_of X4.out).trans rfl
          go_wp2_with fail
          refine (CB.out w4).mono ?_
          rintro e w5 ⟨rfl, b5⟩
          have N6 := hid (N5.out.call b5)
          have R5 := hid ((b5.block _ (lt_of_heap R4.out)).trans R4.out)
          clear X4 N5 R4 b5 CB r0 r1 r2 r3 r4 r5
          go_wp2_with fail
          go_roundg 1
          case measure => omega
          case rel => exact ⟨1, by omega, by first | rfl | go_num, N6, R5⟩
        · have r0 : wr.cell? ⟨RBp, 6, none⟩ = some (.int .i64 a2) := (cell_of RR'.out).trans rfl
          have r1 : wr.cell? ⟨RBp, 7, none⟩ = some (.int .i64 e2) := (cell_of RR'.out).trans rfl
          have r2 : wr.cell? ⟨RBp, 8, none⟩ = some (.bool b2) := (cell_of RR'.out).trans rfl
          have r3 : wr.cell? ⟨RBp, 9, none⟩ = some (.int .i64 x2) := (cell_of RR'.out).trans rfl
          have r4 : wr.cell? ⟨RBp, 10, none⟩ = some (.int .i64 n2) := (cell_of RR'.out).trans rfl
          have r5 : wr.cell? ⟨RBp, 11, none⟩ = some (.string s2) := (cell_of RR'.out).trans rfl
          have CA := hid (fun w1 => reply_any ⟨a2, e2, b2, x2, n2, s2⟩ w1)
          have CB := hid (fun w1 => zreply_any ⟨a2, e2, b2, x2, n2, s2⟩ w1)
          unfold rsV at CA CB
          generalize repS ⟨a2, e2, b2, x2, n2, s2⟩ = S at *
          generalize repE ⟨a2, e2, b2, x2, n2, s2⟩ = E at *
          go_wp2_with fail
          have X3 : Hid ((wr.alloc (.cells #[.int .i64 a2, .int .i64 e2, .bool b2, .int .i64 x2, .int .i64 n2, .string s2] 27)).heap[wr.heap.size]? = some (.cells #[.int .i64 a2, .int .i64 e2, .bool b2, .int .i64 x2, .int .i64 n2, .string s2] 27 (0, 0))) := hid (heap_new _ _)
          have N3 := hid (NR.out.call ((Below.refl _ _).alloc (Nat.le_refl _) (.cells #[.int .i64 a2, .int .i64 e2, .bool b2, .int .i64 x2, .int .i64 n2, .string s2] 27)))
          have R3 : Hid ((wr.alloc (.cells #[.int .i64 a2, .int .i64 e2, .bool b2, .int .i64 x2, .int .i64 n2, .string s2] 27)).heap[RBp]? = some (.cells #[.int .i64 a1, .int .i64 e1, .bool b1, .int .i64 x1, .int .i64 n1, .string s1, .int .i64 a2, .int .i64 e2, .bool b2, .int .i64 x2, .int .i64 n2, .string s2] 27 (0, 0))) := hid (heap_alloc_at RR'.out)
          clear NR RR' r0 r1 r2 r3 r4 r5
          generalize wr.alloc (.cells #[.int .i64 a2, .int .i64 e2, .bool b2, .int .i64 x2, .int .i64 n2, .string s2] 27) = w3 at *
          generalize wr.heap.size = XB at *
          refine (CA.out w3).mono ?_
          rintro e w4 ⟨rfl, b4⟩
          have X4 := hid ((b4.block _ (lt_of_heap X3.out)).trans X3.out)
          have N5 := hid (N3.out.call b4)
          have R4 := hid ((b4.block _ (lt_of_heap R3.out)).trans R3.out)
          clear X3 N3 R3 b4 CA
          have r0 : w4.cell? ⟨XB, 0, none⟩ = some (.int .i64 a2) := (cell_of X4.out).trans rfl
          have r1 : w4.cell? ⟨XB, 1, none⟩ = some (.int .i64 e2) := (cell_of X4.out).trans rfl
          have r2 : w4.cell? ⟨XB, 2, none⟩ = some (.bool b2) := (cell_of X4.out).trans rfl
          have r3 : w4.cell? ⟨XB, 3, none⟩ = some (.int .i64 x2) := (cell_of X4.out).trans rfl
          have r4 : w4.cell? ⟨XB, 4, none⟩ = some (.int .i64 n2) := (cell_of X4.out).trans rfl
          have r5 : w4.cell? ⟨XB, 5, none⟩ = some (.string s2) := (cell_of X4.out).trans rfl
          go_wp2_with fail
          refine (CB.out w4).mono ?_
          rintro e w5 ⟨rfl, b5⟩
          have N6 := hid (N5.out.call b5)
          have R5 := hid ((b5.block _ (lt_of_heap R4.out)).trans R4.out)
          clear X4 N5 R4 b5 CB r0 r1 r2 r3 r4 r5
          go_wp2_with fail
          go_roundg 0
          case measure => omega
          case rel => exact ⟨2, by omega, by first | rfl | go_num, N6, R5⟩
        · clear RR' hlr
          have CP : Hid (∀ (ka : Int) (da : ByteArray) (oa ta ma kb : Int) (db : ByteArray) (ob tb mb : Int) y, N4 w w.heap.size k1 d1 o1 t1 m1 k2 d2 o2 t2 m2 a1 e1 b1 x1 n1 s1 a2 e2 b2 x2 n2 s2 y → Calls Tryz.prog 10 #[.agg #[.int .i64 ka, .string da, .int .i64 oa, .int .i64 ta, .int .i64 ma], .agg #[.int .i64 kb, .string db, .int .i64 ob, .int .i64 tb, .int .i64 mb]] y fun e w' => e = .returned (.bool (sameQ ⟨ka, da, oa, ta, ma⟩ ⟨kb, db, ob, tb, mb⟩)) ∧ N4 w w.heap.size k1 d1 o1 t1 m1 k2 d2 o2 t2 m2 a1 e1 b1 x1 n1 s1 a2 e2 b2 x2 n2 s2 w') := hid (fun ka da oa ta ma kb db ob tb mb y hy => (sameask_any ⟨ka, da, oa, ta, ma⟩ ⟨kb, db, ob, tb, mb⟩ y).mono fun e w' h => ⟨h.1, hy.call h.2⟩)
          have CX : Hid (∀ (ka : Int) (da : ByteArray) (oa ta ma kb : Int) (db : ByteArray) (ob tb mb : Int) y, N4 w w.heap.size k1 d1 o1 t1 m1 k2 d2 o2 t2 m2 a1 e1 b1 x1 n1 s1 a2 e2 b2 x2 n2 s2 y → Calls Tryz.prog 11 #[.agg #[.int .i64 ka, .string da, .int .i64 oa, .int .i64 ta, .int .i64 ma], .agg #[.int .i64 kb, .string db, .int .i64 ob, .int .i64 tb, .int .i64 mb]] y fun e w' => e = .returned (.bool (sameQ ⟨ka, da, oa, ta, ma⟩ ⟨kb, db, ob, tb, mb⟩)) ∧ N4 w w.heap.size k1 d1 o1 t1 m1 k2 d2 o2 t2 m2 a1 e1 b1 x1 n1 s1 a2 e2 b2 x2 n2 s2 w') := hid (fun ka da oa ta ma kb db ob tb mb y hy => (zsameask_any ⟨ka, da, oa, ta, ma⟩ ⟨kb, db, ob, tb, mb⟩ y).mono fun e w' h => ⟨h.1, hy.call h.2⟩)
          have DP : Hid (∀ (ka ra : Int) (ba : Bool) (oa na : Int) (da : ByteArray) (kb rb : Int) (bb : Bool) (ob nb : Int) (db : ByteArray) y, N4 w w.heap.size k1 d1 o1 t1 m1 k2 d2 o2 t2 m2 a1 e1 b1 x1 n1 s1 a2 e2 b2 x2 n2 s2 y → Calls Tryz.prog 12 #[.agg #[.int .i64 ka, .int .i64 ra, .bool ba, .int .i64 oa, .int .i64 na, .string da], .agg #[.int .i64 kb, .int .i64 rb, .bool bb, .int .i64 ob, .int .i64 nb, .string db]] y fun e w' => e = .returned (.bool (sameP ⟨ka, ra, ba, oa, na, da⟩ ⟨kb, rb, bb, ob, nb, db⟩)) ∧ N4 w w.heap.size k1 d1 o1 t1 m1 k2 d2 o2 t2 m2 a1 e1 b1 x1 n1 s1 a2 e2 b2 x2 n2 s2 w') := hid (fun ka ra ba oa na da kb rb bb ob nb db y hy => (samereply_any ⟨ka, ra, ba, oa, na, da⟩ ⟨kb, rb, bb, ob, nb, db⟩ y).mono fun e w' h => ⟨h.1, hy.call h.2⟩)
          have DX : Hid (∀ (ka ra : Int) (ba : Bool) (oa na : Int) (da : ByteArray) (kb rb : Int) (bb : Bool) (ob nb : Int) (db : ByteArray) y, N4 w w.heap.size k1 d1 o1 t1 m1 k2 d2 o2 t2 m2 a1 e1 b1 x1 n1 s1 a2 e2 b2 x2 n2 s2 y → Calls Tryz.prog 13 #[.agg #[.int .i64 ka, .int .i64 ra, .bool ba, .int .i64 oa, .int .i64 na, .string da], .agg #[.int .i64 kb, .int .i64 rb, .bool bb, .int .i64 ob, .int .i64 nb, .string db]] y fun e w' => e = .returned (.bool (sameP ⟨ka, ra, ba, oa, na, da⟩ ⟨kb, rb, bb, ob, nb, db⟩)) ∧ N4 w w.heap.size k1 d1 o1 t1 m1 k2 d2 o2 t2 m2 a1 e1 b1 x1 n1 s1 a2 e2 b2 x2 n2 s2 w') := hid (fun ka ra ba oa na da kb rb bb ob nb db y hy => (zsamereply_any ⟨ka, ra, ba, oa, na, da⟩ ⟨kb, rb, bb, ob, nb, db⟩ y).mono fun e w' h => ⟨h.1, hy.call h.2⟩)
          have M0 := NR.out
          clear NR
          go_wp2_with fail
          generalize w.heap.size = H at *
          go_region_held3 (fun y => y.cell? ⟨H, 0, none⟩ = some (.int .i64 k1) ∧ y.cell? ⟨H, 1, none⟩ = some (.string d1) ∧ y.cell? ⟨H, 2, none⟩ = some (.int .i64 o1) ∧ y.cell? ⟨H, 3, none⟩ = some (.int .i64 t1) ∧ y.cell? ⟨H, 4, none⟩ = some (.int .i64 m1) ∧ y.cell? ⟨H + 1, 0, none⟩ = some (.int .i64 k2) ∧ y.cell? ⟨H + 1, 1, none⟩ = some (.string d2) ∧ y.cell? ⟨H + 1, 2, none⟩ = some (.int .i64 o2) ∧ y.cell? ⟨H + 1, 3, none⟩ = some (.int .i64 t2) ∧ y.cell? ⟨H + 1, 4, none⟩ = some (.int .i64 m2) ∧ y.cell? ⟨H + 2, 0, none⟩ = some (.int .i64 a1) ∧ y.cell? ⟨H + 2, 1, none⟩ = some (.int .i64 e1) ∧ y.cell? ⟨H + 2, 2, none⟩ = some (.bool b1) ∧ y.cell? ⟨H + 2, 3, none⟩ = some (.int .i64 x1) ∧ y.cell? ⟨H + 2, 4, none⟩ = some (.int .i64 n1) ∧ y.cell? ⟨H + 2, 5, none⟩ = some (.string s1) ∧ y.cell? ⟨H + 3, 0, none⟩ = some (.int .i64 a2) ∧ y.cell? ⟨H + 3, 1, none⟩ = some (.int .i64 e2) ∧ y.cell? ⟨H + 3, 2, none⟩ = some (.bool b2) ∧ y.cell? ⟨H + 3, 3, none⟩ = some (.int .i64 x2) ∧ y.cell? ⟨H + 3, 4, none⟩ = some (.int .i64 n2) ∧ y.cell? ⟨H + 3, 5, none⟩ = some (.string s2)) (first | with_reducible exact M0.all | with_reducible exact M0.drew.all | with_reducible exact N4.all (by assumption)) (first | (go_at_call 10; with_reducible refine (CP.out _ _ _ _ _ _ _ _ _ _ _ ?_).mono ?_; (first | assumption | exact N4.drew (by assumption)); rintro e w7 ⟨rfl, N7⟩) | (go_at_call 11; with_reducible refine (CX.out _ _ _ _ _ _ _ _ _ _ _ ?_).mono ?_; (first | assumption | exact N4.drew (by assumption)); rintro e w7 ⟨rfl, N7⟩) | (go_at_call 12; with_reducible refine (DP.out _ _ _ _ _ _ _ _ _ _ _ _ _ ?_).mono ?_; (first | assumption | exact N4.drew (by assumption)); rintro e w7 ⟨rfl, N7⟩) | (go_at_call 13; with_reducible refine (DX.out _ _ _ _ _ _ _ _ _ _ _ _ _ ?_).mono ?_; (first | assumption | exact N4.drew (by assumption)); rintro e w7 ⟨rfl, N7⟩))
          go_wp2_with fail
          go_ret
          exact ⟨rfl, N7.1⟩
end Go.Proofs.YtgdaaohlongmlaaGreat
