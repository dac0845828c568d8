/- Texts of the proof, put together: Zrw. -/
import Derived.Test.YtgdaaohlongmlaaGreatMZR
import Derived.Deep.LoopGhost
namespace Go.Proofs.YtgdaaohlongmlaaGreat
open Go.RowKit
set_option maxHeartbeats 2000000 in
set_option maxRecDepth 20000 in
theorem reads_walk (s : ByteArray) (w : World) (hs : s.size ≤ 140737488355328) :
    Calls Tryz.prog 4 #[.string s] w fun e w' => e = .returned (.bool true) ∧ Below w.heap.size w w' := by
  have CS := hid (fun w1 => speaks_any w1)
  have hs' := hs
  rcases Nat.lt_trichotomy s.size 50 with hlt | hlt | hlt
  · go_enter Tryz.func4, Tryz.ntmps4
    go_wp2_with fail
    refine (CS.out w).mono ?_
    rintro e w1 ⟨rfl, b1⟩
    have HB0 := hid b1
    clear b1 CS
    go_wp2_with fail
    go_loopg [19] (s.size + 1) (fun g i wr => ∃ j : Nat, g + j = s.size + 1 ∧ i = .int .i64 j ∧ Hid (Below w.heap.size w wr))
    case atStart => exact ⟨0, by omega, rfl, HB0⟩
    case round =>
      clear HB0
      obtain ⟨j, hj, rfl, HB⟩ := hrel
      rcases (by omega : j < s.size ∨ j = s.size ∨ j = s.size + 1) with hjm | hjm | hjm
      · have hjs : (j : Int) ≤ (s.size : Int) := by omega
        have hjI : (j : Int) < ((s.size : Nat) : Int) + 1 := by omega
        have hjn : ¬ (j : Int) = ((s.size : Nat) : Int) := by omega
        have hjb : ((j : Int) == ((s.size : Nat) : Int)) = false := by rw [beq_eq_false_iff_ne]; omega
        have CA := hid (fun w1 => readask_any (s.extract 0 j) w1 (by first | omega | (rw [ByteArray.size_extract]; omega)))
        have CB := hid (fun w1 => zreadask_any (s.extract 0 j) w1 (by first | omega | (rw [ByteArray.size_extract]; omega)))
        have CC := hid (fun w1 => readreply_any (s.extract 0 j) w1 (by first | omega | (rw [ByteArray.size_extract]; omega)))
        have CD := hid (fun w1 => zreadreply_any (s.extract 0 j) w1 (by first | omega | (rw [ByteArray.size_extract]; omega)))
        generalize raQ (s.extract 0 j) = x at *
        generalize rrQ (s.extract 0 j) = y at *
        obtain ⟨⟨k, d, o, t, m⟩, E⟩ := x
        obtain ⟨⟨pk, pr, pb, po, pn, pd⟩, F⟩ := y
        rw [show rqV (⟨k, d, o, t, m⟩, E) = .tuple #[.agg #[.int .i64 k, .string d, .int .i64 o, .int .i64 t, .int .i64 m], .int .i64 E] from rfl] at CA CB
        rw [show rpV (⟨pk, pr, pb, po, pn, pd⟩, F) = .tuple #[.agg #[.int .i64 pk, .int .i64 pr, .bool pb, .int .i64 po, .int .i64 pn, .string pd], .int .i64 F] from rfl] at CC CD
        have hQ := fun w => q_neq k d o t m w
        have hP := fun w => p_neq pk pr pb po pn pd w
        go_wp2_with fail
        refine (CA.out wr).mono ?_
        rintro e w3 ⟨rfl, b3⟩
        have B3 := hid (HB.out.trans (b3.mono HB.out.size))
        clear b3 HB CA
        go_wp2_with fail
        have X3 : Hid ((w3.alloc (.cells #[.int .i64 k, .string d, .int .i64 o, .int .i64 t, .int .i64 m] 24)).heap[w3.heap.size]? = some (.cells #[.int .i64 k, .string d, .int .i64 o, .int .i64 t, .int .i64 m] 24 (0, 0))) := hid (heap_new _ _)
        have B4 := hid (B3.out.alloc B3.out.size (.cells #[.int .i64 k, .string d, .int .i64 o, .int .i64 t, .int .i64 m] 24))
        generalize w3.alloc (.cells #[.int .i64 k, .string d, .int .i64 o, .int .i64 t, .int .i64 m] 24) = w4 at *
        generalize w3.heap.size = X at *
        clear B3
        refine (CB.out w4).mono ?_
        rintro e w5 ⟨rfl, b5⟩
        have X5 := hid ((b5.block _ (lt_of_heap X3.out)).trans X3.out)
        have B5 := hid (B4.out.trans (b5.mono B4.out.size))
        clear b5 B4 X3 CB
        go_wp2_with fail
        have Y5 : Hid ((w5.alloc (.cells #[.int .i64 k, .string d, .int .i64 o, .int .i64 t, .int .i64 m] 24)).heap[w5.heap.size]? = some (.cells #[.int .i64 k, .string d, .int .i64 o, .int .i64 t, .int .i64 m] 24 (0, 0))) := hid (heap_new _ _)
        have X6 : Hid ((w5.alloc (.cells #[.int .i64 k, .string d, .int .i64 o, .int .i64 t, .int .i64 m] 24)).heap[X]? = _) := hid (heap_alloc_at X5.out)
        have B6 := hid (B5.out.alloc B5.out.size (.cells #[.int .i64 k, .string d, .int .i64 o, .int .i64 t, .int .i64 m] 24))
        generalize w5.alloc (.cells #[.int .i64 k, .string d, .int .i64 o, .int .i64 t, .int .i64 m] 24) = w6 at *
        generalize w5.heap.size = Y at *
        clear B5 X5
        refine (CC.out w6).mono ?_
        rintro e w7 ⟨rfl, b7⟩
        have X7 := hid ((b7.block _ (lt_of_heap X6.out)).trans X6.out)
        have Y7 := hid ((b7.block _ (lt_of_heap Y5.out)).trans Y5.out)
        have B7 := hid (B6.out.trans (b7.mono B6.out.size))
        clear b7 B6 X6 Y5 CC
        go_wp2_with fail
        have Z7 : Hid ((w7.alloc (.cells #[.int .i64 pk, .int .i64 pr, .bool pb, .int .i64 po, .int .i64 pn, .string pd] 27)).heap[w7.heap.size]? = some (.cells #[.int .i64 pk, .int .i64 pr, .bool pb, .int .i64 po, .int .i64 pn, .string pd] 27 (0, 0))) := hid (heap_new _ _)
        have X8 : Hid ((w7.alloc (.cells #[.int .i64 pk, .int .i64 pr, .bool pb, .int .i64 po, .int .i64 pn, .string pd] 27)).heap[X]? = _) := hid (heap_alloc_at X7.out)
        have Y8 : Hid ((w7.alloc (.cells #[.int .i64 pk, .int .i64 pr, .bool pb, .int .i64 po, .int .i64 pn, .string pd] 27)).heap[Y]? = _) := hid (heap_alloc_at Y7.out)
        have B8 := hid (B7.out.alloc B7.out.size (.cells #[.int .i64 pk, .int .i64 pr, .bool pb, .int .i64 po, .int .i64 pn, .string pd] 27))
        generalize w7.alloc (.cells #[.int .i64 pk, .int .i64 pr, .bool pb, .int .i64 po, .int .i64 pn, .string pd] 27) = w8 at *
        generalize w7.heap.size = Z at *
        clear B7 X7 Y7
        refine (CD.out w8).mono ?_
        rintro e w9 ⟨rfl, b9⟩
        have X9 := hid ((b9.block _ (lt_of_heap X8.out)).trans X8.out)
        have Y9 := hid ((b9.block _ (lt_of_heap Y8.out)).trans Y8.out)
        have Z9 := hid ((b9.block _ (lt_of_heap Z7.out)).trans Z7.out)
        have B9 := hid (B8.out.trans (b9.mono B8.out.size))
        have B10 := hid (B9.out.alloc B9.out.size (.cells #[.int .i64 pk, .int .i64 pr, .bool pb, .int .i64 po, .int .i64 pn, .string pd] 27))
        clear b9 B8 X8 Y8 Z7 CD
        have hlx := lt_of_heap X9.out
        have hly := lt_of_heap Y9.out
        have hlz := lt_of_heap Z9.out
        have c0 : w9.cell? ⟨X, 0, none⟩ = some (.int .i64 k) := (cell_of X9.out).trans rfl
        have c1 : w9.cell? ⟨X, 1, none⟩ = some (.string d) := (cell_of X9.out).trans rfl
        have c2 : w9.cell? ⟨X, 2, none⟩ = some (.int .i64 o) := (cell_of X9.out).trans rfl
        have c3 : w9.cell? ⟨X, 3, none⟩ = some (.int .i64 t) := (cell_of X9.out).trans rfl
        have c4 : w9.cell? ⟨X, 4, none⟩ = some (.int .i64 m) := (cell_of X9.out).trans rfl
        have d0 : w9.cell? ⟨Y, 0, none⟩ = some (.int .i64 k) := (cell_of Y9.out).trans rfl
        have d1 : w9.cell? ⟨Y, 1, none⟩ = some (.string d) := (cell_of Y9.out).trans rfl
        have d2 : w9.cell? ⟨Y, 2, none⟩ = some (.int .i64 o) := (cell_of Y9.out).trans rfl
        have d3 : w9.cell? ⟨Y, 3, none⟩ = some (.int .i64 t) := (cell_of Y9.out).trans rfl
        have d4 : w9.cell? ⟨Y, 4, none⟩ = some (.int .i64 m) := (cell_of Y9.out).trans rfl
        have f0 : w9.cell? ⟨Z, 0, none⟩ = some (.int .i64 pk) := (cell_of Z9.out).trans rfl
        have f1 : w9.cell? ⟨Z, 1, none⟩ = some (.int .i64 pr) := (cell_of Z9.out).trans rfl
        have f2 : w9.cell? ⟨Z, 2, none⟩ = some (.bool pb) := (cell_of Z9.out).trans rfl
        have f3 : w9.cell? ⟨Z, 3, none⟩ = some (.int .i64 po) := (cell_of Z9.out).trans rfl
        have f4 : w9.cell? ⟨Z, 4, none⟩ = some (.int .i64 pn) := (cell_of Z9.out).trans rfl
        have f5 : w9.cell? ⟨Z, 5, none⟩ = some (.string pd) := (cell_of Z9.out).trans rfl
        go_wp2_with fail
        go_roundg (gk - 1)
        case measure => omega
        case rel => exact ⟨j + 1, by omega, by first | rfl | go_num, B10⟩
      · have hjs : (j : Int) ≤ (s.size : Int) := by omega
        have CA := hid (fun w1 => readask_any (s) w1 (by first | omega | (rw [ByteArray.size_extract]; omega)))
        have CB := hid (fun w1 => zreadask_any (s) w1 (by first | omega | (rw [ByteArray.size_extract]; omega)))
        have CC := hid (fun w1 => readreply_any (s) w1 (by first | omega | (rw [ByteArray.size_extract]; omega)))
        have CD := hid (fun w1 => zreadreply_any (s) w1 (by first | omega | (rw [ByteArray.size_extract]; omega)))
        generalize raQ (s) = x at *
        generalize rrQ (s) = y at *
        obtain ⟨⟨k, d, o, t, m⟩, E⟩ := x
        obtain ⟨⟨pk, pr, pb, po, pn, pd⟩, F⟩ := y
        rw [show rqV (⟨k, d, o, t, m⟩, E) = .tuple #[.agg #[.int .i64 k, .string d, .int .i64 o, .int .i64 t, .int .i64 m], .int .i64 E] from rfl] at CA CB
        rw [show rpV (⟨pk, pr, pb, po, pn, pd⟩, F) = .tuple #[.agg #[.int .i64 pk, .int .i64 pr, .bool pb, .int .i64 po, .int .i64 pn, .string pd], .int .i64 F] from rfl] at CC CD
        have hQ := fun w => q_neq k d o t m w
        have hP := fun w => p_neq pk pr pb po pn pd w
        go_wp2_with fail
        refine (CA.out wr).mono ?_
        rintro e w3 ⟨rfl, b3⟩
        have B3 := hid (HB.out.trans (b3.mono HB.out.size))
        clear b3 HB CA
        go_wp2_with fail
        have X3 : Hid ((w3.alloc (.cells #[.int .i64 k, .string d, .int .i64 o, .int .i64 t, .int .i64 m] 24)).heap[w3.heap.size]? = some (.cells #[.int .i64 k, .string d, .int .i64 o, .int .i64 t, .int .i64 m] 24 (0, 0))) := hid (heap_new _ _)
        have B4 := hid (B3.out.alloc B3.out.size (.cells #[.int .i64 k, .string d, .int .i64 o, .int .i64 t, .int .i64 m] 24))
        generalize w3.alloc (.cells #[.int .i64 k, .string d, .int .i64 o, .int .i64 t, .int .i64 m] 24) = w4 at *
        generalize w3.heap.size = X at *
        clear B3
        refine (CB.out w4).mono ?_
        rintro e w5 ⟨rfl, b5⟩
        have X5 := hid ((b5.block _ (lt_of_heap X3.out)).trans X3.out)
        have B5 := hid (B4.out.trans (b5.mono B4.out.size))
        clear b5 B4 X3 CB
        go_wp2_with fail
        have Y5 : Hid ((w5.alloc (.cells #[.int .i64 k, .string d, .int .i64 o, .int .i64 t, .int .i64 m] 24)).heap[w5.heap.size]? = some (.cells #[.int .i64 k, .string d, .int .i64 o, .int .i64 t, .int .i64 m] 24 (0, 0))) := hid (heap_new _ _)
        have X6 : Hid ((w5.alloc (.cells #[.int .i64 k, .string d, .int .i64 o, .int .i64 t, .int .i64 m] 24)).heap[X]? = _) := hid (heap_alloc_at X5.out)
        have B6 := hid (B5.out.alloc B5.out.size (.cells #[.int .i64 k, .string d, .int .i64 o, .int .i64 t, .int .i64 m] 24))
        generalize w5.alloc (.cells #[.int .i64 k, .string d, .int .i64 o, .int .i64 t, .int .i64 m] 24) = w6 at *
        generalize w5.heap.size = Y at *
        clear B5 X5
        refine (CC.out w6).mono ?_
        rintro e w7 ⟨rfl, b7⟩
        have X7 := hid ((b7.block _ (lt_of_heap X6.out)).trans X6.out)
        have Y7 := hid ((b7.block _ (lt_of_heap Y5.out)).trans Y5.out)
        have B7 := hid (B6.out.trans (b7.mono B6.out.size))
        clear b7 B6 X6 Y5 CC
        go_wp2_with fail
        have Z7 : Hid ((w7.alloc (.cells #[.int .i64 pk, .int .i64 pr, .bool pb, .int .i64 po, .int .i64 pn, .string pd] 27)).heap[w7.heap.size]? = some (.cells #[.int .i64 pk, .int .i64 pr, .bool pb, .int .i64 po, .int .i64 pn, .string pd] 27 (0, 0))) := hid (heap_new _ _)
        have X8 : Hid ((w7.alloc (.cells #[.int .i64 pk, .int .i64 pr, .bool pb, .int .i64 po, .int .i64 pn, .string pd] 27)).heap[X]? = _) := hid (heap_alloc_at X7.out)
        have Y8 : Hid ((w7.alloc (.cells #[.int .i64 pk, .int .i64 pr, .bool pb, .int .i64 po, .int .i64 pn, .string pd] 27)).heap[Y]? = _) := hid (heap_alloc_at Y7.out)
        have B8 := hid (B7.out.alloc B7.out.size (.cells #[.int .i64 pk, .int .i64 pr, .bool pb, .int .i64 po, .int .i64 pn, .string pd] 27))
        generalize w7.alloc (.cells #[.int .i64 pk, .int .i64 pr, .bool pb, .int .i64 po, .int .i64 pn, .string pd] 27) = w8 at *
        generalize w7.heap.size = Z at *
        clear B7 X7 Y7
        refine (CD.out w8).mono ?_
        rintro e w9 ⟨rfl, b9⟩
        have X9 := hid ((b9.block _ (lt_of_heap X8.out)).trans X8.out)
        have Y9 := hid ((b9.block _ (lt_of_heap Y8.out)).trans Y8.out)
        have Z9 := hid ((b9.block _ (lt_of_heap Z7.out)).trans Z7.out)
        have B9 := hid (B8.out.trans (b9.mono B8.out.size))
        have B10 := hid (B9.out.alloc B9.out.size (.cells #[.int .i64 pk, .int .i64 pr, .bool pb, .int .i64 po, .int .i64 pn, .string pd] 27))
        clear b9 B8 X8 Y8 Z7 CD
        have hlx := lt_of_heap X9.out
        have hly := lt_of_heap Y9.out
        have hlz := lt_of_heap Z9.out
        have c0 : w9.cell? ⟨X, 0, none⟩ = some (.int .i64 k) := (cell_of X9.out).trans rfl
        have c1 : w9.cell? ⟨X, 1, none⟩ = some (.string d) := (cell_of X9.out).trans rfl
        have c2 : w9.cell? ⟨X, 2, none⟩ = some (.int .i64 o) := (cell_of X9.out).trans rfl
        have c3 : w9.cell? ⟨X, 3, none⟩ = some (.int .i64 t) := (cell_of X9.out).trans rfl
        have c4 : w9.cell? ⟨X, 4, none⟩ = some (.int .i64 m) := (cell_of X9.out).trans rfl
        have d0 : w9.cell? ⟨Y, 0, none⟩ = some (.int .i64 k) := (cell_of Y9.out).trans rfl
        have d1 : w9.cell? ⟨Y, 1, none⟩ = some (.string d) := (cell_of Y9.out).trans rfl
        have d2 : w9.cell? ⟨Y, 2, none⟩ = some (.int .i64 o) := (cell_of Y9.out).trans rfl
        have d3 : w9.cell? ⟨Y, 3, none⟩ = some (.int .i64 t) := (cell_of Y9.out).trans rfl
        have d4 : w9.cell? ⟨Y, 4, none⟩ = some (.int .i64 m) := (cell_of Y9.out).trans rfl
        have f0 : w9.cell? ⟨Z, 0, none⟩ = some (.int .i64 pk) := (cell_of Z9.out).trans rfl
        have f1 : w9.cell? ⟨Z, 1, none⟩ = some (.int .i64 pr) := (cell_of Z9.out).trans rfl
        have f2 : w9.cell? ⟨Z, 2, none⟩ = some (.bool pb) := (cell_of Z9.out).trans rfl
        have f3 : w9.cell? ⟨Z, 3, none⟩ = some (.int .i64 po) := (cell_of Z9.out).trans rfl
        have f4 : w9.cell? ⟨Z, 4, none⟩ = some (.int .i64 pn) := (cell_of Z9.out).trans rfl
        have f5 : w9.cell? ⟨Z, 5, none⟩ = some (.string pd) := (cell_of Z9.out).trans rfl
        go_wp2_with fail
        go_roundg (gk - 1)
        case measure => omega
        case rel => exact ⟨j + 1, by omega, by first | rfl | go_num, B10⟩
      · subst hjm
        go_wp2_with fail
        go_ret
        exact ⟨rfl, HB.out⟩
  · go_enter Tryz.func4, Tryz.ntmps4
    go_wp2_with fail
    refine (CS.out w).mono ?_
    rintro e w1 ⟨rfl, b1⟩
    have HB0 := hid b1
    clear b1 CS
    go_wp2_with fail
    go_loopg [19] (50 + 1) (fun g i wr => ∃ j : Nat, g + j = 50 + 1 ∧ i = .int .i64 j ∧ Hid (Below w.heap.size w wr))
    case atStart => exact ⟨0, by omega, rfl, HB0⟩
    case round =>
      clear HB0
      obtain ⟨j, hj, rfl, HB⟩ := hrel
      rcases (by omega : j < 50 ∨ j = 50 ∨ j = 50 + 1) with hjm | hjm | hjm
      · have hjs : (j : Int) ≤ (s.size : Int) := by omega
        have hjI : (j : Int) < ((50 : Nat) : Int) + 1 := by omega
        have hjn : ¬ (j : Int) = ((50 : Nat) : Int) := by omega
        have hjb : ((j : Int) == ((50 : Nat) : Int)) = false := by rw [beq_eq_false_iff_ne]; omega
        have CA := hid (fun w1 => readask_any (s.extract 0 j) w1 (by first | omega | (rw [ByteArray.size_extract]; omega)))
        have CB := hid (fun w1 => zreadask_any (s.extract 0 j) w1 (by first | omega | (rw [ByteArray.size_extract]; omega)))
        have CC := hid (fun w1 => readreply_any (s.extract 0 j) w1 (by first | omega | (rw [ByteArray.size_extract]; omega)))
        have CD := hid (fun w1 => zreadreply_any (s.extract 0 j) w1 (by first | omega | (rw [ByteArray.size_extract]; omega)))
        generalize raQ (s.extract 0 j) = x at *
        generalize rrQ (s.extract 0 j) = y at *
        obtain ⟨⟨k, d, o, t, m⟩, E⟩ := x
        obtain ⟨⟨pk, pr, pb, po, pn, pd⟩, F⟩ := y
        rw [show rqV (⟨k, d, o, t, m⟩, E) = .tuple #[.agg #[.int .i64 k, .string d, .int .i64 o, .int .i64 t, .int .i64 m], .int .i64 E] from rfl] at CA CB
        rw [show rpV (⟨pk, pr, pb, po, pn, pd⟩, F) = .tuple #[.agg #[.int .i64 pk, .int .i64 pr, .bool pb, .int .i64 po, .int .i64 pn, .string pd], .int .i64 F] from rfl] at CC CD
        have hQ := fun w => q_neq k d o t m w
        have hP := fun w => p_neq pk pr pb po pn pd w
        go_wp2_with fail
        refine (CA.out wr).mono ?_
        rintro e w3 ⟨rfl, b3⟩
        have B3 := hid (HB.out.trans (b3.mono HB.out.size))
        clear b3 HB CA
        go_wp2_with fail
        have X3 : Hid ((w3.alloc (.cells #[.int .i64 k, .string d, .int .i64 o, .int .i64 t, .int .i64 m] 24)).heap[w3.heap.size]? = some (.cells #[.int .i64 k, .string d, .int .i64 o, .int .i64 t, .int .i64 m] 24 (0, 0))) := hid (heap_new _ _)
        have B4 := hid (B3.out.alloc B3.out.size (.cells #[.int .i64 k, .string d, .int .i64 o, .int .i64 t, .int .i64 m] 24))
        generalize w3.alloc (.cells #[.int .i64 k, .string d, .int .i64 o, .int .i64 t, .int .i64 m] 24) = w4 at *
        generalize w3.heap.size = X at *
        clear B3
        refine (CB.out w4).mono ?_
        rintro e w5 ⟨rfl, b5⟩
        have X5 := hid ((b5.block _ (lt_of_heap X3.out)).trans X3.out)
        have B5 := hid (B4.out.trans (b5.mono B4.out.size))
        clear b5 B4 X3 CB
        go_wp2_with fail
        have Y5 : Hid ((w5.alloc (.cells #[.int .i64 k, .string d, .int .i64 o, .int .i64 t, .int .i64 m] 24)).heap[w5.heap.size]? = some (.cells #[.int .i64 k, .string d, .int .i64 o, .int .i64 t, .int .i64 m] 24 (0, 0))) := hid (heap_new _ _)
        have X6 : Hid ((w5.alloc (.cells #[.int .i64 k, .string d, .int .i64 o, .int .i64 t, .int .i64 m] 24)).heap[X]? = _) := hid (heap_alloc_at X5.out)
        have B6 := hid (B5.out.alloc B5.out.size (.cells #[.int .i64 k, .string d, .int .i64 o, .int .i64 t, .int .i64 m] 24))
        generalize w5.alloc (.cells #[.int .i64 k, .string d, .int .i64 o, .int .i64 t, .int .i64 m] 24) = w6 at *
        generalize w5.heap.size = Y at *
        clear B5 X5
        refine (CC.out w6).mono ?_
        rintro e w7 ⟨rfl, b7⟩
        have X7 := hid ((b7.block _ (lt_of_heap X6.out)).trans X6.out)
        have Y7 := hid ((b7.block _ (lt_of_heap Y5.out)).trans Y5.out)
        have B7 := hid (B6.out.trans (b7.mono B6.out.size))
        clear b7 B6 X6 Y5 CC
        go_wp2_with fail
        have Z7 : Hid ((w7.alloc (.cells #[.int .i64 pk, .int .i64 pr, .bool pb, .int .i64 po, .int .i64 pn, .string pd] 27)).heap[w7.heap.size]? = some (.cells #[.int .i64 pk, .int .i64 pr, .bool pb, .int .i64 po, .int .i64 pn, .string pd] 27 (0, 0))) := hid (heap_new _ _)
        have X8 : Hid ((w7.alloc (.cells #[.int .i64 pk, .int .i64 pr, .bool pb, .int .i64 po, .int .i64 pn, .string pd] 27)).heap[X]? = _) := hid (heap_alloc_at X7.out)
        have Y8 : Hid ((w7.alloc (.cells #[.int .i64 pk, .int .i64 pr, .bool pb, .int .i64 po, .int .i64 pn, .string pd] 27)).heap[Y]? = _) := hid (heap_alloc_at Y7.out)
        have B8 := hid (B7.out.alloc B7.out.size (.cells #[.int .i64 pk, .int .i64 pr, .bool pb, .int .i64 po, .int .i64 pn, .string pd] 27))
        generalize w7.alloc (.cells #[.int .i64 pk, .int .i64 pr, .bool pb, .int .i64 po, .int .i64 pn, .string pd] 27) = w8 at *
        generalize w7.heap.size = Z at *
        clear B7 X7 Y7
        refine (CD.out w8).mono ?_
        rintro e w9 ⟨rfl, b9⟩
        have X9 := hid ((b9.block _ (lt_of_heap X8.out)).trans X8.out)
        have Y9 := hid ((b9.block _ (lt_of_heap Y8.out)).trans Y8.out)
        have Z9 := hid ((b9.block _ (lt_of_heap Z7.out)).trans Z7.out)
        have B9 := hid (B8.out.trans (b9.mono B8.out.size))
        have B10 := hid (B9.out.alloc B9.out.size (.cells #[.int .i64 pk, .int .i64 pr, .bool pb, .int .i64 po, .int .i64 pn, .string pd] 27))
        clear b9 B8 X8 Y8 Z7 CD
        have hlx := lt_of_heap X9.out
        have hly := lt_of_heap Y9.out
        have hlz := lt_of_heap Z9.out
        have c0 : w9.cell? ⟨X, 0, none⟩ = some (.int .i64 k) := (cell_of X9.out).trans rfl
        have c1 : w9.cell? ⟨X, 1, none⟩ = some (.string d) := (cell_of X9.out).trans rfl
        have c2 : w9.cell? ⟨X, 2, none⟩ = some (.int .i64 o) := (cell_of X9.out).trans rfl
        have c3 : w9.cell? ⟨X, 3, none⟩ = some (.int .i64 t) := (cell_of X9.out).trans rfl
        have c4 : w9.cell? ⟨X, 4, none⟩ = some (.int .i64 m) := (cell_of X9.out).trans rfl
        have d0 : w9.cell? ⟨Y, 0, none⟩ = some (.int .i64 k) := (cell_of Y9.out).trans rfl
        have d1 : w9.cell? ⟨Y, 1, none⟩ = some (.string d) := (cell_of Y9.out).trans rfl
        have d2 : w9.cell? ⟨Y, 2, none⟩ = some (.int .i64 o) := (cell_of Y9.out).trans rfl
        have d3 : w9.cell? ⟨Y, 3, none⟩ = some (.int .i64 t) := (cell_of Y9.out).trans rfl
        have d4 : w9.cell? ⟨Y, 4, none⟩ = some (.int .i64 m) := (cell_of Y9.out).trans rfl
        have f0 : w9.cell? ⟨Z, 0, none⟩ = some (.int .i64 pk) := (cell_of Z9.out).trans rfl
        have f1 : w9.cell? ⟨Z, 1, none⟩ = some (.int .i64 pr) := (cell_of Z9.out).trans rfl
        have f2 : w9.cell? ⟨Z, 2, none⟩ = some (.bool pb) := (cell_of Z9.out).trans rfl
        have f3 : w9.cell? ⟨Z, 3, none⟩ = some (.int .i64 po) := (cell_of Z9.out).trans rfl
        have f4 : w9.cell? ⟨Z, 4, none⟩ = some (.int .i64 pn) := (cell_of Z9.out).trans rfl
        have f5 : w9.cell? ⟨Z, 5, none⟩ = some (.string pd) := (cell_of Z9.out).trans rfl
        go_wp2_with fail
        go_roundg (gk - 1)
        case measure => omega
        case rel => exact ⟨j + 1, by omega, by first | rfl | go_num, B10⟩
      · have hjs : (j : Int) ≤ (s.size : Int) := by omega
        subst hjm
        have CA := hid (fun w1 => readask_any (s) w1 (by first | omega | (rw [ByteArray.size_extract]; omega)))
        have CB := hid (fun w1 => zreadask_any (s) w1 (by first | omega | (rw [ByteArray.size_extract]; omega)))
        have CC := hid (fun w1 => readreply_any (s) w1 (by first | omega | (rw [ByteArray.size_extract]; omega)))
        have CD := hid (fun w1 => zreadreply_any (s) w1 (by first | omega | (rw [ByteArray.size_extract]; omega)))
        generalize raQ (s) = x at *
        generalize rrQ (s) = y at *
        obtain ⟨⟨k, d, o, t, m⟩, E⟩ := x
        obtain ⟨⟨pk, pr, pb, po, pn, pd⟩, F⟩ := y
        rw [show rqV (⟨k, d, o, t, m⟩, E) = .tuple #[.agg #[.int .i64 k, .string d, .int .i64 o, .int .i64 t, .int .i64 m], .int .i64 E] from rfl] at CA CB
        rw [show rpV (⟨pk, pr, pb, po, pn, pd⟩, F) = .tuple #[.agg #[.int .i64 pk, .int .i64 pr, .bool pb, .int .i64 po, .int .i64 pn, .string pd], .int .i64 F] from rfl] at CC CD
        have hQ := fun w => q_neq k d o t m w
        have hP := fun w => p_neq pk pr pb po pn pd w
        go_wp2_with fail
        refine (CA.out wr).mono ?_
        rintro e w3 ⟨rfl, b3⟩
        have B3 := hid (HB.out.trans (b3.mono HB.out.size))
        clear b3 HB CA
        go_wp2_with fail
        have X3 : Hid ((w3.alloc (.cells #[.int .i64 k, .string d, .int .i64 o, .int .i64 t, .int .i64 m] 24)).heap[w3.heap.size]? = some (.cells #[.int .i64 k, .string d, .int .i64 o, .int .i64 t, .int .i64 m] 24 (0, 0))) := hid (heap_new _ _)
        have B4 := hid (B3.out.alloc B3.out.size (.cells #[.int .i64 k, .string d, .int .i64 o, .int .i64 t, .int .i64 m] 24))
        generalize w3.alloc (.cells #[.int .i64 k, .string d, .int .i64 o, .int .i64 t, .int .i64 m] 24) = w4 at *
        generalize w3.heap.size = X at *
        clear B3
        refine (CB.out w4).mono ?_
        rintro e w5 ⟨rfl, b5⟩
        have X5 := hid ((b5.block _ (lt_of_heap X3.out)).trans X3.out)
        have B5 := hid (B4.out.trans (b5.mono B4.out.size))
        clear b5 B4 X3 CB
        go_wp2_with fail
        have Y5 : Hid ((w5.alloc (.cells #[.int .i64 k, .string d, .int .i64 o, .int .i64 t, .int .i64 m] 24)).heap[w5.heap.size]? = some (.cells #[.int .i64 k, .string d, .int .i64 o, .int .i64 t, .int .i64 m] 24 (0, 0))) := hid (heap_new _ _)
        have X6 : Hid ((w5.alloc (.cells #[.int .i64 k, .string d, .int .i64 o, .int .i64 t, .int .i64 m] 24)).heap[X]? = _) := hid (heap_alloc_at X5.out)
        have B6 := hid (B5.out.alloc B5.out.size (.cells #[.int .i64 k, .string d, .int .i64 o, .int .i64 t, .int .i64 m] 24))
        generalize w5.alloc (.cells #[.int .i64 k, .string d, .int .i64 o, .int .i64 t, .int .i64 m] 24) = w6 at *
        generalize w5.heap.size = Y at *
        clear B5 X5
        refine (CC.out w6).mono ?_
        rintro e w7 ⟨rfl, b7⟩
        have X7 := hid ((b7.block _ (lt_of_heap X6.out)).trans X6.out)
        have Y7 := hid ((b7.block _ (lt_of_heap Y5.out)).trans Y5.out)
        have B7 := hid (B6.out.trans (b7.mono B6.out.size))
        clear b7 B6 X6 Y5 CC
        go_wp2_with fail
        have Z7 : Hid ((w7.alloc (.cells #[.int .i64 pk, .int .i64 pr, .bool pb, .int .i64 po, .int .i64 pn, .string pd] 27)).heap[w7.heap.size]? = some (.cells #[.int .i64 pk, .int .i64 pr, .bool pb, .int .i64 po, .int .i64 pn, .string pd] 27 (0, 0))) := hid (heap_new _ _)
        have X8 : Hid ((w7.alloc (.cells #[.int .i64 pk, .int .i64 pr, .bool pb, .int .i64 po, .int .i64 pn, .string pd] 27)).heap[X]? = _) := hid (heap_alloc_at X7.out)
        have Y8 : Hid ((w7.alloc (.cells #[.int .i64 pk, .int .i64 pr, .bool pb, .int .i64 po, .int .i64 pn, .string pd] 27)).heap[Y]? = _) := hid (heap_alloc_at Y7.out)
        have B8 := hid (B7.out.alloc B7.out.size (.cells #[.int .i64 pk, .int .i64 pr, .bool pb, .int .i64 po, .int .i64 pn, .string pd] 27))
        generalize w7.alloc (.cells #[.int .i64 pk, .int .i64 pr, .bool pb, .int .i64 po, .int .i64 pn, .string pd] 27) = w8 at *
        generalize w7.heap.size = Z at *
        clear B7 X7 Y7
        refine (CD.out w8).mono ?_
        rintro e w9 ⟨rfl, b9⟩
        have X9 := hid ((b9.block _ (lt_of_heap X8.out)).trans X8.out)
        have Y9 := hid ((b9.block _ (lt_of_heap Y8.out)).trans Y8.out)
        have Z9 := hid ((b9.block _ (lt_of_heap Z7.out)).trans Z7.out)
        have B9 := hid (B8.out.trans (b9.mono B8.out.size))
        have B10 := hid (B9.out.alloc B9.out.size (.cells #[.int .i64 pk, .int .i64 pr, .bool pb, .int .i64 po, .int .i64 pn, .string pd] 27))
        clear b9 B8 X8 Y8 Z7 CD
        have hlx := lt_of_heap X9.out
        have hly := lt_of_heap Y9.out
        have hlz := lt_of_heap Z9.out
        have c0 : w9.cell? ⟨X, 0, none⟩ = some (.int .i64 k) := (cell_of X9.out).trans rfl
        have c1 : w9.cell? ⟨X, 1, none⟩ = some (.string d) := (cell_of X9.out).trans rfl
        have c2 : w9.cell? ⟨X, 2, none⟩ = some (.int .i64 o) := (cell_of X9.out).trans rfl
        have c3 : w9.cell? ⟨X, 3, none⟩ = some (.int .i64 t) := (cell_of X9.out).trans rfl
        have c4 : w9.cell? ⟨X, 4, none⟩ = some (.int .i64 m) := (cell_of X9.out).trans rfl
        have d0 : w9.cell? ⟨Y, 0, none⟩ = some (.int .i64 k) := (cell_of Y9.out).trans rfl
        have d1 : w9.cell? ⟨Y, 1, none⟩ = some (.string d) := (cell_of Y9.out).trans rfl
        have d2 : w9.cell? ⟨Y, 2, none⟩ = some (.int .i64 o) := (cell_of Y9.out).trans rfl
        have d3 : w9.cell? ⟨Y, 3, none⟩ = some (.int .i64 t) := (cell_of Y9.out).trans rfl
        have d4 : w9.cell? ⟨Y, 4, none⟩ = some (.int .i64 m) := (cell_of Y9.out).trans rfl
        have f0 : w9.cell? ⟨Z, 0, none⟩ = some (.int .i64 pk) := (cell_of Z9.out).trans rfl
        have f1 : w9.cell? ⟨Z, 1, none⟩ = some (.int .i64 pr) := (cell_of Z9.out).trans rfl
        have f2 : w9.cell? ⟨Z, 2, none⟩ = some (.bool pb) := (cell_of Z9.out).trans rfl
        have f3 : w9.cell? ⟨Z, 3, none⟩ = some (.int .i64 po) := (cell_of Z9.out).trans rfl
        have f4 : w9.cell? ⟨Z, 4, none⟩ = some (.int .i64 pn) := (cell_of Z9.out).trans rfl
        have f5 : w9.cell? ⟨Z, 5, none⟩ = some (.string pd) := (cell_of Z9.out).trans rfl
        go_wp2_with fail
        go_roundg (gk - 1)
        case measure => omega
        case rel => exact ⟨50 + 1, by omega, by first | rfl | go_num, B10⟩
      · subst hjm
        go_wp2_with fail
        go_ret
        exact ⟨rfl, HB.out⟩
  · go_enter Tryz.func4, Tryz.ntmps4
    go_wp2_with fail
    refine (CS.out w).mono ?_
    rintro e w1 ⟨rfl, b1⟩
    have HB0 := hid b1
    clear b1 CS
    go_wp2_with fail
    go_loopg [19] (50 + 1) (fun g i wr => ∃ j : Nat, g + j = 50 + 1 ∧ i = .int .i64 j ∧ Hid (Below w.heap.size w wr))
    case atStart => exact ⟨0, by omega, rfl, HB0⟩
    case round =>
      clear HB0
      obtain ⟨j, hj, rfl, HB⟩ := hrel
      rcases (by omega : j < 50 ∨ j = 50 ∨ j = 50 + 1) with hjm | hjm | hjm
      · have hjs : (j : Int) ≤ (s.size : Int) := by omega
        have hjI : (j : Int) < ((50 : Nat) : Int) + 1 := by omega
        have hjn : ¬ (j : Int) = ((50 : Nat) : Int) := by omega
        have hjb : ((j : Int) == ((50 : Nat) : Int)) = false := by rw [beq_eq_false_iff_ne]; omega
        have CA := hid (fun w1 => readask_any (s.extract 0 j) w1 (by first | omega | (rw [ByteArray.size_extract]; omega)))
        have CB := hid (fun w1 => zreadask_any (s.extract 0 j) w1 (by first | omega | (rw [ByteArray.size_extract]; omega)))
        have CC := hid (fun w1 => readreply_any (s.extract 0 j) w1 (by first | omega | (rw [ByteArray.size_extract]; omega)))
        have CD := hid (fun w1 => zreadreply_any (s.extract 0 j) w1 (by first | omega | (rw [ByteArray.size_extract]; omega)))
        generalize raQ (s.extract 0 j) = x at *
        generalize rrQ (s.extract 0 j) = y at *
        obtain ⟨⟨k, d, o, t, m⟩, E⟩ := x
        obtain ⟨⟨pk, pr, pb, po, pn, pd⟩, F⟩ := y
        rw [show rqV (⟨k, d, o, t, m⟩, E) = .tuple #[.agg #[.int .i64 k, .string d, .int .i64 o, .int .i64 t, .int .i64 m], .int .i64 E] from rfl] at CA CB
        rw [show rpV (⟨pk, pr, pb, po, pn, pd⟩, F) = .tuple #[.agg #[.int .i64 pk, .int .i64 pr, .bool pb, .int .i64 po, .int .i64 pn, .string pd], .int .i64 F] from rfl] at CC CD
        have hQ := fun w => q_neq k d o t m w
        have hP := fun w => p_neq pk pr pb po pn pd w
        go_wp2_with fail
        refine (CA.out wr).mono ?_
        rintro e w3 ⟨rfl, b3⟩
        have B3 := hid (HB.out.trans (b3.mono HB.out.size))
        clear b3 HB CA
        go_wp2_with fail
        have X3 : Hid ((w3.alloc (.cells #[.int .i64 k, .string d, .int .i64 o, .int .i64 t, .int .i64 m] 24)).heap[w3.heap.size]? = some (.cells #[.int .i64 k, .string d, .int .i64 o, .int .i64 t, .int .i64 m] 24 (0, 0))) := hid (heap_new _ _)
        have B4 := hid (B3.out.alloc B3.out.size (.cells #[.int .i64 k, .string d, .int .i64 o, .int .i64 t, .int .i64 m] 24))
        generalize w3.alloc (.cells #[.int .i64 k, .string d, .int .i64 o, .int .i64 t, .int .i64 m] 24) = w4 at *
        generalize w3.heap.size = X at *
        clear B3
        refine (CB.out w4).mono ?_
        rintro e w5 ⟨rfl, b5⟩
        have X5 := hid ((b5.block _ (lt_of_heap X3.out)).trans X3.out)
        have B5 := hid (B4.out.trans (b5.mono B4.out.size))
        clear b5 B4 X3 CB
        go_wp2_with fail
        have Y5 : Hid ((w5.alloc (.cells #[.int .i64 k, .string d, .int .i64 o, .int .i64 t, .int .i64 m] 24)).heap[w5.heap.size]? = some (.cells #[.int .i64 k, .string d, .int .i64 o, .int .i64 t, .int .i64 m] 24 (0, 0))) := hid (heap_new _ _)
        have X6 : Hid ((w5.alloc (.cells #[.int .i64 k, .string d, .int .i64 o, .int .i64 t, .int .i64 m] 24)).heap[X]? = _) := hid (heap_alloc_at X5.out)
        have B6 := hid (B5.out.alloc B5.out.size (.cells #[.int .i64 k, .string d, .int .i64 o, .int .i64 t, .int .i64 m] 24))
        generalize w5.alloc (.cells #[.int .i64 k, .string d, .int .i64 o, .int .i64 t, .int .i64 m] 24) = w6 at *
        generalize w5.heap.size = Y at *
        clear B5 X5
        refine (CC.out w6).mono ?_
        rintro e w7 ⟨rfl, b7⟩
        have X7 := hid ((b7.block _ (lt_of_heap X6.out)).trans X6.out)
        have Y7 := hid ((b7.block _ (lt_of_heap Y5.out)).trans Y5.out)
        have B7 := hid (B6.out.trans (b7.mono B6.out.size))
        clear b7 B6 X6 Y5 CC
        go_wp2_with fail
        have Z7 : Hid ((w7.alloc (.cells #[.int .i64 pk, .int .i64 pr, .bool pb, .int .i64 po, .int .i64 pn, .string pd] 27)).heap[w7.heap.size]? = some (.cells #[.int .i64 pk, .int .i64 pr, .bool pb, .int .i64 po, .int .i64 pn, .string pd] 27 (0, 0))) := hid (heap_new _ _)
        have X8 : Hid ((w7.alloc (.cells #[.int .i64 pk, .int .i64 pr, .bool pb, .int .i64 po, .int .i64 pn, .string pd] 27)).heap[X]? = _) := hid (heap_alloc_at X7.out)
        have Y8 : Hid ((w7.alloc (.cells #[.int .i64 pk, .int .i64 pr, .bool pb, .int .i64 po, .int .i64 pn, .string pd] 27)).heap[Y]? = _) := hid (heap_alloc_at Y7.out)
        have B8 := hid (B7.out.alloc B7.out.size (.cells #[.int .i64 pk, .int .i64 pr, .bool pb, .int .i64 po, .int .i64 pn, .string pd] 27))
        generalize w7.alloc (.cells #[.int .i64 pk, .int .i64 pr, .bool pb, .int .i64 po, .int .i64 pn, .string pd] 27) = w8 at *
        generalize w7.heap.size = Z at *
        clear B7 X7 Y7
        refine (CD.out w8).mono ?_
        rintro e w9 ⟨rfl, b9⟩
        have X9 := hid ((b9.block _ (lt_of_heap X8.out)).trans X8.out)
        have Y9 := hid ((b9.block _ (lt_of_heap Y8.out)).trans Y8.out)
        have Z9 := hid ((b9.block _ (lt_of_heap Z7.out)).trans Z7.out)
        have B9 := hid (B8.out.trans (b9.mono B8.out.size))
        have B10 := hid (B9.out.alloc B9.out.size (.cells #[.int .i64 pk, .int .i64 pr, .bool pb, .int .i64 po, .int .i64 pn, .string pd] 27))
        clear b9 B8 X8 Y8 Z7 CD
        have hlx := lt_of_heap X9.out
        have hly := lt_of_heap Y9.out
        have hlz := lt_of_heap Z9.out
        have c0 : w9.cell? ⟨X, 0, none⟩ = some (.int .i64 k) := (cell_of X9.out).trans rfl
        have c1 : w9.cell? ⟨X, 1, none⟩ = some (.string d) := (cell_of X9.out).trans rfl
        have c2 : w9.cell? ⟨X, 2, none⟩ = some (.int .i64 o) := (cell_of X9.out).trans rfl
        have c3 : w9.cell? ⟨X, 3, none⟩ = some (.int .i64 t) := (cell_of X9.out).trans rfl
        have c4 : w9.cell? ⟨X, 4, none⟩ = some (.int .i64 m) := (cell_of X9.out).trans rfl
        have d0 : w9.cell? ⟨Y, 0, none⟩ = some (.int .i64 k) := (cell_of Y9.out).trans rfl
        have d1 : w9.cell? ⟨Y, 1, none⟩ = some (.string d) := (cell_of Y9.out).trans rfl
        have d2 : w9.cell? ⟨Y, 2, none⟩ = some (.int .i64 o) := (cell_of Y9.out).trans rfl
        have d3 : w9.cell? ⟨Y, 3, none⟩ = some (.int .i64 t) := (cell_of Y9.out).trans rfl
        have d4 : w9.cell? ⟨Y, 4, none⟩ = some (.int .i64 m) := (cell_of Y9.out).trans rfl
        have f0 : w9.cell? ⟨Z, 0, none⟩ = some (.int .i64 pk) := (cell_of Z9.out).trans rfl
        have f1 : w9.cell? ⟨Z, 1, none⟩ = some (.int .i64 pr) := (cell_of Z9.out).trans rfl
        have f2 : w9.cell? ⟨Z, 2, none⟩ = some (.bool pb) := (cell_of Z9.out).trans rfl
        have f3 : w9.cell? ⟨Z, 3, none⟩ = some (.int .i64 po) := (cell_of Z9.out).trans rfl
        have f4 : w9.cell? ⟨Z, 4, none⟩ = some (.int .i64 pn) := (cell_of Z9.out).trans rfl
        have f5 : w9.cell? ⟨Z, 5, none⟩ = some (.string pd) := (cell_of Z9.out).trans rfl
        go_wp2_with fail
        go_roundg (gk - 1)
        case measure => omega
        case rel => exact ⟨j + 1, by omega, by first | rfl | go_num, B10⟩
      · have hjs : (j : Int) ≤ (s.size : Int) := by omega
        subst hjm
        have CA := hid (fun w1 => readask_any (s) w1 (by first | omega | (rw [ByteArray.size_extract]; omega)))
        have CB := hid (fun w1 => zreadask_any (s) w1 (by first | omega | (rw [ByteArray.size_extract]; omega)))
        have CC := hid (fun w1 => readreply_any (s) w1 (by first | omega | (rw [ByteArray.size_extract]; omega)))
        have CD := hid (fun w1 => zreadreply_any (s) w1 (by first | omega | (rw [ByteArray.size_extract]; omega)))
        generalize raQ (s) = x at *
        generalize rrQ (s) = y at *
        obtain ⟨⟨k, d, o, t, m⟩, E⟩ := x
        obtain ⟨⟨pk, pr, pb, po, pn, pd⟩, F⟩ := y
        rw [show rqV (⟨k, d, o, t, m⟩, E) = .tuple #[.agg #[.int .i64 k, .string d, .int .i64 o, .int .i64 t, .int .i64 m], .int .i64 E] from rfl] at CA CB
        rw [show rpV (⟨pk, pr, pb, po, pn, pd⟩, F) = .tuple #[.agg #[.int .i64 pk, .int .i64 pr, .bool pb, .int .i64 po, .int .i64 pn, .string pd], .int .i64 F] from rfl] at CC CD
        have hQ := fun w => q_neq k d o t m w
        have hP := fun w => p_neq pk pr pb po pn pd w
        go_wp2_with fail
        refine (CA.out wr).mono ?_
        rintro e w3 ⟨rfl, b3⟩
        have B3 := hid (HB.out.trans (b3.mono HB.out.size))
        clear b3 HB CA
        go_wp2_with fail
        have X3 : Hid ((w3.alloc (.cells #[.int .i64 k, .string d, .int .i64 o, .int .i64 t, .int .i64 m] 24)).heap[w3.heap.size]? = some (.cells #[.int .i64 k, .string d, .int .i64 o, .int .i64 t, .int .i64 m] 24 (0, 0))) := hid (heap_new _ _)
        have B4 := hid (B3.out.alloc B3.out.size (.cells #[.int .i64 k, .string d, .int .i64 o, .int .i64 t, .int .i64 m] 24))
        generalize w3.alloc (.cells #[.int .i64 k, .string d, .int .i64 o, .int .i64 t, .int .i64 m] 24) = w4 at *
        generalize w3.heap.size = X at *
        clear B3
        refine (CB.out w4).mono ?_
        rintro e w5 ⟨rfl, b5⟩
        have X5 := hid ((b5.block _ (lt_of_heap X3.out)).trans X3.out)
        have B5 := hid (B4.out.trans (b5.mono B4.out.size))
        clear b5 B4 X3 CB
        go_wp2_with fail
        have Y5 : Hid ((w5.alloc (.cells #[.int .i64 k, .string d, .int .i64 o, .int .i64 t, .int .i64 m] 24)).heap[w5.heap.size]? = some (.cells #[.int .i64 k, .string d, .int .i64 o, .int .i64 t, .int .i64 m] 24 (0, 0))) := hid (heap_new _ _)
        have X6 : Hid ((w5.alloc (.cells #[.int .i64 k, .string d, .int .i64 o, .int .i64 t, .int .i64 m] 24)).heap[X]? = _) := hid (heap_alloc_at X5.out)
        have B6 := hid (B5.out.alloc B5.out.size (.cells #[.int .i64 k, .string d, .int .i64 o, .int .i64 t, .int .i64 m] 24))
        generalize w5.alloc (.cells #[.int .i64 k, .string d, .int .i64 o, .int .i64 t, .int .i64 m] 24) = w6 at *
        generalize w5.heap.size = Y at *
        clear B5 X5
        refine (CC.out w6).mono ?_
        rintro e w7 ⟨rfl, b7⟩
        have X7 := hid ((b7.block _ (lt_of_heap X6.out)).trans X6.out)
        have Y7 := hid ((b7.block _ (lt_of_heap Y5.out)).trans Y5.out)
        have B7 := hid (B6.out.trans (b7.mono B6.out.size))
        clear b7 B6 X6 Y5 CC
        go_wp2_with fail
        have Z7 : Hid ((w7.alloc (.cells #[.int .i64 pk, .int .i64 pr, .bool pb, .int .i64 po, .int .i64 pn, .string pd] 27)).heap[w7.heap.size]? = some (.cells #[.int .i64 pk, .int .i64 pr, .bool pb, .int .i64 po, .int .i64 pn, .string pd] 27 (0, 0))) := hid (heap_new _ _)
        have X8 : Hid ((w7.alloc (.cells #[.int .i64 pk, .int .i64 pr, .bool pb, .int .i64 po, .int .i64 pn, .string pd] 27)).heap[X]? = _) := hid (heap_alloc_at X7.out)
        have Y8 : Hid ((w7.alloc (.cells #[.int .i64 pk, .int .i64 pr, .bool pb, .int .i64 po, .int .i64 pn, .string pd] 27)).heap[Y]? = _) := hid (heap_alloc_at Y7.out)
        have B8 := hid (B7.out.alloc B7.out.size (.cells #[.int .i64 pk, .int .i64 pr, .bool pb, .int .i64 po, .int .i64 pn, .string pd] 27))
        generalize w7.alloc (.cells #[.int .i64 pk, .int .i64 pr, .bool pb, .int .i64 po, .int .i64 pn, .string pd] 27) = w8 at *
        generalize w7.heap.size = Z at *
        clear B7 X7 Y7
        refine (CD.out w8).mono ?_
        rintro e w9 ⟨rfl, b9⟩
        have X9 := hid ((b9.block _ (lt_of_heap X8.out)).trans X8.out)
        have Y9 := hid ((b9.block _ (lt_of_heap Y8.out)).trans Y8.out)
        have Z9 := hid ((b9.block _ (lt_of_heap Z7.out)).trans Z7.out)
        have B9 := hid (B8.out.trans (b9.mono B8.out.size))
        have B10 := hid (B9.out.alloc B9.out.size (.cells #[.int .i64 pk, .int .i64 pr, .bool pb, .int .i64 po, .int .i64 pn, .string pd] 27))
        clear b9 B8 X8 Y8 Z7 CD
        have hlx := lt_of_heap X9.out
        have hly := lt_of_heap Y9.out
        have hlz := lt_of_heap Z9.out
        have c0 : w9.cell? ⟨X, 0, none⟩ = some (.int .i64 k) := (cell_of X9.out).trans rfl
        have c1 : w9.cell? ⟨X, 1, none⟩ = some (.string d) := (cell_of X9.out).trans rfl
        have c2 : w9.cell? ⟨X, 2, none⟩ = some (.int .i64 o) := (cell_of X9.out).trans rfl
        have c3 : w9.cell? ⟨X, 3, none⟩ = some (.int .i64 t) := (cell_of X9.out).trans rfl
        have c4 : w9.cell? ⟨X, 4, none⟩ = some (.int .i64 m) := (cell_of X9.out).trans rfl
        have d0 : w9.cell? ⟨Y, 0, none⟩ = some (.int .i64 k) := (cell_of Y9.out).trans rfl
        have d1 : w9.cell? ⟨Y, 1, none⟩ = some (.string d) := (cell_of Y9.out).trans rfl
        have d2 : w9.cell? ⟨Y, 2, none⟩ = some (.int .i64 o) := (cell_of Y9.out).trans rfl
        have d3 : w9.cell? ⟨Y, 3, none⟩ = some (.int .i64 t) := (cell_of Y9.out).trans rfl
        have d4 : w9.cell? ⟨Y, 4, none⟩ = some (.int .i64 m) := (cell_of Y9.out).trans rfl
        have f0 : w9.cell? ⟨Z, 0, none⟩ = some (.int .i64 pk) := (cell_of Z9.out).trans rfl
        have f1 : w9.cell? ⟨Z, 1, none⟩ = some (.int .i64 pr) := (cell_of Z9.out).trans rfl
        have f2 : w9.cell? ⟨Z, 2, none⟩ = some (.bool pb) := (cell_of Z9.out).trans rfl
        have f3 : w9.cell? ⟨Z, 3, none⟩ = some (.int .i64 po) := (cell_of Z9.out).trans rfl
        have f4 : w9.cell? ⟨Z, 4, none⟩ = some (.int .i64 pn) := (cell_of Z9.out).trans rfl
        have f5 : w9.cell? ⟨Z, 5, none⟩ = some (.string pd) := (cell_of Z9.out).trans rfl
        go_wp2_with fail
        go_roundg (gk - 1)
        case measure => omega
        case rel => exact ⟨50 + 1, by omega, by first | rfl | go_num, B10⟩
      · subst hjm
        go_wp2_with fail
        go_ret
        exact ⟨rfl, HB.out⟩
end Go.Proofs.YtgdaaohlongmlaaGreat
