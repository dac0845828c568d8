/- A request is written: Ask, kind by kind. -/
import Derived.Test.YtgdaaohlongmlaaGreatPw4
namespace Go.Proofs.YtgdaaohlongmlaaGreat
open Go.RowKit
set_option maxHeartbeats 1000000 in
set_option maxRecDepth 20000 in
theorem ask_1 (d : ByteArray) (o t m : Int) (w : World) (hd : d.size ≤ 16777216) :
    Calls Tryz.prog 6 #[.agg #[.int .i64 1, .string d, .int .i64 o, .int .i64 t, .int .i64 m]] w fun e w' => e = .returned (.tuple #[.string (bs (nb 1 1 ++ (nb 4 d.size ++ bl d))), .int .i64 0]) ∧ Below w.heap.size w w' := by
  have g1 : (w.alloc (.cells #[.int .i64 1, .string d, .int .i64 o, .int .i64 t, .int .i64 m] 24)).heap[w.heap.size]? = some (.cells #[.int .i64 1, .string d, .int .i64 o, .int .i64 t, .int .i64 m] 24 (0, 0)) := heap_new _ _
  have b1 : Below w.heap.size w (w.alloc (.cells #[.int .i64 1, .string d, .int .i64 o, .int .i64 t, .int .i64 m] 24)) := (Below.refl _ _).alloc (Nat.le_refl _) _
  go_enter Tryz.func6, Tryz.ntmps6
  go_wp2_with fail
  generalize w.alloc (.cells #[.int .i64 1, .string d, .int .i64 o, .int .i64 t, .int .i64 m] 24) = w1 at *
  have hlt := lt_of_heap g1
  have c0 : w1.cell? ⟨w.heap.size, 0, none⟩ = some (.int .i64 1) := (cell_of g1).trans rfl
  have G1 := hid g1
  have B1 := hid b1
  have HK : Hid (∀ y, Below w1.heap.size w1 y → y.cell? ⟨w.heap.size, 0, none⟩ = some (.int .i64 1)) := hid (fun y hy => (hy.cell (p := ⟨w.heap.size, 0, none⟩) hlt).trans c0)
  have M0 : Below w1.heap.size w1 w1 := Below.refl _ _
  clear g1 b1
  go_cut [4, 5] (fun v4 v5 wc => ∃ L, v4 = .pointer (some ⟨L, 0, none⟩) ∧ v5 = .bool true ∧ Hid (Below w1.heap.size w1 wc) ∧ Hid (wc.heap[L]? = some (.cells #[fv 47, fv 49] 45 (0, 0))) ∧ Hid (w1.heap.size ≤ L))
  case first =>
    go_region_held3 (fun y => y.cell? ⟨w.heap.size, 0, none⟩ = some (.int .i64 1)) (((with_reducible refine HK.out _ ?_); repeat (first | with_reducible exact M0 | with_reducible refine Below.drew ?_ | with_reducible refine Below.alloc ?_ (by simp <;> omega) _))) ((first | (go_at_call 19; refine (qtable_any _).mono ?_; rintro e w' ⟨rfl, rfl⟩) | (go_at_call 18; refine (qfind_1 _ _ (by first | exact heap_new' _ _ _ (by simp) | exact hd_drew (heap_new' _ _ _ (by simp)) | exact heap_alloc_at (heap_new' _ _ _ (by simp)) | exact hd_drew (heap_alloc_at (heap_new' _ _ _ (by simp))))).mono ?_; rintro e w' ⟨rfl, rfl⟩)))
    · go_wp2
      go_meet
      case rel =>
        refine ⟨_, rfl, rfl, ?_, hid (hd_drew (heap_new' _ _ _ (by simp))), hid (by omega)⟩
        refine hid ?_
        repeat (first | with_reducible exact M0 | with_reducible refine Below.drew ?_ | with_reducible refine Below.alloc ?_ (by simp <;> omega) _)
    · go_wp2
      go_meet
      case rel =>
        refine ⟨_, rfl, rfl, ?_, hid (hd_drew (heap_alloc_at (heap_new' _ _ _ (by simp)))), hid (by omega)⟩
        refine hid ?_
        repeat (first | with_reducible exact M0 | with_reducible refine Below.drew ?_ | with_reducible refine Below.alloc ?_ (by simp <;> omega) _)
    · go_wp2
      go_meet
      case rel =>
        refine ⟨_, rfl, rfl, ?_, hid (hd_drew (heap_alloc_at (heap_alloc_at (heap_alloc_at (heap_new _ _))))), hid (by omega)⟩
        refine hid ?_
        repeat (first | with_reducible exact M0 | with_reducible refine Below.drew ?_ | with_reducible refine Below.alloc ?_ (by simp <;> omega) _)
  case rest =>
    obtain ⟨L, rfl, rfl, HB, HL, HLE⟩ := hcut
    have gc : wc.heap[w.heap.size]? = some (.cells #[.int .i64 1, .string d, .int .i64 o, .int .i64 t, .int .i64 m] 24 (0, 0)) := (HB.out.block _ hlt).trans G1.out
    have c0' : wc.cell? ⟨w.heap.size, 0, none⟩ = some (.int .i64 1) := (cell_of gc).trans rfl
    have hltc := lt_of_heap gc
    have GC := hid gc
    have BC : Hid (Below w.heap.size w wc) := hid (B1.out.trans (HB.out.mono (by omega)))
    clear gc HB B1 G1 HK M0 c0
    go_wp2_with fail
    have hW : Wr (wc.alloc (.cells #[.int .i64 0, .slice none 0 0, .int .i64 0] 58)) wc.heap.size (wc.heap.size + 1) [] := wr_new (heap_new _ _) (by omega) (by simp)
    have gb : (wc.alloc (.cells #[.int .i64 0, .slice none 0 0, .int .i64 0] 58)).heap[w.heap.size]? = some (.cells #[.int .i64 1, .string d, .int .i64 o, .int .i64 t, .int .i64 m] 24 (0, 0)) := heap_alloc_at GC.out
    have gl : (wc.alloc (.cells #[.int .i64 0, .slice none 0 0, .int .i64 0] 58)).heap[L]? = some (.cells #[fv 47, fv 49] 45 (0, 0)) := heap_alloc_at HL.out
    have bb : Below w.heap.size w (wc.alloc (.cells #[.int .i64 0, .slice none 0 0, .int .i64 0] 58)) := BC.out.alloc BC.out.size _
    have hne : w.heap.size ≠ wc.heap.size := by omega
    have hnl : L ≠ wc.heap.size := by have := lt_of_heap HL.out; omega
    generalize wc.alloc (.cells #[.int .i64 0, .slice none 0 0, .int .i64 0] 58) = w2 at *
    have hpp : w.heap.size ≤ wc.heap.size := by omega
    generalize wc.heap.size = p at *
    clear GC BC HL c0' hltc
    refine (pkind_any p (p + 1) [] 1 w2 hW (by omega) (by simp)).mono ?_
    rintro e w3 ⟨rfl, h3, hc3⟩
    have gb3 := hc3.other gb hne (by decide)
    have gl3 := hc3.other gl hnl (by decide)
    have bb3 : Below w.heap.size w w3 := bb.trans (hc3.below bb.size (fun i hi => by rintro (h | h) <;> omega))
    have hl3 : ([] ++ nb 1 1).length = 1 := by simp [nb_len]
    clear gb gl bb hc3 hW
    rw [List.nil_append] at h3 hl3
    have GB3 := hid gb3
    have GL3 := hid gl3
    have BB3 := hid bb3
    have hlt3 := lt_of_heap gb3
    clear gb3 gl3 bb3
    have x3_0 : w3.cell? ⟨w.heap.size, 0, none⟩ = some (.int .i64 1) := (cell_of GB3.out).trans rfl
    have x3_1 : w3.cell? ⟨w.heap.size, 1, none⟩ = some (.string d) := (cell_of GB3.out).trans rfl
    have x3_2 : w3.cell? ⟨w.heap.size, 2, none⟩ = some (.int .i64 o) := (cell_of GB3.out).trans rfl
    have x3_3 : w3.cell? ⟨w.heap.size, 3, none⟩ = some (.int .i64 t) := (cell_of GB3.out).trans rfl
    have x3_4 : w3.cell? ⟨w.heap.size, 4, none⟩ = some (.int .i64 m) := (cell_of GB3.out).trans rfl
    have y3 : w3.cell? ⟨L, 0, none⟩ = some (fv 47) := (cell_of GL3.out).trans rfl
    go_wp2_with fail
    refine (q3w_any p (p + 1) (nb 1 1) 1 d o t m w3 h3 hd (by omega)).mono ?_
    rintro e w4 ⟨rfl, h4, hc4⟩
    have bb4 : Below w.heap.size w w4 := BB3.out.trans (hc4.below BB3.out.size (fun i hi => by rintro (h | h) <;> omega))
    clear GB3 GL3 BB3 h3
    go_wp2_with fail
    refine (pwhole_ok p (p + 1) _ w4 h4).mono ?_
    rintro e w5 ⟨rfl, rfl⟩
    go_wp2_with fail
    go_ret2
    exact ⟨rfl, bb4⟩
set_option maxHeartbeats 1000000 in
set_option maxRecDepth 20000 in
theorem ask_2 (d : ByteArray) (o t m : Int) (w : World) :
    Calls Tryz.prog 6 #[.agg #[.int .i64 2, .string d, .int .i64 o, .int .i64 t, .int .i64 m]] w fun e w' => e = .returned (.tuple #[.string (bs (nb 1 2 ++ nb 8 (o % 18446744073709551616).toNat ++ nb 8 (m % 18446744073709551616).toNat)), .int .i64 0]) ∧ Below w.heap.size w w' := by
  have g1 : (w.alloc (.cells #[.int .i64 2, .string d, .int .i64 o, .int .i64 t, .int .i64 m] 24)).heap[w.heap.size]? = some (.cells #[.int .i64 2, .string d, .int .i64 o, .int .i64 t, .int .i64 m] 24 (0, 0)) := heap_new _ _
  have b1 : Below w.heap.size w (w.alloc (.cells #[.int .i64 2, .string d, .int .i64 o, .int .i64 t, .int .i64 m] 24)) := (Below.refl _ _).alloc (Nat.le_refl _) _
  go_enter Tryz.func6, Tryz.ntmps6
  go_wp2_with fail
  generalize w.alloc (.cells #[.int .i64 2, .string d, .int .i64 o, .int .i64 t, .int .i64 m] 24) = w1 at *
  have hlt := lt_of_heap g1
  have c0 : w1.cell? ⟨w.heap.size, 0, none⟩ = some (.int .i64 2) := (cell_of g1).trans rfl
  have G1 := hid g1
  have B1 := hid b1
  have HK : Hid (∀ y, Below w1.heap.size w1 y → y.cell? ⟨w.heap.size, 0, none⟩ = some (.int .i64 2)) := hid (fun y hy => (hy.cell (p := ⟨w.heap.size, 0, none⟩) hlt).trans c0)
  have M0 : Below w1.heap.size w1 w1 := Below.refl _ _
  clear g1 b1
  go_cut [4, 5] (fun v4 v5 wc => ∃ L, v4 = .pointer (some ⟨L, 0, none⟩) ∧ v5 = .bool true ∧ Hid (Below w1.heap.size w1 wc) ∧ Hid (wc.heap[L]? = some (.cells #[fv 51, fv 53] 45 (0, 0))) ∧ Hid (w1.heap.size ≤ L))
  case first =>
    go_region_held3 (fun y => y.cell? ⟨w.heap.size, 0, none⟩ = some (.int .i64 2)) (((with_reducible refine HK.out _ ?_); repeat (first | with_reducible exact M0 | with_reducible refine Below.drew ?_ | with_reducible refine Below.alloc ?_ (by simp <;> omega) _))) ((first | (go_at_call 19; refine (qtable_any _).mono ?_; rintro e w' ⟨rfl, rfl⟩) | (go_at_call 18; refine (qfind_2 _ _ (by first | exact heap_new' _ _ _ (by simp) | exact hd_drew (heap_new' _ _ _ (by simp)) | exact heap_alloc_at (heap_new' _ _ _ (by simp)) | exact hd_drew (heap_alloc_at (heap_new' _ _ _ (by simp))))).mono ?_; rintro e w' ⟨rfl, rfl⟩)))
    · go_wp2
      go_meet
      case rel =>
        refine ⟨_, rfl, rfl, ?_, hid (hd_drew (heap_new' _ _ _ (by simp))), hid (by omega)⟩
        refine hid ?_
        repeat (first | with_reducible exact M0 | with_reducible refine Below.drew ?_ | with_reducible refine Below.alloc ?_ (by simp <;> omega) _)
    · go_wp2
      go_meet
      case rel =>
        refine ⟨_, rfl, rfl, ?_, hid (hd_drew (heap_alloc_at (heap_new' _ _ _ (by simp)))), hid (by omega)⟩
        refine hid ?_
        repeat (first | with_reducible exact M0 | with_reducible refine Below.drew ?_ | with_reducible refine Below.alloc ?_ (by simp <;> omega) _)
    · go_wp2
      go_meet
      case rel =>
        refine ⟨_, rfl, rfl, ?_, hid (hd_drew (heap_alloc_at (heap_alloc_at (heap_alloc_at (heap_new _ _))))), hid (by omega)⟩
        refine hid ?_
        repeat (first | with_reducible exact M0 | with_reducible refine Below.drew ?_ | with_reducible refine Below.alloc ?_ (by simp <;> omega) _)
  case rest =>
    obtain ⟨L, rfl, rfl, HB, HL, HLE⟩ := hcut
    have gc : wc.heap[w.heap.size]? = some (.cells #[.int .i64 2, .string d, .int .i64 o, .int .i64 t, .int .i64 m] 24 (0, 0)) := (HB.out.block _ hlt).trans G1.out
    have c0' : wc.cell? ⟨w.heap.size, 0, none⟩ = some (.int .i64 2) := (cell_of gc).trans rfl
    have hltc := lt_of_heap gc
    have GC := hid gc
    have BC : Hid (Below w.heap.size w wc) := hid (B1.out.trans (HB.out.mono (by omega)))
    clear gc HB B1 G1 HK M0 c0
    go_wp2_with fail
    have hW : Wr (wc.alloc (.cells #[.int .i64 0, .slice none 0 0, .int .i64 0] 58)) wc.heap.size (wc.heap.size + 1) [] := wr_new (heap_new _ _) (by omega) (by simp)
    have gb : (wc.alloc (.cells #[.int .i64 0, .slice none 0 0, .int .i64 0] 58)).heap[w.heap.size]? = some (.cells #[.int .i64 2, .string d, .int .i64 o, .int .i64 t, .int .i64 m] 24 (0, 0)) := heap_alloc_at GC.out
    have gl : (wc.alloc (.cells #[.int .i64 0, .slice none 0 0, .int .i64 0] 58)).heap[L]? = some (.cells #[fv 51, fv 53] 45 (0, 0)) := heap_alloc_at HL.out
    have bb : Below w.heap.size w (wc.alloc (.cells #[.int .i64 0, .slice none 0 0, .int .i64 0] 58)) := BC.out.alloc BC.out.size _
    have hne : w.heap.size ≠ wc.heap.size := by omega
    have hnl : L ≠ wc.heap.size := by have := lt_of_heap HL.out; omega
    generalize wc.alloc (.cells #[.int .i64 0, .slice none 0 0, .int .i64 0] 58) = w2 at *
    have hpp : w.heap.size ≤ wc.heap.size := by omega
    generalize wc.heap.size = p at *
    clear GC BC HL c0' hltc
    refine (pkind_any p (p + 1) [] 2 w2 hW (by omega) (by simp)).mono ?_
    rintro e w3 ⟨rfl, h3, hc3⟩
    have gb3 := hc3.other gb hne (by decide)
    have gl3 := hc3.other gl hnl (by decide)
    have bb3 : Below w.heap.size w w3 := bb.trans (hc3.below bb.size (fun i hi => by rintro (h | h) <;> omega))
    have hl3 : ([] ++ nb 1 2).length = 1 := by simp [nb_len]
    clear gb gl bb hc3 hW
    rw [List.nil_append] at h3 hl3
    have GB3 := hid gb3
    have GL3 := hid gl3
    have BB3 := hid bb3
    have hlt3 := lt_of_heap gb3
    clear gb3 gl3 bb3
    have x3_0 : w3.cell? ⟨w.heap.size, 0, none⟩ = some (.int .i64 2) := (cell_of GB3.out).trans rfl
    have x3_1 : w3.cell? ⟨w.heap.size, 1, none⟩ = some (.string d) := (cell_of GB3.out).trans rfl
    have x3_2 : w3.cell? ⟨w.heap.size, 2, none⟩ = some (.int .i64 o) := (cell_of GB3.out).trans rfl
    have x3_3 : w3.cell? ⟨w.heap.size, 3, none⟩ = some (.int .i64 t) := (cell_of GB3.out).trans rfl
    have x3_4 : w3.cell? ⟨w.heap.size, 4, none⟩ = some (.int .i64 m) := (cell_of GB3.out).trans rfl
    have y3 : w3.cell? ⟨L, 0, none⟩ = some (fv 51) := (cell_of GL3.out).trans rfl
    go_wp2_with fail
    refine (q5w_any p (p + 1) (nb 1 2) 2 d o t m w3 h3 (by omega)).mono ?_
    rintro e w4 ⟨rfl, h4, hc4⟩
    have bb4 : Below w.heap.size w w4 := BB3.out.trans (hc4.below BB3.out.size (fun i hi => by rintro (h | h) <;> omega))
    clear GB3 GL3 BB3 h3
    go_wp2_with fail
    refine (pwhole_ok p (p + 1) _ w4 h4).mono ?_
    rintro e w5 ⟨rfl, rfl⟩
    go_wp2_with fail
    go_ret2
    exact ⟨rfl, bb4⟩
set_option maxHeartbeats 1000000 in
set_option maxRecDepth 20000 in
theorem ask_3 (d : ByteArray) (o t m : Int) (w : World) :
    Calls Tryz.prog 6 #[.agg #[.int .i64 3, .string d, .int .i64 o, .int .i64 t, .int .i64 m]] w fun e w' => e = .returned (.tuple #[.string (bs (nb 1 3 ++ nb 8 (t % 18446744073709551616).toNat)), .int .i64 0]) ∧ Below w.heap.size w w' := by
  have g1 : (w.alloc (.cells #[.int .i64 3, .string d, .int .i64 o, .int .i64 t, .int .i64 m] 24)).heap[w.heap.size]? = some (.cells #[.int .i64 3, .string d, .int .i64 o, .int .i64 t, .int .i64 m] 24 (0, 0)) := heap_new _ _
  have b1 : Below w.heap.size w (w.alloc (.cells #[.int .i64 3, .string d, .int .i64 o, .int .i64 t, .int .i64 m] 24)) := (Below.refl _ _).alloc (Nat.le_refl _) _
  go_enter Tryz.func6, Tryz.ntmps6
  go_wp2_with fail
  generalize w.alloc (.cells #[.int .i64 3, .string d, .int .i64 o, .int .i64 t, .int .i64 m] 24) = w1 at *
  have hlt := lt_of_heap g1
  have c0 : w1.cell? ⟨w.heap.size, 0, none⟩ = some (.int .i64 3) := (cell_of g1).trans rfl
  have G1 := hid g1
  have B1 := hid b1
  have HK : Hid (∀ y, Below w1.heap.size w1 y → y.cell? ⟨w.heap.size, 0, none⟩ = some (.int .i64 3)) := hid (fun y hy => (hy.cell (p := ⟨w.heap.size, 0, none⟩) hlt).trans c0)
  have M0 : Below w1.heap.size w1 w1 := Below.refl _ _
  clear g1 b1
  go_cut [4, 5] (fun v4 v5 wc => ∃ L, v4 = .pointer (some ⟨L, 0, none⟩) ∧ v5 = .bool true ∧ Hid (Below w1.heap.size w1 wc) ∧ Hid (wc.heap[L]? = some (.cells #[fv 55, fv 56] 45 (0, 0))) ∧ Hid (w1.heap.size ≤ L))
  case first =>
    go_region_held3 (fun y => y.cell? ⟨w.heap.size, 0, none⟩ = some (.int .i64 3)) (((with_reducible refine HK.out _ ?_); repeat (first | with_reducible exact M0 | with_reducible refine Below.drew ?_ | with_reducible refine Below.alloc ?_ (by simp <;> omega) _))) ((first | (go_at_call 19; refine (qtable_any _).mono ?_; rintro e w' ⟨rfl, rfl⟩) | (go_at_call 18; refine (qfind_3 _ _ (by first | exact heap_new' _ _ _ (by simp) | exact hd_drew (heap_new' _ _ _ (by simp)) | exact heap_alloc_at (heap_new' _ _ _ (by simp)) | exact hd_drew (heap_alloc_at (heap_new' _ _ _ (by simp))))).mono ?_; rintro e w' ⟨rfl, rfl⟩)))
    · go_wp2
      go_meet
      case rel =>
        refine ⟨_, rfl, rfl, ?_, hid (hd_drew (heap_new' _ _ _ (by simp))), hid (by omega)⟩
        refine hid ?_
        repeat (first | with_reducible exact M0 | with_reducible refine Below.drew ?_ | with_reducible refine Below.alloc ?_ (by simp <;> omega) _)
    · go_wp2
      go_meet
      case rel =>
        refine ⟨_, rfl, rfl, ?_, hid (hd_drew (heap_alloc_at (heap_new' _ _ _ (by simp)))), hid (by omega)⟩
        refine hid ?_
        repeat (first | with_reducible exact M0 | with_reducible refine Below.drew ?_ | with_reducible refine Below.alloc ?_ (by simp <;> omega) _)
    · go_wp2
      go_meet
      case rel =>
        refine ⟨_, rfl, rfl, ?_, hid (hd_drew (heap_alloc_at (heap_alloc_at (heap_alloc_at (heap_new _ _))))), hid (by omega)⟩
        refine hid ?_
        repeat (first | with_reducible exact M0 | with_reducible refine Below.drew ?_ | with_reducible refine Below.alloc ?_ (by simp <;> omega) _)
  case rest =>
    obtain ⟨L, rfl, rfl, HB, HL, HLE⟩ := hcut
    have gc : wc.heap[w.heap.size]? = some (.cells #[.int .i64 3, .string d, .int .i64 o, .int .i64 t, .int .i64 m] 24 (0, 0)) := (HB.out.block _ hlt).trans G1.out
    have c0' : wc.cell? ⟨w.heap.size, 0, none⟩ = some (.int .i64 3) := (cell_of gc).trans rfl
    have hltc := lt_of_heap gc
    have GC := hid gc
    have BC : Hid (Below w.heap.size w wc) := hid (B1.out.trans (HB.out.mono (by omega)))
    clear gc HB B1 G1 HK M0 c0
    go_wp2_with fail
    have hW : Wr (wc.alloc (.cells #[.int .i64 0, .slice none 0 0, .int .i64 0] 58)) wc.heap.size (wc.heap.size + 1) [] := wr_new (heap_new _ _) (by omega) (by simp)
    have gb : (wc.alloc (.cells #[.int .i64 0, .slice none 0 0, .int .i64 0] 58)).heap[w.heap.size]? = some (.cells #[.int .i64 3, .string d, .int .i64 o, .int .i64 t, .int .i64 m] 24 (0, 0)) := heap_alloc_at GC.out
    have gl : (wc.alloc (.cells #[.int .i64 0, .slice none 0 0, .int .i64 0] 58)).heap[L]? = some (.cells #[fv 55, fv 56] 45 (0, 0)) := heap_alloc_at HL.out
    have bb : Below w.heap.size w (wc.alloc (.cells #[.int .i64 0, .slice none 0 0, .int .i64 0] 58)) := BC.out.alloc BC.out.size _
    have hne : w.heap.size ≠ wc.heap.size := by omega
    have hnl : L ≠ wc.heap.size := by have := lt_of_heap HL.out; omega
    generalize wc.alloc (.cells #[.int .i64 0, .slice none 0 0, .int .i64 0] 58) = w2 at *
    have hpp : w.heap.size ≤ wc.heap.size := by omega
    generalize wc.heap.size = p at *
    clear GC BC HL c0' hltc
    refine (pkind_any p (p + 1) [] 3 w2 hW (by omega) (by simp)).mono ?_
    rintro e w3 ⟨rfl, h3, hc3⟩
    have gb3 := hc3.other gb hne (by decide)
    have gl3 := hc3.other gl hnl (by decide)
    have bb3 : Below w.heap.size w w3 := bb.trans (hc3.below bb.size (fun i hi => by rintro (h | h) <;> omega))
    have hl3 : ([] ++ nb 1 3).length = 1 := by simp [nb_len]
    clear gb gl bb hc3 hW
    rw [List.nil_append] at h3 hl3
    have GB3 := hid gb3
    have GL3 := hid gl3
    have BB3 := hid bb3
    have hlt3 := lt_of_heap gb3
    clear gb3 gl3 bb3
    have x3_0 : w3.cell? ⟨w.heap.size, 0, none⟩ = some (.int .i64 3) := (cell_of GB3.out).trans rfl
    have x3_1 : w3.cell? ⟨w.heap.size, 1, none⟩ = some (.string d) := (cell_of GB3.out).trans rfl
    have x3_2 : w3.cell? ⟨w.heap.size, 2, none⟩ = some (.int .i64 o) := (cell_of GB3.out).trans rfl
    have x3_3 : w3.cell? ⟨w.heap.size, 3, none⟩ = some (.int .i64 t) := (cell_of GB3.out).trans rfl
    have x3_4 : w3.cell? ⟨w.heap.size, 4, none⟩ = some (.int .i64 m) := (cell_of GB3.out).trans rfl
    have y3 : w3.cell? ⟨L, 0, none⟩ = some (fv 55) := (cell_of GL3.out).trans rfl
    go_wp2_with fail
    refine (q7w_any p (p + 1) (nb 1 3) 3 d o t m w3 h3 (by omega)).mono ?_
    rintro e w4 ⟨rfl, h4, hc4⟩
    have bb4 : Below w.heap.size w w4 := BB3.out.trans (hc4.below BB3.out.size (fun i hi => by rintro (h | h) <;> omega))
    clear GB3 GL3 BB3 h3
    go_wp2_with fail
    refine (pwhole_ok p (p + 1) _ w4 h4).mono ?_
    rintro e w5 ⟨rfl, rfl⟩
    go_wp2_with fail
    go_ret2
    exact ⟨rfl, bb4⟩
set_option maxHeartbeats 1000000 in
set_option maxRecDepth 20000 in
theorem ask_4 (d : ByteArray) (o t m : Int) (w : World) :
    Calls Tryz.prog 6 #[.agg #[.int .i64 4, .string d, .int .i64 o, .int .i64 t, .int .i64 m]] w fun e w' => e = .returned (.tuple #[.string (bs (nb 1 4)), .int .i64 0]) ∧ Below w.heap.size w w' := by
  have g1 : (w.alloc (.cells #[.int .i64 4, .string d, .int .i64 o, .int .i64 t, .int .i64 m] 24)).heap[w.heap.size]? = some (.cells #[.int .i64 4, .string d, .int .i64 o, .int .i64 t, .int .i64 m] 24 (0, 0)) := heap_new _ _
  have b1 : Below w.heap.size w (w.alloc (.cells #[.int .i64 4, .string d, .int .i64 o, .int .i64 t, .int .i64 m] 24)) := (Below.refl _ _).alloc (Nat.le_refl _) _
  go_enter Tryz.func6, Tryz.ntmps6
  go_wp2_with fail
  generalize w.alloc (.cells #[.int .i64 4, .string d, .int .i64 o, .int .i64 t, .int .i64 m] 24) = w1 at *
  have hlt := lt_of_heap g1
  have c0 : w1.cell? ⟨w.heap.size, 0, none⟩ = some (.int .i64 4) := (cell_of g1).trans rfl
  have G1 := hid g1
  have B1 := hid b1
  have HK : Hid (∀ y, Below w1.heap.size w1 y → y.cell? ⟨w.heap.size, 0, none⟩ = some (.int .i64 4)) := hid (fun y hy => (hy.cell (p := ⟨w.heap.size, 0, none⟩) hlt).trans c0)
  have M0 : Below w1.heap.size w1 w1 := Below.refl _ _
  clear g1 b1
  go_cut [4, 5] (fun v4 v5 wc => ∃ L, v4 = .pointer (some ⟨L, 0, none⟩) ∧ v5 = .bool true ∧ Hid (Below w1.heap.size w1 wc) ∧ Hid (wc.heap[L]? = some (.cells #[fv 45, fv 46] 45 (0, 0))) ∧ Hid (w1.heap.size ≤ L))
  case first =>
    go_region_held3 (fun y => y.cell? ⟨w.heap.size, 0, none⟩ = some (.int .i64 4)) (((with_reducible refine HK.out _ ?_); repeat (first | with_reducible exact M0 | with_reducible refine Below.drew ?_ | with_reducible refine Below.alloc ?_ (by simp <;> omega) _))) ((first | (go_at_call 19; refine (qtable_any _).mono ?_; rintro e w' ⟨rfl, rfl⟩) | (go_at_call 18; refine (qfind_4 _ _ (by first | exact heap_new' _ _ _ (by simp) | exact hd_drew (heap_new' _ _ _ (by simp)) | exact heap_alloc_at (heap_new' _ _ _ (by simp)) | exact hd_drew (heap_alloc_at (heap_new' _ _ _ (by simp))))).mono ?_; rintro e w' ⟨rfl, rfl⟩)))
    · go_wp2
      go_meet
      case rel =>
        refine ⟨_, rfl, rfl, ?_, hid (hd_drew (heap_new' _ _ _ (by simp))), hid (by omega)⟩
        refine hid ?_
        repeat (first | with_reducible exact M0 | with_reducible refine Below.drew ?_ | with_reducible refine Below.alloc ?_ (by simp <;> omega) _)
    · go_wp2
      go_meet
      case rel =>
        refine ⟨_, rfl, rfl, ?_, hid (hd_drew (heap_alloc_at (heap_new' _ _ _ (by simp)))), hid (by omega)⟩
        refine hid ?_
        repeat (first | with_reducible exact M0 | with_reducible refine Below.drew ?_ | with_reducible refine Below.alloc ?_ (by simp <;> omega) _)
    · go_wp2
      go_meet
      case rel =>
        refine ⟨_, rfl, rfl, ?_, hid (hd_drew (heap_alloc_at (heap_alloc_at (heap_alloc_at (heap_new _ _))))), hid (by omega)⟩
        refine hid ?_
        repeat (first | with_reducible exact M0 | with_reducible refine Below.drew ?_ | with_reducible refine Below.alloc ?_ (by simp <;> omega) _)
  case rest =>
    obtain ⟨L, rfl, rfl, HB, HL, HLE⟩ := hcut
    have gc : wc.heap[w.heap.size]? = some (.cells #[.int .i64 4, .string d, .int .i64 o, .int .i64 t, .int .i64 m] 24 (0, 0)) := (HB.out.block _ hlt).trans G1.out
    have c0' : wc.cell? ⟨w.heap.size, 0, none⟩ = some (.int .i64 4) := (cell_of gc).trans rfl
    have hltc := lt_of_heap gc
    have GC := hid gc
    have BC : Hid (Below w.heap.size w wc) := hid (B1.out.trans (HB.out.mono (by omega)))
    clear gc HB B1 G1 HK M0 c0
    go_wp2_with fail
    have hW : Wr (wc.alloc (.cells #[.int .i64 0, .slice none 0 0, .int .i64 0] 58)) wc.heap.size (wc.heap.size + 1) [] := wr_new (heap_new _ _) (by omega) (by simp)
    have gb : (wc.alloc (.cells #[.int .i64 0, .slice none 0 0, .int .i64 0] 58)).heap[w.heap.size]? = some (.cells #[.int .i64 4, .string d, .int .i64 o, .int .i64 t, .int .i64 m] 24 (0, 0)) := heap_alloc_at GC.out
    have gl : (wc.alloc (.cells #[.int .i64 0, .slice none 0 0, .int .i64 0] 58)).heap[L]? = some (.cells #[fv 45, fv 46] 45 (0, 0)) := heap_alloc_at HL.out
    have bb : Below w.heap.size w (wc.alloc (.cells #[.int .i64 0, .slice none 0 0, .int .i64 0] 58)) := BC.out.alloc BC.out.size _
    have hne : w.heap.size ≠ wc.heap.size := by omega
    have hnl : L ≠ wc.heap.size := by have := lt_of_heap HL.out; omega
    generalize wc.alloc (.cells #[.int .i64 0, .slice none 0 0, .int .i64 0] 58) = w2 at *
    have hpp : w.heap.size ≤ wc.heap.size := by omega
    generalize wc.heap.size = p at *
    clear GC BC HL c0' hltc
    refine (pkind_any p (p + 1) [] 4 w2 hW (by omega) (by simp)).mono ?_
    rintro e w3 ⟨rfl, h3, hc3⟩
    have gb3 := hc3.other gb hne (by decide)
    have gl3 := hc3.other gl hnl (by decide)
    have bb3 : Below w.heap.size w w3 := bb.trans (hc3.below bb.size (fun i hi => by rintro (h | h) <;> omega))
    have hl3 : ([] ++ nb 1 4).length = 1 := by simp [nb_len]
    clear gb gl bb hc3 hW
    rw [List.nil_append] at h3 hl3
    have GB3 := hid gb3
    have GL3 := hid gl3
    have BB3 := hid bb3
    have hlt3 := lt_of_heap gb3
    clear gb3 gl3 bb3
    have x3_0 : w3.cell? ⟨w.heap.size, 0, none⟩ = some (.int .i64 4) := (cell_of GB3.out).trans rfl
    have x3_1 : w3.cell? ⟨w.heap.size, 1, none⟩ = some (.string d) := (cell_of GB3.out).trans rfl
    have x3_2 : w3.cell? ⟨w.heap.size, 2, none⟩ = some (.int .i64 o) := (cell_of GB3.out).trans rfl
    have x3_3 : w3.cell? ⟨w.heap.size, 3, none⟩ = some (.int .i64 t) := (cell_of GB3.out).trans rfl
    have x3_4 : w3.cell? ⟨w.heap.size, 4, none⟩ = some (.int .i64 m) := (cell_of GB3.out).trans rfl
    have y3 : w3.cell? ⟨L, 0, none⟩ = some (fv 45) := (cell_of GL3.out).trans rfl
    go_wp2_with fail
    refine (q1w_any p (p + 1) (nb 1 4) 4 d o t m w3 h3 (by omega)).mono ?_
    rintro e w4 ⟨rfl, h4, hc4⟩
    have bb4 : Below w.heap.size w w4 := BB3.out.trans (hc4.below BB3.out.size (fun i hi => by rintro (h | h) <;> omega))
    clear GB3 GL3 BB3 h3
    go_wp2_with fail
    refine (pwhole_ok p (p + 1) _ w4 h4).mono ?_
    rintro e w5 ⟨rfl, rfl⟩
    go_wp2_with fail
    go_ret2
    exact ⟨rfl, bb4⟩
set_option maxHeartbeats 1000000 in
set_option maxRecDepth 20000 in
theorem ask_5 (d : ByteArray) (o t m : Int) (w : World) :
    Calls Tryz.prog 6 #[.agg #[.int .i64 5, .string d, .int .i64 o, .int .i64 t, .int .i64 m]] w fun e w' => e = .returned (.tuple #[.string (bs (nb 1 5 ++ nb 8 (o % 18446744073709551616).toNat)), .int .i64 0]) ∧ Below w.heap.size w w' := by
  have g1 : (w.alloc (.cells #[.int .i64 5, .string d, .int .i64 o, .int .i64 t, .int .i64 m] 24)).heap[w.heap.size]? = some (.cells #[.int .i64 5, .string d, .int .i64 o, .int .i64 t, .int .i64 m] 24 (0, 0)) := heap_new _ _
  have b1 : Below w.heap.size w (w.alloc (.cells #[.int .i64 5, .string d, .int .i64 o, .int .i64 t, .int .i64 m] 24)) := (Below.refl _ _).alloc (Nat.le_refl _) _
  go_enter Tryz.func6, Tryz.ntmps6
  go_wp2_with fail
  generalize w.alloc (.cells #[.int .i64 5, .string d, .int .i64 o, .int .i64 t, .int .i64 m] 24) = w1 at *
  have hlt := lt_of_heap g1
  have c0 : w1.cell? ⟨w.heap.size, 0, none⟩ = some (.int .i64 5) := (cell_of g1).trans rfl
  have G1 := hid g1
  have B1 := hid b1
  have HK : Hid (∀ y, Below w1.heap.size w1 y → y.cell? ⟨w.heap.size, 0, none⟩ = some (.int .i64 5)) := hid (fun y hy => (hy.cell (p := ⟨w.heap.size, 0, none⟩) hlt).trans c0)
  have M0 : Below w1.heap.size w1 w1 := Below.refl _ _
  clear g1 b1
  go_cut [4, 5] (fun v4 v5 wc => ∃ L, v4 = .pointer (some ⟨L, 0, none⟩) ∧ v5 = .bool true ∧ Hid (Below w1.heap.size w1 wc) ∧ Hid (wc.heap[L]? = some (.cells #[fv 57, fv 58] 45 (0, 0))) ∧ Hid (w1.heap.size ≤ L))
  case first =>
    go_region_held3 (fun y => y.cell? ⟨w.heap.size, 0, none⟩ = some (.int .i64 5)) (((with_reducible refine HK.out _ ?_); repeat (first | with_reducible exact M0 | with_reducible refine Below.drew ?_ | with_reducible refine Below.alloc ?_ (by simp <;> omega) _))) ((first | (go_at_call 19; refine (qtable_any _).mono ?_; rintro e w' ⟨rfl, rfl⟩) | (go_at_call 18; refine (qfind_5 _ _ (by first | exact heap_new' _ _ _ (by simp) | exact hd_drew (heap_new' _ _ _ (by simp)) | exact heap_alloc_at (heap_new' _ _ _ (by simp)) | exact hd_drew (heap_alloc_at (heap_new' _ _ _ (by simp))))).mono ?_; rintro e w' ⟨rfl, rfl⟩)))
    · go_wp2
      go_meet
      case rel =>
        refine ⟨_, rfl, rfl, ?_, hid (hd_drew (heap_new' _ _ _ (by simp))), hid (by omega)⟩
        refine hid ?_
        repeat (first | with_reducible exact M0 | with_reducible refine Below.drew ?_ | with_reducible refine Below.alloc ?_ (by simp <;> omega) _)
    · go_wp2
      go_meet
      case rel =>
        refine ⟨_, rfl, rfl, ?_, hid (hd_drew (heap_alloc_at (heap_new' _ _ _ (by simp)))), hid (by omega)⟩
        refine hid ?_
        repeat (first | with_reducible exact M0 | with_reducible refine Below.drew ?_ | with_reducible refine Below.alloc ?_ (by simp <;> omega) _)
    · go_wp2
      go_meet
      case rel =>
        refine ⟨_, rfl, rfl, ?_, hid (hd_drew (heap_alloc_at (heap_alloc_at (heap_alloc_at (heap_new _ _))))), hid (by omega)⟩
        refine hid ?_
        repeat (first | with_reducible exact M0 | with_reducible refine Below.drew ?_ | with_reducible refine Below.alloc ?_ (by simp <;> omega) _)
  case rest =>
    obtain ⟨L, rfl, rfl, HB, HL, HLE⟩ := hcut
    have gc : wc.heap[w.heap.size]? = some (.cells #[.int .i64 5, .string d, .int .i64 o, .int .i64 t, .int .i64 m] 24 (0, 0)) := (HB.out.block _ hlt).trans G1.out
    have c0' : wc.cell? ⟨w.heap.size, 0, none⟩ = some (.int .i64 5) := (cell_of gc).trans rfl
    have hltc := lt_of_heap gc
    have GC := hid gc
    have BC : Hid (Below w.heap.size w wc) := hid (B1.out.trans (HB.out.mono (by omega)))
    clear gc HB B1 G1 HK M0 c0
    go_wp2_with fail
    have hW : Wr (wc.alloc (.cells #[.int .i64 0, .slice none 0 0, .int .i64 0] 58)) wc.heap.size (wc.heap.size + 1) [] := wr_new (heap_new _ _) (by omega) (by simp)
    have gb : (wc.alloc (.cells #[.int .i64 0, .slice none 0 0, .int .i64 0] 58)).heap[w.heap.size]? = some (.cells #[.int .i64 5, .string d, .int .i64 o, .int .i64 t, .int .i64 m] 24 (0, 0)) := heap_alloc_at GC.out
    have gl : (wc.alloc (.cells #[.int .i64 0, .slice none 0 0, .int .i64 0] 58)).heap[L]? = some (.cells #[fv 57, fv 58] 45 (0, 0)) := heap_alloc_at HL.out
    have bb : Below w.heap.size w (wc.alloc (.cells #[.int .i64 0, .slice none 0 0, .int .i64 0] 58)) := BC.out.alloc BC.out.size _
    have hne : w.heap.size ≠ wc.heap.size := by omega
    have hnl : L ≠ wc.heap.size := by have := lt_of_heap HL.out; omega
    generalize wc.alloc (.cells #[.int .i64 0, .slice none 0 0, .int .i64 0] 58) = w2 at *
    have hpp : w.heap.size ≤ wc.heap.size := by omega
    generalize wc.heap.size = p at *
    clear GC BC HL c0' hltc
    refine (pkind_any p (p + 1) [] 5 w2 hW (by omega) (by simp)).mono ?_
    rintro e w3 ⟨rfl, h3, hc3⟩
    have gb3 := hc3.other gb hne (by decide)
    have gl3 := hc3.other gl hnl (by decide)
    have bb3 : Below w.heap.size w w3 := bb.trans (hc3.below bb.size (fun i hi => by rintro (h | h) <;> omega))
    have hl3 : ([] ++ nb 1 5).length = 1 := by simp [nb_len]
    clear gb gl bb hc3 hW
    rw [List.nil_append] at h3 hl3
    have GB3 := hid gb3
    have GL3 := hid gl3
    have BB3 := hid bb3
    have hlt3 := lt_of_heap gb3
    clear gb3 gl3 bb3
    have x3_0 : w3.cell? ⟨w.heap.size, 0, none⟩ = some (.int .i64 5) := (cell_of GB3.out).trans rfl
    have x3_1 : w3.cell? ⟨w.heap.size, 1, none⟩ = some (.string d) := (cell_of GB3.out).trans rfl
    have x3_2 : w3.cell? ⟨w.heap.size, 2, none⟩ = some (.int .i64 o) := (cell_of GB3.out).trans rfl
    have x3_3 : w3.cell? ⟨w.heap.size, 3, none⟩ = some (.int .i64 t) := (cell_of GB3.out).trans rfl
    have x3_4 : w3.cell? ⟨w.heap.size, 4, none⟩ = some (.int .i64 m) := (cell_of GB3.out).trans rfl
    have y3 : w3.cell? ⟨L, 0, none⟩ = some (fv 57) := (cell_of GL3.out).trans rfl
    go_wp2_with fail
    refine (q9w_any p (p + 1) (nb 1 5) 5 d o t m w3 h3 (by omega)).mono ?_
    rintro e w4 ⟨rfl, h4, hc4⟩
    have bb4 : Below w.heap.size w w4 := BB3.out.trans (hc4.below BB3.out.size (fun i hi => by rintro (h | h) <;> omega))
    clear GB3 GL3 BB3 h3
    go_wp2_with fail
    refine (pwhole_ok p (p + 1) _ w4 h4).mono ?_
    rintro e w5 ⟨rfl, rfl⟩
    go_wp2_with fail
    go_ret2
    exact ⟨rfl, bb4⟩
set_option maxHeartbeats 1000000 in
set_option maxRecDepth 20000 in
theorem ask_6 (d : ByteArray) (o t m : Int) (w : World) :
    Calls Tryz.prog 6 #[.agg #[.int .i64 6, .string d, .int .i64 o, .int .i64 t, .int .i64 m]] w fun e w' => e = .returned (.tuple #[.string (bs (nb 1 6)), .int .i64 0]) ∧ Below w.heap.size w w' := by
  have g1 : (w.alloc (.cells #[.int .i64 6, .string d, .int .i64 o, .int .i64 t, .int .i64 m] 24)).heap[w.heap.size]? = some (.cells #[.int .i64 6, .string d, .int .i64 o, .int .i64 t, .int .i64 m] 24 (0, 0)) := heap_new _ _
  have b1 : Below w.heap.size w (w.alloc (.cells #[.int .i64 6, .string d, .int .i64 o, .int .i64 t, .int .i64 m] 24)) := (Below.refl _ _).alloc (Nat.le_refl _) _
  go_enter Tryz.func6, Tryz.ntmps6
  go_wp2_with fail
  generalize w.alloc (.cells #[.int .i64 6, .string d, .int .i64 o, .int .i64 t, .int .i64 m] 24) = w1 at *
  have hlt := lt_of_heap g1
  have c0 : w1.cell? ⟨w.heap.size, 0, none⟩ = some (.int .i64 6) := (cell_of g1).trans rfl
  have G1 := hid g1
  have B1 := hid b1
  have HK : Hid (∀ y, Below w1.heap.size w1 y → y.cell? ⟨w.heap.size, 0, none⟩ = some (.int .i64 6)) := hid (fun y hy => (hy.cell (p := ⟨w.heap.size, 0, none⟩) hlt).trans c0)
  have M0 : Below w1.heap.size w1 w1 := Below.refl _ _
  clear g1 b1
  go_cut [4, 5] (fun v4 v5 wc => ∃ L, v4 = .pointer (some ⟨L, 0, none⟩) ∧ v5 = .bool true ∧ Hid (Below w1.heap.size w1 wc) ∧ Hid (wc.heap[L]? = some (.cells #[fv 45, fv 46] 45 (0, 0))) ∧ Hid (w1.heap.size ≤ L))
  case first =>
    go_region_held3 (fun y => y.cell? ⟨w.heap.size, 0, none⟩ = some (.int .i64 6)) (((with_reducible refine HK.out _ ?_); repeat (first | with_reducible exact M0 | with_reducible refine Below.drew ?_ | with_reducible refine Below.alloc ?_ (by simp <;> omega) _))) ((first | (go_at_call 19; refine (qtable_any _).mono ?_; rintro e w' ⟨rfl, rfl⟩) | (go_at_call 18; refine (qfind_6 _ _ (by first | exact heap_new' _ _ _ (by simp) | exact hd_drew (heap_new' _ _ _ (by simp)) | exact heap_alloc_at (heap_new' _ _ _ (by simp)) | exact hd_drew (heap_alloc_at (heap_new' _ _ _ (by simp))))).mono ?_; rintro e w' ⟨rfl, rfl⟩)))
    · go_wp2
      go_meet
      case rel =>
        refine ⟨_, rfl, rfl, ?_, hid (hd_drew (heap_new' _ _ _ (by simp))), hid (by omega)⟩
        refine hid ?_
        repeat (first | with_reducible exact M0 | with_reducible refine Below.drew ?_ | with_reducible refine Below.alloc ?_ (by simp <;> omega) _)
    · go_wp2
      go_meet
      case rel =>
        refine ⟨_, rfl, rfl, ?_, hid (hd_drew (heap_alloc_at (heap_new' _ _ _ (by simp)))), hid (by omega)⟩
        refine hid ?_
        repeat (first | with_reducible exact M0 | with_reducible refine Below.drew ?_ | with_reducible refine Below.alloc ?_ (by simp <;> omega) _)
    · go_wp2
      go_meet
      case rel =>
        refine ⟨_, rfl, rfl, ?_, hid (hd_drew (heap_alloc_at (heap_alloc_at (heap_alloc_at (heap_new _ _))))), hid (by omega)⟩
        refine hid ?_
        repeat (first | with_reducible exact M0 | with_reducible refine Below.drew ?_ | with_reducible refine Below.alloc ?_ (by simp <;> omega) _)
  case rest =>
    obtain ⟨L, rfl, rfl, HB, HL, HLE⟩ := hcut
    have gc : wc.heap[w.heap.size]? = some (.cells #[.int .i64 6, .string d, .int .i64 o, .int .i64 t, .int .i64 m] 24 (0, 0)) := (HB.out.block _ hlt).trans G1.out
    have c0' : wc.cell? ⟨w.heap.size, 0, none⟩ = some (.int .i64 6) := (cell_of gc).trans rfl
    have hltc := lt_of_heap gc
    have GC := hid gc
    have BC : Hid (Below w.heap.size w wc) := hid (B1.out.trans (HB.out.mono (by omega)))
    clear gc HB B1 G1 HK M0 c0
    go_wp2_with fail
    have hW : Wr (wc.alloc (.cells #[.int .i64 0, .slice none 0 0, .int .i64 0] 58)) wc.heap.size (wc.heap.size + 1) [] := wr_new (heap_new _ _) (by omega) (by simp)
    have gb : (wc.alloc (.cells #[.int .i64 0, .slice none 0 0, .int .i64 0] 58)).heap[w.heap.size]? = some (.cells #[.int .i64 6, .string d, .int .i64 o, .int .i64 t, .int .i64 m] 24 (0, 0)) := heap_alloc_at GC.out
    have gl : (wc.alloc (.cells #[.int .i64 0, .slice none 0 0, .int .i64 0] 58)).heap[L]? = some (.cells #[fv 45, fv 46] 45 (0, 0)) := heap_alloc_at HL.out
    have bb : Below w.heap.size w (wc.alloc (.cells #[.int .i64 0, .slice none 0 0, .int .i64 0] 58)) := BC.out.alloc BC.out.size _
    have hne : w.heap.size ≠ wc.heap.size := by omega
    have hnl : L ≠ wc.heap.size := by have := lt_of_heap HL.out; omega
    generalize wc.alloc (.cells #[.int .i64 0, .slice none 0 0, .int .i64 0] 58) = w2 at *
    have hpp : w.heap.size ≤ wc.heap.size := by omega
    generalize wc.heap.size = p at *
    clear GC BC HL c0' hltc
    refine (pkind_any p (p + 1) [] 6 w2 hW (by omega) (by simp)).mono ?_
    rintro e w3 ⟨rfl, h3, hc3⟩
    have gb3 := hc3.other gb hne (by decide)
    have gl3 := hc3.other gl hnl (by decide)
    have bb3 : Below w.heap.size w w3 := bb.trans (hc3.below bb.size (fun i hi => by rintro (h | h) <;> omega))
    have hl3 : ([] ++ nb 1 6).length = 1 := by simp [nb_len]
    clear gb gl bb hc3 hW
    rw [List.nil_append] at h3 hl3
    have GB3 := hid gb3
    have GL3 := hid gl3
    have BB3 := hid bb3
    have hlt3 := lt_of_heap gb3
    clear gb3 gl3 bb3
    have x3_0 : w3.cell? ⟨w.heap.size, 0, none⟩ = some (.int .i64 6) := (cell_of GB3.out).trans rfl
    have x3_1 : w3.cell? ⟨w.heap.size, 1, none⟩ = some (.string d) := (cell_of GB3.out).trans rfl
    have x3_2 : w3.cell? ⟨w.heap.size, 2, none⟩ = some (.int .i64 o) := (cell_of GB3.out).trans rfl
    have x3_3 : w3.cell? ⟨w.heap.size, 3, none⟩ = some (.int .i64 t) := (cell_of GB3.out).trans rfl
    have x3_4 : w3.cell? ⟨w.heap.size, 4, none⟩ = some (.int .i64 m) := (cell_of GB3.out).trans rfl
    have y3 : w3.cell? ⟨L, 0, none⟩ = some (fv 45) := (cell_of GL3.out).trans rfl
    go_wp2_with fail
    refine (q1w_any p (p + 1) (nb 1 6) 6 d o t m w3 h3 (by omega)).mono ?_
    rintro e w4 ⟨rfl, h4, hc4⟩
    have bb4 : Below w.heap.size w w4 := BB3.out.trans (hc4.below BB3.out.size (fun i hi => by rintro (h | h) <;> omega))
    clear GB3 GL3 BB3 h3
    go_wp2_with fail
    refine (pwhole_ok p (p + 1) _ w4 h4).mono ?_
    rintro e w5 ⟨rfl, rfl⟩
    go_wp2_with fail
    go_ret2
    exact ⟨rfl, bb4⟩
set_option maxHeartbeats 1000000 in
set_option maxRecDepth 20000 in
theorem ask_long (d : ByteArray) (o t m : Int) (w : World) (hd : 16777216 < d.size) :
    Calls Tryz.prog 6 #[.agg #[.int .i64 1, .string d, .int .i64 o, .int .i64 t, .int .i64 m]] w fun e w' => e = .returned (.tuple #[.string ⟨#[]⟩, .int .i64 21]) ∧ Below w.heap.size w w' := by
  have g1 : (w.alloc (.cells #[.int .i64 1, .string d, .int .i64 o, .int .i64 t, .int .i64 m] 24)).heap[w.heap.size]? = some (.cells #[.int .i64 1, .string d, .int .i64 o, .int .i64 t, .int .i64 m] 24 (0, 0)) := heap_new _ _
  have b1 : Below w.heap.size w (w.alloc (.cells #[.int .i64 1, .string d, .int .i64 o, .int .i64 t, .int .i64 m] 24)) := (Below.refl _ _).alloc (Nat.le_refl _) _
  go_enter Tryz.func6, Tryz.ntmps6
  go_wp2_with fail
  generalize w.alloc (.cells #[.int .i64 1, .string d, .int .i64 o, .int .i64 t, .int .i64 m] 24) = w1 at *
  have hlt := lt_of_heap g1
  have c0 : w1.cell? ⟨w.heap.size, 0, none⟩ = some (.int .i64 1) := (cell_of g1).trans rfl
  have G1 := hid g1
  have B1 := hid b1
  have HK : Hid (∀ y, Below w1.heap.size w1 y → y.cell? ⟨w.heap.size, 0, none⟩ = some (.int .i64 1)) := hid (fun y hy => (hy.cell (p := ⟨w.heap.size, 0, none⟩) hlt).trans c0)
  have M0 : Below w1.heap.size w1 w1 := Below.refl _ _
  clear g1 b1
  go_cut [4, 5] (fun v4 v5 wc => ∃ L, v4 = .pointer (some ⟨L, 0, none⟩) ∧ v5 = .bool true ∧ Hid (Below w1.heap.size w1 wc) ∧ Hid (wc.heap[L]? = some (.cells #[fv 47, fv 49] 45 (0, 0))) ∧ Hid (w1.heap.size ≤ L))
  case first =>
    go_region_held3 (fun y => y.cell? ⟨w.heap.size, 0, none⟩ = some (.int .i64 1)) (((with_reducible refine HK.out _ ?_); repeat (first | with_reducible exact M0 | with_reducible refine Below.drew ?_ | with_reducible refine Below.alloc ?_ (by simp <;> omega) _))) ((first | (go_at_call 19; refine (qtable_any _).mono ?_; rintro e w' ⟨rfl, rfl⟩) | (go_at_call 18; refine (qfind_1 _ _ (by first | exact heap_new' _ _ _ (by simp) | exact hd_drew (heap_new' _ _ _ (by simp)) | exact heap_alloc_at (heap_new' _ _ _ (by simp)) | exact hd_drew (heap_alloc_at (heap_new' _ _ _ (by simp))))).mono ?_; rintro e w' ⟨rfl, rfl⟩)))
    · go_wp2
      go_meet
      case rel =>
        refine ⟨_, rfl, rfl, ?_, hid (hd_drew (heap_new' _ _ _ (by simp))), hid (by omega)⟩
        refine hid ?_
        repeat (first | with_reducible exact M0 | with_reducible refine Below.drew ?_ | with_reducible refine Below.alloc ?_ (by simp <;> omega) _)
    · go_wp2
      go_meet
      case rel =>
        refine ⟨_, rfl, rfl, ?_, hid (hd_drew (heap_alloc_at (heap_new' _ _ _ (by simp)))), hid (by omega)⟩
        refine hid ?_
        repeat (first | with_reducible exact M0 | with_reducible refine Below.drew ?_ | with_reducible refine Below.alloc ?_ (by simp <;> omega) _)
    · go_wp2
      go_meet
      case rel =>
        refine ⟨_, rfl, rfl, ?_, hid (hd_drew (heap_alloc_at (heap_alloc_at (heap_alloc_at (heap_new _ _))))), hid (by omega)⟩
        refine hid ?_
        repeat (first | with_reducible exact M0 | with_reducible refine Below.drew ?_ | with_reducible refine Below.alloc ?_ (by simp <;> omega) _)
  case rest =>
    obtain ⟨L, rfl, rfl, HB, HL, HLE⟩ := hcut
    have gc : wc.heap[w.heap.size]? = some (.cells #[.int .i64 1, .string d, .int .i64 o, .int .i64 t, .int .i64 m] 24 (0, 0)) := (HB.out.block _ hlt).trans G1.out
    have c0' : wc.cell? ⟨w.heap.size, 0, none⟩ = some (.int .i64 1) := (cell_of gc).trans rfl
    have hltc := lt_of_heap gc
    have GC := hid gc
    have BC : Hid (Below w.heap.size w wc) := hid (B1.out.trans (HB.out.mono (by omega)))
    clear gc HB B1 G1 HK M0 c0
    go_wp2_with fail
    have hW : Wr (wc.alloc (.cells #[.int .i64 0, .slice none 0 0, .int .i64 0] 58)) wc.heap.size (wc.heap.size + 1) [] := wr_new (heap_new _ _) (by omega) (by simp)
    have gb : (wc.alloc (.cells #[.int .i64 0, .slice none 0 0, .int .i64 0] 58)).heap[w.heap.size]? = some (.cells #[.int .i64 1, .string d, .int .i64 o, .int .i64 t, .int .i64 m] 24 (0, 0)) := heap_alloc_at GC.out
    have gl : (wc.alloc (.cells #[.int .i64 0, .slice none 0 0, .int .i64 0] 58)).heap[L]? = some (.cells #[fv 47, fv 49] 45 (0, 0)) := heap_alloc_at HL.out
    have bb : Below w.heap.size w (wc.alloc (.cells #[.int .i64 0, .slice none 0 0, .int .i64 0] 58)) := BC.out.alloc BC.out.size _
    have hne : w.heap.size ≠ wc.heap.size := by omega
    have hnl : L ≠ wc.heap.size := by have := lt_of_heap HL.out; omega
    generalize wc.alloc (.cells #[.int .i64 0, .slice none 0 0, .int .i64 0] 58) = w2 at *
    have hpp : w.heap.size ≤ wc.heap.size := by omega
    generalize wc.heap.size = p at *
    clear GC BC HL c0' hltc
    refine (pkind_any p (p + 1) [] 1 w2 hW (by omega) (by simp)).mono ?_
    rintro e w3 ⟨rfl, h3, hc3⟩
    have gb3 := hc3.other gb hne (by decide)
    have gl3 := hc3.other gl hnl (by decide)
    have bb3 : Below w.heap.size w w3 := bb.trans (hc3.below bb.size (fun i hi => by rintro (h | h) <;> omega))
    have hl3 : ([] ++ nb 1 1).length = 1 := by simp [nb_len]
    clear gb gl bb hc3 hW
    rw [List.nil_append] at h3 hl3
    have GB3 := hid gb3
    have GL3 := hid gl3
    have BB3 := hid bb3
    have hlt3 := lt_of_heap gb3
    clear gb3 gl3 bb3
    have x3_0 : w3.cell? ⟨w.heap.size, 0, none⟩ = some (.int .i64 1) := (cell_of GB3.out).trans rfl
    have x3_1 : w3.cell? ⟨w.heap.size, 1, none⟩ = some (.string d) := (cell_of GB3.out).trans rfl
    have x3_2 : w3.cell? ⟨w.heap.size, 2, none⟩ = some (.int .i64 o) := (cell_of GB3.out).trans rfl
    have x3_3 : w3.cell? ⟨w.heap.size, 3, none⟩ = some (.int .i64 t) := (cell_of GB3.out).trans rfl
    have x3_4 : w3.cell? ⟨w.heap.size, 4, none⟩ = some (.int .i64 m) := (cell_of GB3.out).trans rfl
    have y3 : w3.cell? ⟨L, 0, none⟩ = some (fv 47) := (cell_of GL3.out).trans rfl
    go_wp2_with fail
    refine (q3w_long p (p + 1) (nb 1 1) 1 d o t m w3 h3 hd).mono ?_
    rintro e w4 ⟨rfl, h4, hc4⟩
    have bb4 : Below w.heap.size w w4 := BB3.out.trans (hc4.below BB3.out.size (fun i hi => by rintro (h | h) <;> omega))
    clear GB3 GL3 BB3 h3
    go_wp2_with fail
    refine (pwhole_bad p w4 h4).mono ?_
    rintro e w5 ⟨rfl, m1, rfl⟩
    go_wp2_with fail
    go_ret2
    exact ⟨rfl, drewN_bel bb4 m1⟩
set_option maxHeartbeats 1000000 in
set_option maxRecDepth 20000 in
theorem ask_no (v : Int) (d : ByteArray) (o t m : Int) (w : World) (hv : ¬ (1 ≤ v ∧ v ≤ 6)) :
    Calls Tryz.prog 6 #[.agg #[.int .i64 v, .string d, .int .i64 o, .int .i64 t, .int .i64 m]] w fun e w' => e = .returned (.tuple #[.string ⟨#[]⟩, .int .i64 6]) ∧ Below w.heap.size w w' := by
  have g1 : (w.alloc (.cells #[.int .i64 v, .string d, .int .i64 o, .int .i64 t, .int .i64 m] 24)).heap[w.heap.size]? = some (.cells #[.int .i64 v, .string d, .int .i64 o, .int .i64 t, .int .i64 m] 24 (0, 0)) := heap_new _ _
  have b1 : Below w.heap.size w (w.alloc (.cells #[.int .i64 v, .string d, .int .i64 o, .int .i64 t, .int .i64 m] 24)) := (Below.refl _ _).alloc (Nat.le_refl _) _
  go_enter Tryz.func6, Tryz.ntmps6
  go_wp2_with fail
  generalize w.alloc (.cells #[.int .i64 v, .string d, .int .i64 o, .int .i64 t, .int .i64 m] 24) = w1 at *
  have hlt := lt_of_heap g1
  have c0 : w1.cell? ⟨w.heap.size, 0, none⟩ = some (.int .i64 v) := (cell_of g1).trans rfl
  have G1 := hid g1
  have B1 := hid b1
  have HK : Hid (∀ y, Below w1.heap.size w1 y → y.cell? ⟨w.heap.size, 0, none⟩ = some (.int .i64 v)) := hid (fun y hy => (hy.cell (p := ⟨w.heap.size, 0, none⟩) hlt).trans c0)
  have M0 : Below w1.heap.size w1 w1 := Below.refl _ _
  clear g1 b1
  go_cut [4, 5] (fun v4 v5 wc => ∃ L, v4 = .pointer (some ⟨L, 0, none⟩) ∧ v5 = .bool false ∧ Hid (Below w1.heap.size w1 wc) ∧ Hid (wc.heap[L]? = some (.cells #[.nilFunc, .nilFunc] 45 (0, 0))) ∧ Hid (w1.heap.size ≤ L))
  case first =>
    go_region_held3 (fun y => y.cell? ⟨w.heap.size, 0, none⟩ = some (.int .i64 v)) (((with_reducible refine HK.out _ ?_); repeat (first | with_reducible exact M0 | with_reducible refine Below.drew ?_ | with_reducible refine Below.alloc ?_ (by simp <;> omega) _))) ((first | (go_at_call 19; refine (qtable_any _).mono ?_; rintro e w' ⟨rfl, rfl⟩) | (go_at_call 18; refine (qfind_no _ _ _ hv).mono ?_; rintro e w' ⟨rfl, rfl⟩)))
    · go_wp2
      go_meet
      case rel =>
        refine ⟨_, rfl, rfl, ?_, hid (hd_drew (heap_new' _ _ _ (by simp))), hid (by omega)⟩
        refine hid ?_
        repeat (first | with_reducible exact M0 | with_reducible refine Below.drew ?_ | with_reducible refine Below.alloc ?_ (by simp <;> omega) _)
    · go_wp2
      go_meet
      case rel =>
        refine ⟨_, rfl, rfl, ?_, hid (hd_drew (heap_alloc_at (heap_new' _ _ _ (by simp)))), hid (by omega)⟩
        refine hid ?_
        repeat (first | with_reducible exact M0 | with_reducible refine Below.drew ?_ | with_reducible refine Below.alloc ?_ (by simp <;> omega) _)
    · go_wp2
      go_meet
      case rel =>
        refine ⟨_, rfl, rfl, ?_, hid (hd_drew (heap_alloc_at (heap_alloc_at (heap_alloc_at (heap_new _ _))))), hid (by omega)⟩
        refine hid ?_
        repeat (first | with_reducible exact M0 | with_reducible refine Below.drew ?_ | with_reducible refine Below.alloc ?_ (by simp <;> omega) _)
  case rest =>
    obtain ⟨L, rfl, rfl, HB, HL, HLE⟩ := hcut
    have gc : wc.heap[w.heap.size]? = some (.cells #[.int .i64 v, .string d, .int .i64 o, .int .i64 t, .int .i64 m] 24 (0, 0)) := (HB.out.block _ hlt).trans G1.out
    have c0' : wc.cell? ⟨w.heap.size, 0, none⟩ = some (.int .i64 v) := (cell_of gc).trans rfl
    have hltc := lt_of_heap gc
    have GC := hid gc
    have BC : Hid (Below w.heap.size w wc) := hid (B1.out.trans (HB.out.mono (by omega)))
    clear gc HB B1 G1 HK M0 c0
    go_wp2_with fail
    go_ret2
    exact ⟨rfl, BC.out⟩
end Go.Proofs.YtgdaaohlongmlaaGreat
