/- A reply is written: Reply, kind by kind. -/
import Derived.Test.YtgdaaohlongmlaaGreatPw4
namespace Go.Proofs.YtgdaaohlongmlaaGreat
open Go.RowKit
set_option maxHeartbeats 1000000 in
set_option maxRecDepth 20000 in
theorem reply_err4 (r : Int) (b : Bool) (o n : Int) (d : ByteArray) (w : World) (hr : r ≠ 0) (h0 : 0 ≤ r) (h1 : r ≤ 2147483647) :
    Calls Tryz.prog 8 #[.agg #[.int .i64 4, .int .i64 r, .bool b, .int .i64 o, .int .i64 n, .string d]] w fun e w' => e = .returned (.tuple #[.string (bs (nb 1 4 ++ nb 4 (r : Int).toNat)), .int .i64 0]) ∧ Below w.heap.size w w' := by
  have g1 : (w.alloc (.cells #[.int .i64 4, .int .i64 r, .bool b, .int .i64 o, .int .i64 n, .string d] 27)).heap[w.heap.size]? = some (.cells #[.int .i64 4, .int .i64 r, .bool b, .int .i64 o, .int .i64 n, .string d] 27 (0, 0)) := heap_new _ _
  have b1 : Below w.heap.size w (w.alloc (.cells #[.int .i64 4, .int .i64 r, .bool b, .int .i64 o, .int .i64 n, .string d] 27)) := (Below.refl _ _).alloc (Nat.le_refl _) _
  go_enter Tryz.func8, Tryz.ntmps8
  go_wp2_with fail
  generalize w.alloc (.cells #[.int .i64 4, .int .i64 r, .bool b, .int .i64 o, .int .i64 n, .string d] 27) = w1 at *
  have hlt := lt_of_heap g1
  have c0 : w1.cell? ⟨w.heap.size, 0, none⟩ = some (.int .i64 4) := (cell_of g1).trans rfl
  have G1 := hid g1
  have B1 := hid b1
  have HK : Hid (∀ y, Below w1.heap.size w1 y → y.cell? ⟨w.heap.size, 0, none⟩ = some (.int .i64 4)) := hid (fun y hy => (hy.cell (p := ⟨w.heap.size, 0, none⟩) hlt).trans c0)
  have M0 : Below w1.heap.size w1 w1 := Below.refl _ _
  clear g1 b1
  go_cut [4, 5] (fun v4 v5 wc => ∃ L, v4 = .pointer (some ⟨L, 0, none⟩) ∧ v5 = .bool true ∧ Hid (Below w1.heap.size w1 wc) ∧ Hid (wc.heap[L]? = some (.cells #[fv 73, fv 74] 72 (0, 0))) ∧ Hid (w1.heap.size ≤ L))
  case first =>
    go_region_held3 (fun y => y.cell? ⟨w.heap.size, 0, none⟩ = some (.int .i64 4)) (((with_reducible refine HK.out _ ?_); repeat (first | with_reducible exact M0 | with_reducible refine Below.drew ?_ | with_reducible refine Below.alloc ?_ (by simp <;> omega) _))) ((first | (go_at_call 29; refine (ptable_any _).mono ?_; rintro e w' ⟨rfl, rfl⟩) | (go_at_call 28; refine (pfind_4 _ _ (by first | exact heap_new' _ _ _ (by simp) | exact hd_drew (heap_new' _ _ _ (by simp)) | exact heap_alloc_at (heap_new' _ _ _ (by simp)) | exact hd_drew (heap_alloc_at (heap_new' _ _ _ (by simp))))).mono ?_; rintro e w' ⟨rfl, rfl⟩)))
    · go_wp2
      go_meet
      case rel =>
        refine ⟨_, rfl, rfl, ?_, hid (hd_drew (heap_new' _ _ _ (by simp))), hid (by omega)⟩
        refine hid ?_
        repeat (first | with_reducible exact M0 | with_reducible refine Below.drew ?_ | with_reducible refine Below.alloc ?_ (by simp <;> omega) _)
    · go_wp2
      go_meet
      case rel =>
        refine ⟨_, rfl, rfl, ?_, hid (hd_drew (heap_alloc_at (heap_new' _ _ _ (by simp)))), hid (by omega)⟩
        refine hid ?_
        repeat (first | with_reducible exact M0 | with_reducible refine Below.drew ?_ | with_reducible refine Below.alloc ?_ (by simp <;> omega) _)
    · go_wp2
      go_meet
      case rel =>
        refine ⟨_, rfl, rfl, ?_, hid (hd_drew (heap_alloc_at (heap_alloc_at (heap_alloc_at (heap_new _ _))))), hid (by omega)⟩
        refine hid ?_
        repeat (first | with_reducible exact M0 | with_reducible refine Below.drew ?_ | with_reducible refine Below.alloc ?_ (by simp <;> omega) _)
  case rest =>
    obtain ⟨L, rfl, rfl, HB, HL, HLE⟩ := hcut
    have gc : wc.heap[w.heap.size]? = some (.cells #[.int .i64 4, .int .i64 r, .bool b, .int .i64 o, .int .i64 n, .string d] 27 (0, 0)) := (HB.out.block _ hlt).trans G1.out
    have c0' : wc.cell? ⟨w.heap.size, 0, none⟩ = some (.int .i64 4) := (cell_of gc).trans rfl
    have c1' : wc.cell? ⟨w.heap.size, 1, none⟩ = some (.int .i64 r) := (cell_of gc).trans rfl
    have hltc := lt_of_heap gc
    have GC := hid gc
    have BC : Hid (Below w.heap.size w wc) := hid (B1.out.trans (HB.out.mono (by omega)))
    clear gc HB B1 G1 HK M0 c0
    go_wp2_with fail
    have hW : Wr (wc.alloc (.cells #[.int .i64 0, .slice none 0 0, .int .i64 0] 58)) wc.heap.size (wc.heap.size + 1) [] := wr_new (heap_new _ _) (by omega) (by simp)
    have gb : (wc.alloc (.cells #[.int .i64 0, .slice none 0 0, .int .i64 0] 58)).heap[w.heap.size]? = some (.cells #[.int .i64 4, .int .i64 r, .bool b, .int .i64 o, .int .i64 n, .string d] 27 (0, 0)) := heap_alloc_at GC.out
    have gl : (wc.alloc (.cells #[.int .i64 0, .slice none 0 0, .int .i64 0] 58)).heap[L]? = some (.cells #[fv 73, fv 74] 72 (0, 0)) := heap_alloc_at HL.out
    have bb : Below w.heap.size w (wc.alloc (.cells #[.int .i64 0, .slice none 0 0, .int .i64 0] 58)) := BC.out.alloc BC.out.size _
    have hne : w.heap.size ≠ wc.heap.size := by omega
    have hnl : L ≠ wc.heap.size := by have := lt_of_heap HL.out; omega
    generalize wc.alloc (.cells #[.int .i64 0, .slice none 0 0, .int .i64 0] 58) = w2 at *
    have hpp : w.heap.size ≤ wc.heap.size := by omega
    generalize wc.heap.size = p at *
    clear GC BC HL c0' c1' hltc
    refine (pkind_any p (p + 1) [] 4 w2 hW (by omega) (by simp)).mono ?_
    rintro e w3 ⟨rfl, h3, hc3⟩
    have gb3 := hc3.other gb hne (by decide)
    have gl3 := hc3.other gl hnl (by decide)
    have bb3 : Below w.heap.size w w3 := bb.trans (hc3.below bb.size (fun i hi => by rintro (h | h) <;> omega))
    have hl3 : ([] ++ nb 1 4).length = 1 := by simp [nb_len]
    clear gb gl bb hc3 hW
    rw [List.nil_append] at h3 hl3
    have GB3 := hid gb3
    have GL3 := hid gl3
    have BB3 := hid bb3
    have hlt3 := lt_of_heap gb3
    have x3_1 : w3.cell? ⟨w.heap.size, 1, none⟩ = some (.int .i64 r) := (cell_of GB3.out).trans rfl
    clear gb3 gl3 bb3
    go_wp2_with fail
    refine (perr_any p (p + 1) (nb 1 4) r w3 h3 (by omega) (by omega) (by omega)).mono ?_
    rintro e w4 ⟨rfl, h4, hc4⟩
    have GB4 := hid (hc4.other GB3.out hne (by decide))
    have GL4 := hid (hc4.other GL3.out hnl (by decide))
    have BB4 : Hid (Below w.heap.size w w4) := hid (BB3.out.trans (hc4.below BB3.out.size (fun i hi => by rintro (h | h) <;> omega)))
    have hl4 : (nb 1 4 ++ nb 4 (r : Int).toNat).length = 5 := by simp [nb_len]
    clear hc4 h3 hl3 GB3 GL3 BB3 x3_1
    have x4_1 : w4.cell? ⟨w.heap.size, 1, none⟩ = some (.int .i64 r) := (cell_of GB4.out).trans rfl
    go_wp2_with fail
    refine (pwhole_ok p (p + 1) _ w4 h4).mono ?_
    rintro e w5 ⟨rfl, rfl⟩
    go_wp2_with fail
    go_ret2
    exact ⟨rfl, BB4.out⟩
set_option maxHeartbeats 1000000 in
set_option maxRecDepth 20000 in
theorem reply_lo4 (r : Int) (b : Bool) (o n : Int) (d : ByteArray) (w : World) (h0 : r < 0) :
    Calls Tryz.prog 8 #[.agg #[.int .i64 4, .int .i64 r, .bool b, .int .i64 o, .int .i64 n, .string d]] w fun e w' => e = .returned (.tuple #[.string ⟨#[]⟩, .int .i64 1]) ∧ Below w.heap.size w w' := by
  have g1 : (w.alloc (.cells #[.int .i64 4, .int .i64 r, .bool b, .int .i64 o, .int .i64 n, .string d] 27)).heap[w.heap.size]? = some (.cells #[.int .i64 4, .int .i64 r, .bool b, .int .i64 o, .int .i64 n, .string d] 27 (0, 0)) := heap_new _ _
  have b1 : Below w.heap.size w (w.alloc (.cells #[.int .i64 4, .int .i64 r, .bool b, .int .i64 o, .int .i64 n, .string d] 27)) := (Below.refl _ _).alloc (Nat.le_refl _) _
  go_enter Tryz.func8, Tryz.ntmps8
  go_wp2_with fail
  generalize w.alloc (.cells #[.int .i64 4, .int .i64 r, .bool b, .int .i64 o, .int .i64 n, .string d] 27) = w1 at *
  have hlt := lt_of_heap g1
  have c0 : w1.cell? ⟨w.heap.size, 0, none⟩ = some (.int .i64 4) := (cell_of g1).trans rfl
  have G1 := hid g1
  have B1 := hid b1
  have HK : Hid (∀ y, Below w1.heap.size w1 y → y.cell? ⟨w.heap.size, 0, none⟩ = some (.int .i64 4)) := hid (fun y hy => (hy.cell (p := ⟨w.heap.size, 0, none⟩) hlt).trans c0)
  have M0 : Below w1.heap.size w1 w1 := Below.refl _ _
  clear g1 b1
  go_cut [4, 5] (fun v4 v5 wc => ∃ L, v4 = .pointer (some ⟨L, 0, none⟩) ∧ v5 = .bool true ∧ Hid (Below w1.heap.size w1 wc) ∧ Hid (wc.heap[L]? = some (.cells #[fv 73, fv 74] 72 (0, 0))) ∧ Hid (w1.heap.size ≤ L))
  case first =>
    go_region_held3 (fun y => y.cell? ⟨w.heap.size, 0, none⟩ = some (.int .i64 4)) (((with_reducible refine HK.out _ ?_); repeat (first | with_reducible exact M0 | with_reducible refine Below.drew ?_ | with_reducible refine Below.alloc ?_ (by simp <;> omega) _))) ((first | (go_at_call 29; refine (ptable_any _).mono ?_; rintro e w' ⟨rfl, rfl⟩) | (go_at_call 28; refine (pfind_4 _ _ (by first | exact heap_new' _ _ _ (by simp) | exact hd_drew (heap_new' _ _ _ (by simp)) | exact heap_alloc_at (heap_new' _ _ _ (by simp)) | exact hd_drew (heap_alloc_at (heap_new' _ _ _ (by simp))))).mono ?_; rintro e w' ⟨rfl, rfl⟩)))
    · go_wp2
      go_meet
      case rel =>
        refine ⟨_, rfl, rfl, ?_, hid (hd_drew (heap_new' _ _ _ (by simp))), hid (by omega)⟩
        refine hid ?_
        repeat (first | with_reducible exact M0 | with_reducible refine Below.drew ?_ | with_reducible refine Below.alloc ?_ (by simp <;> omega) _)
    · go_wp2
      go_meet
      case rel =>
        refine ⟨_, rfl, rfl, ?_, hid (hd_drew (heap_alloc_at (heap_new' _ _ _ (by simp)))), hid (by omega)⟩
        refine hid ?_
        repeat (first | with_reducible exact M0 | with_reducible refine Below.drew ?_ | with_reducible refine Below.alloc ?_ (by simp <;> omega) _)
    · go_wp2
      go_meet
      case rel =>
        refine ⟨_, rfl, rfl, ?_, hid (hd_drew (heap_alloc_at (heap_alloc_at (heap_alloc_at (heap_new _ _))))), hid (by omega)⟩
        refine hid ?_
        repeat (first | with_reducible exact M0 | with_reducible refine Below.drew ?_ | with_reducible refine Below.alloc ?_ (by simp <;> omega) _)
  case rest =>
    obtain ⟨L, rfl, rfl, HB, HL, HLE⟩ := hcut
    have gc : wc.heap[w.heap.size]? = some (.cells #[.int .i64 4, .int .i64 r, .bool b, .int .i64 o, .int .i64 n, .string d] 27 (0, 0)) := (HB.out.block _ hlt).trans G1.out
    have c0' : wc.cell? ⟨w.heap.size, 0, none⟩ = some (.int .i64 4) := (cell_of gc).trans rfl
    have c1' : wc.cell? ⟨w.heap.size, 1, none⟩ = some (.int .i64 r) := (cell_of gc).trans rfl
    have hltc := lt_of_heap gc
    have GC := hid gc
    have BC : Hid (Below w.heap.size w wc) := hid (B1.out.trans (HB.out.mono (by omega)))
    clear gc HB B1 G1 HK M0 c0
    go_wp2_with fail
    go_ret2
    exact ⟨rfl, BC.out⟩
set_option maxHeartbeats 1000000 in
set_option maxRecDepth 20000 in
theorem reply_hi4 (r : Int) (b : Bool) (o n : Int) (d : ByteArray) (w : World) (h0 : 2147483647 < r) :
    Calls Tryz.prog 8 #[.agg #[.int .i64 4, .int .i64 r, .bool b, .int .i64 o, .int .i64 n, .string d]] w fun e w' => e = .returned (.tuple #[.string ⟨#[]⟩, .int .i64 1]) ∧ Below w.heap.size w w' := by
  have g1 : (w.alloc (.cells #[.int .i64 4, .int .i64 r, .bool b, .int .i64 o, .int .i64 n, .string d] 27)).heap[w.heap.size]? = some (.cells #[.int .i64 4, .int .i64 r, .bool b, .int .i64 o, .int .i64 n, .string d] 27 (0, 0)) := heap_new _ _
  have b1 : Below w.heap.size w (w.alloc (.cells #[.int .i64 4, .int .i64 r, .bool b, .int .i64 o, .int .i64 n, .string d] 27)) := (Below.refl _ _).alloc (Nat.le_refl _) _
  go_enter Tryz.func8, Tryz.ntmps8
  go_wp2_with fail
  generalize w.alloc (.cells #[.int .i64 4, .int .i64 r, .bool b, .int .i64 o, .int .i64 n, .string d] 27) = w1 at *
  have hlt := lt_of_heap g1
  have c0 : w1.cell? ⟨w.heap.size, 0, none⟩ = some (.int .i64 4) := (cell_of g1).trans rfl
  have G1 := hid g1
  have B1 := hid b1
  have HK : Hid (∀ y, Below w1.heap.size w1 y → y.cell? ⟨w.heap.size, 0, none⟩ = some (.int .i64 4)) := hid (fun y hy => (hy.cell (p := ⟨w.heap.size, 0, none⟩) hlt).trans c0)
  have M0 : Below w1.heap.size w1 w1 := Below.refl _ _
  clear g1 b1
  go_cut [4, 5] (fun v4 v5 wc => ∃ L, v4 = .pointer (some ⟨L, 0, none⟩) ∧ v5 = .bool true ∧ Hid (Below w1.heap.size w1 wc) ∧ Hid (wc.heap[L]? = some (.cells #[fv 73, fv 74] 72 (0, 0))) ∧ Hid (w1.heap.size ≤ L))
  case first =>
    go_region_held3 (fun y => y.cell? ⟨w.heap.size, 0, none⟩ = some (.int .i64 4)) (((with_reducible refine HK.out _ ?_); repeat (first | with_reducible exact M0 | with_reducible refine Below.drew ?_ | with_reducible refine Below.alloc ?_ (by simp <;> omega) _))) ((first | (go_at_call 29; refine (ptable_any _).mono ?_; rintro e w' ⟨rfl, rfl⟩) | (go_at_call 28; refine (pfind_4 _ _ (by first | exact heap_new' _ _ _ (by simp) | exact hd_drew (heap_new' _ _ _ (by simp)) | exact heap_alloc_at (heap_new' _ _ _ (by simp)) | exact hd_drew (heap_alloc_at (heap_new' _ _ _ (by simp))))).mono ?_; rintro e w' ⟨rfl, rfl⟩)))
    · go_wp2
      go_meet
      case rel =>
        refine ⟨_, rfl, rfl, ?_, hid (hd_drew (heap_new' _ _ _ (by simp))), hid (by omega)⟩
        refine hid ?_
        repeat (first | with_reducible exact M0 | with_reducible refine Below.drew ?_ | with_reducible refine Below.alloc ?_ (by simp <;> omega) _)
    · go_wp2
      go_meet
      case rel =>
        refine ⟨_, rfl, rfl, ?_, hid (hd_drew (heap_alloc_at (heap_new' _ _ _ (by simp)))), hid (by omega)⟩
        refine hid ?_
        repeat (first | with_reducible exact M0 | with_reducible refine Below.drew ?_ | with_reducible refine Below.alloc ?_ (by simp <;> omega) _)
    · go_wp2
      go_meet
      case rel =>
        refine ⟨_, rfl, rfl, ?_, hid (hd_drew (heap_alloc_at (heap_alloc_at (heap_alloc_at (heap_new _ _))))), hid (by omega)⟩
        refine hid ?_
        repeat (first | with_reducible exact M0 | with_reducible refine Below.drew ?_ | with_reducible refine Below.alloc ?_ (by simp <;> omega) _)
  case rest =>
    obtain ⟨L, rfl, rfl, HB, HL, HLE⟩ := hcut
    have gc : wc.heap[w.heap.size]? = some (.cells #[.int .i64 4, .int .i64 r, .bool b, .int .i64 o, .int .i64 n, .string d] 27 (0, 0)) := (HB.out.block _ hlt).trans G1.out
    have c0' : wc.cell? ⟨w.heap.size, 0, none⟩ = some (.int .i64 4) := (cell_of gc).trans rfl
    have c1' : wc.cell? ⟨w.heap.size, 1, none⟩ = some (.int .i64 r) := (cell_of gc).trans rfl
    have hltc := lt_of_heap gc
    have GC := hid gc
    have BC : Hid (Below w.heap.size w wc) := hid (B1.out.trans (HB.out.mono (by omega)))
    clear gc HB B1 G1 HK M0 c0
    go_wp2_with fail
    go_ret2
    exact ⟨rfl, BC.out⟩
set_option maxHeartbeats 1000000 in
set_option maxRecDepth 20000 in
theorem reply_err5 (r : Int) (b : Bool) (o n : Int) (d : ByteArray) (w : World) (hr : r ≠ 0) (h0 : 0 ≤ r) (h1 : r ≤ 2147483647) :
    Calls Tryz.prog 8 #[.agg #[.int .i64 5, .int .i64 r, .bool b, .int .i64 o, .int .i64 n, .string d]] w fun e w' => e = .returned (.tuple #[.string (bs (nb 1 5 ++ nb 4 (r : Int).toNat)), .int .i64 0]) ∧ Below w.heap.size w w' := by
  have g1 : (w.alloc (.cells #[.int .i64 5, .int .i64 r, .bool b, .int .i64 o, .int .i64 n, .string d] 27)).heap[w.heap.size]? = some (.cells #[.int .i64 5, .int .i64 r, .bool b, .int .i64 o, .int .i64 n, .string d] 27 (0, 0)) := heap_new _ _
  have b1 : Below w.heap.size w (w.alloc (.cells #[.int .i64 5, .int .i64 r, .bool b, .int .i64 o, .int .i64 n, .string d] 27)) := (Below.refl _ _).alloc (Nat.le_refl _) _
  go_enter Tryz.func8, Tryz.ntmps8
  go_wp2_with fail
  generalize w.alloc (.cells #[.int .i64 5, .int .i64 r, .bool b, .int .i64 o, .int .i64 n, .string d] 27) = w1 at *
  have hlt := lt_of_heap g1
  have c0 : w1.cell? ⟨w.heap.size, 0, none⟩ = some (.int .i64 5) := (cell_of g1).trans rfl
  have G1 := hid g1
  have B1 := hid b1
  have HK : Hid (∀ y, Below w1.heap.size w1 y → y.cell? ⟨w.heap.size, 0, none⟩ = some (.int .i64 5)) := hid (fun y hy => (hy.cell (p := ⟨w.heap.size, 0, none⟩) hlt).trans c0)
  have M0 : Below w1.heap.size w1 w1 := Below.refl _ _
  clear g1 b1
  go_cut [4, 5] (fun v4 v5 wc => ∃ L, v4 = .pointer (some ⟨L, 0, none⟩) ∧ v5 = .bool true ∧ Hid (Below w1.heap.size w1 wc) ∧ Hid (wc.heap[L]? = some (.cells #[fv 65, fv 66] 72 (0, 0))) ∧ Hid (w1.heap.size ≤ L))
  case first =>
    go_region_held3 (fun y => y.cell? ⟨w.heap.size, 0, none⟩ = some (.int .i64 5)) (((with_reducible refine HK.out _ ?_); repeat (first | with_reducible exact M0 | with_reducible refine Below.drew ?_ | with_reducible refine Below.alloc ?_ (by simp <;> omega) _))) ((first | (go_at_call 29; refine (ptable_any _).mono ?_; rintro e w' ⟨rfl, rfl⟩) | (go_at_call 28; refine (pfind_5 _ _ (by first | exact heap_new' _ _ _ (by simp) | exact hd_drew (heap_new' _ _ _ (by simp)) | exact heap_alloc_at (heap_new' _ _ _ (by simp)) | exact hd_drew (heap_alloc_at (heap_new' _ _ _ (by simp))))).mono ?_; rintro e w' ⟨rfl, rfl⟩)))
    · go_wp2
      go_meet
      case rel =>
        refine ⟨_, rfl, rfl, ?_, hid (hd_drew (heap_new' _ _ _ (by simp))), hid (by omega)⟩
        refine hid ?_
        repeat (first | with_reducible exact M0 | with_reducible refine Below.drew ?_ | with_reducible refine Below.alloc ?_ (by simp <;> omega) _)
    · go_wp2
      go_meet
      case rel =>
        refine ⟨_, rfl, rfl, ?_, hid (hd_drew (heap_alloc_at (heap_new' _ _ _ (by simp)))), hid (by omega)⟩
        refine hid ?_
        repeat (first | with_reducible exact M0 | with_reducible refine Below.drew ?_ | with_reducible refine Below.alloc ?_ (by simp <;> omega) _)
    · go_wp2
      go_meet
      case rel =>
        refine ⟨_, rfl, rfl, ?_, hid (hd_drew (heap_alloc_at (heap_alloc_at (heap_alloc_at (heap_new _ _))))), hid (by omega)⟩
        refine hid ?_
        repeat (first | with_reducible exact M0 | with_reducible refine Below.drew ?_ | with_reducible refine Below.alloc ?_ (by simp <;> omega) _)
  case rest =>
    obtain ⟨L, rfl, rfl, HB, HL, HLE⟩ := hcut
    have gc : wc.heap[w.heap.size]? = some (.cells #[.int .i64 5, .int .i64 r, .bool b, .int .i64 o, .int .i64 n, .string d] 27 (0, 0)) := (HB.out.block _ hlt).trans G1.out
    have c0' : wc.cell? ⟨w.heap.size, 0, none⟩ = some (.int .i64 5) := (cell_of gc).trans rfl
    have c1' : wc.cell? ⟨w.heap.size, 1, none⟩ = some (.int .i64 r) := (cell_of gc).trans rfl
    have hltc := lt_of_heap gc
    have GC := hid gc
    have BC : Hid (Below w.heap.size w wc) := hid (B1.out.trans (HB.out.mono (by omega)))
    clear gc HB B1 G1 HK M0 c0
    go_wp2_with fail
    have hW : Wr (wc.alloc (.cells #[.int .i64 0, .slice none 0 0, .int .i64 0] 58)) wc.heap.size (wc.heap.size + 1) [] := wr_new (heap_new _ _) (by omega) (by simp)
    have gb : (wc.alloc (.cells #[.int .i64 0, .slice none 0 0, .int .i64 0] 58)).heap[w.heap.size]? = some (.cells #[.int .i64 5, .int .i64 r, .bool b, .int .i64 o, .int .i64 n, .string d] 27 (0, 0)) := heap_alloc_at GC.out
    have gl : (wc.alloc (.cells #[.int .i64 0, .slice none 0 0, .int .i64 0] 58)).heap[L]? = some (.cells #[fv 65, fv 66] 72 (0, 0)) := heap_alloc_at HL.out
    have bb : Below w.heap.size w (wc.alloc (.cells #[.int .i64 0, .slice none 0 0, .int .i64 0] 58)) := BC.out.alloc BC.out.size _
    have hne : w.heap.size ≠ wc.heap.size := by omega
    have hnl : L ≠ wc.heap.size := by have := lt_of_heap HL.out; omega
    generalize wc.alloc (.cells #[.int .i64 0, .slice none 0 0, .int .i64 0] 58) = w2 at *
    have hpp : w.heap.size ≤ wc.heap.size := by omega
    generalize wc.heap.size = p at *
    clear GC BC HL c0' c1' hltc
    refine (pkind_any p (p + 1) [] 5 w2 hW (by omega) (by simp)).mono ?_
    rintro e w3 ⟨rfl, h3, hc3⟩
    have gb3 := hc3.other gb hne (by decide)
    have gl3 := hc3.other gl hnl (by decide)
    have bb3 : Below w.heap.size w w3 := bb.trans (hc3.below bb.size (fun i hi => by rintro (h | h) <;> omega))
    have hl3 : ([] ++ nb 1 5).length = 1 := by simp [nb_len]
    clear gb gl bb hc3 hW
    rw [List.nil_append] at h3 hl3
    have GB3 := hid gb3
    have GL3 := hid gl3
    have BB3 := hid bb3
    have hlt3 := lt_of_heap gb3
    have x3_1 : w3.cell? ⟨w.heap.size, 1, none⟩ = some (.int .i64 r) := (cell_of GB3.out).trans rfl
    clear gb3 gl3 bb3
    go_wp2_with fail
    refine (perr_any p (p + 1) (nb 1 5) r w3 h3 (by omega) (by omega) (by omega)).mono ?_
    rintro e w4 ⟨rfl, h4, hc4⟩
    have GB4 := hid (hc4.other GB3.out hne (by decide))
    have GL4 := hid (hc4.other GL3.out hnl (by decide))
    have BB4 : Hid (Below w.heap.size w w4) := hid (BB3.out.trans (hc4.below BB3.out.size (fun i hi => by rintro (h | h) <;> omega)))
    have hl4 : (nb 1 5 ++ nb 4 (r : Int).toNat).length = 5 := by simp [nb_len]
    clear hc4 h3 hl3 GB3 GL3 BB3 x3_1
    have x4_1 : w4.cell? ⟨w.heap.size, 1, none⟩ = some (.int .i64 r) := (cell_of GB4.out).trans rfl
    go_wp2_with fail
    refine (pwhole_ok p (p + 1) _ w4 h4).mono ?_
    rintro e w5 ⟨rfl, rfl⟩
    go_wp2_with fail
    go_ret2
    exact ⟨rfl, BB4.out⟩
set_option maxHeartbeats 1000000 in
set_option maxRecDepth 20000 in
theorem reply_lo5 (r : Int) (b : Bool) (o n : Int) (d : ByteArray) (w : World) (h0 : r < 0) :
    Calls Tryz.prog 8 #[.agg #[.int .i64 5, .int .i64 r, .bool b, .int .i64 o, .int .i64 n, .string d]] w fun e w' => e = .returned (.tuple #[.string ⟨#[]⟩, .int .i64 1]) ∧ Below w.heap.size w w' := by
  have g1 : (w.alloc (.cells #[.int .i64 5, .int .i64 r, .bool b, .int .i64 o, .int .i64 n, .string d] 27)).heap[w.heap.size]? = some (.cells #[.int .i64 5, .int .i64 r, .bool b, .int .i64 o, .int .i64 n, .string d] 27 (0, 0)) := heap_new _ _
  have b1 : Below w.heap.size w (w.alloc (.cells #[.int .i64 5, .int .i64 r, .bool b, .int .i64 o, .int .i64 n, .string d] 27)) := (Below.refl _ _).alloc (Nat.le_refl _) _
  go_enter Tryz.func8, Tryz.ntmps8
  go_wp2_with fail
  generalize w.alloc (.cells #[.int .i64 5, .int .i64 r, .bool b, .int .i64 o, .int .i64 n, .string d] 27) = w1 at *
  have hlt := lt_of_heap g1
  have c0 : w1.cell? ⟨w.heap.size, 0, none⟩ = some (.int .i64 5) := (cell_of g1).trans rfl
  have G1 := hid g1
  have B1 := hid b1
  have HK : Hid (∀ y, Below w1.heap.size w1 y → y.cell? ⟨w.heap.size, 0, none⟩ = some (.int .i64 5)) := hid (fun y hy => (hy.cell (p := ⟨w.heap.size, 0, none⟩) hlt).trans c0)
  have M0 : Below w1.heap.size w1 w1 := Below.refl _ _
  clear g1 b1
  go_cut [4, 5] (fun v4 v5 wc => ∃ L, v4 = .pointer (some ⟨L, 0, none⟩) ∧ v5 = .bool true ∧ Hid (Below w1.heap.size w1 wc) ∧ Hid (wc.heap[L]? = some (.cells #[fv 65, fv 66] 72 (0, 0))) ∧ Hid (w1.heap.size ≤ L))
  case first =>
    go_region_held3 (fun y => y.cell? ⟨w.heap.size, 0, none⟩ = some (.int .i64 5)) (((with_reducible refine HK.out _ ?_); repeat (first | with_reducible exact M0 | with_reducible refine Below.drew ?_ | with_reducible refine Below.alloc ?_ (by simp <;> omega) _))) ((first | (go_at_call 29; refine (ptable_any _).mono ?_; rintro e w' ⟨rfl, rfl⟩) | (go_at_call 28; refine (pfind_5 _ _ (by first | exact heap_new' _ _ _ (by simp) | exact hd_drew (heap_new' _ _ _ (by simp)) | exact heap_alloc_at (heap_new' _ _ _ (by simp)) | exact hd_drew (heap_alloc_at (heap_new' _ _ _ (by simp))))).mono ?_; rintro e w' ⟨rfl, rfl⟩)))
    · go_wp2
      go_meet
      case rel =>
        refine ⟨_, rfl, rfl, ?_, hid (hd_drew (heap_new' _ _ _ (by simp))), hid (by omega)⟩
        refine hid ?_
        repeat (first | with_reducible exact M0 | with_reducible refine Below.drew ?_ | with_reducible refine Below.alloc ?_ (by simp <;> omega) _)
    · go_wp2
      go_meet
      case rel =>
        refine ⟨_, rfl, rfl, ?_, hid (hd_drew (heap_alloc_at (heap_new' _ _ _ (by simp)))), hid (by omega)⟩
        refine hid ?_
        repeat (first | with_reducible exact M0 | with_reducible refine Below.drew ?_ | with_reducible refine Below.alloc ?_ (by simp <;> omega) _)
    · go_wp2
      go_meet
      case rel =>
        refine ⟨_, rfl, rfl, ?_, hid (hd_drew (heap_alloc_at (heap_alloc_at (heap_alloc_at (heap_new _ _))))), hid (by omega)⟩
        refine hid ?_
        repeat (first | with_reducible exact M0 | with_reducible refine Below.drew ?_ | with_reducible refine Below.alloc ?_ (by simp <;> omega) _)
  case rest =>
    obtain ⟨L, rfl, rfl, HB, HL, HLE⟩ := hcut
    have gc : wc.heap[w.heap.size]? = some (.cells #[.int .i64 5, .int .i64 r, .bool b, .int .i64 o, .int .i64 n, .string d] 27 (0, 0)) := (HB.out.block _ hlt).trans G1.out
    have c0' : wc.cell? ⟨w.heap.size, 0, none⟩ = some (.int .i64 5) := (cell_of gc).trans rfl
    have c1' : wc.cell? ⟨w.heap.size, 1, none⟩ = some (.int .i64 r) := (cell_of gc).trans rfl
    have hltc := lt_of_heap gc
    have GC := hid gc
    have BC : Hid (Below w.heap.size w wc) := hid (B1.out.trans (HB.out.mono (by omega)))
    clear gc HB B1 G1 HK M0 c0
    go_wp2_with fail
    go_ret2
    exact ⟨rfl, BC.out⟩
set_option maxHeartbeats 1000000 in
set_option maxRecDepth 20000 in
theorem reply_hi5 (r : Int) (b : Bool) (o n : Int) (d : ByteArray) (w : World) (h0 : 2147483647 < r) :
    Calls Tryz.prog 8 #[.agg #[.int .i64 5, .int .i64 r, .bool b, .int .i64 o, .int .i64 n, .string d]] w fun e w' => e = .returned (.tuple #[.string ⟨#[]⟩, .int .i64 1]) ∧ Below w.heap.size w w' := by
  have g1 : (w.alloc (.cells #[.int .i64 5, .int .i64 r, .bool b, .int .i64 o, .int .i64 n, .string d] 27)).heap[w.heap.size]? = some (.cells #[.int .i64 5, .int .i64 r, .bool b, .int .i64 o, .int .i64 n, .string d] 27 (0, 0)) := heap_new _ _
  have b1 : Below w.heap.size w (w.alloc (.cells #[.int .i64 5, .int .i64 r, .bool b, .int .i64 o, .int .i64 n, .string d] 27)) := (Below.refl _ _).alloc (Nat.le_refl _) _
  go_enter Tryz.func8, Tryz.ntmps8
  go_wp2_with fail
  generalize w.alloc (.cells #[.int .i64 5, .int .i64 r, .bool b, .int .i64 o, .int .i64 n, .string d] 27) = w1 at *
  have hlt := lt_of_heap g1
  have c0 : w1.cell? ⟨w.heap.size, 0, none⟩ = some (.int .i64 5) := (cell_of g1).trans rfl
  have G1 := hid g1
  have B1 := hid b1
  have HK : Hid (∀ y, Below w1.heap.size w1 y → y.cell? ⟨w.heap.size, 0, none⟩ = some (.int .i64 5)) := hid (fun y hy => (hy.cell (p := ⟨w.heap.size, 0, none⟩) hlt).trans c0)
  have M0 : Below w1.heap.size w1 w1 := Below.refl _ _
  clear g1 b1
  go_cut [4, 5] (fun v4 v5 wc => ∃ L, v4 = .pointer (some ⟨L, 0, none⟩) ∧ v5 = .bool true ∧ Hid (Below w1.heap.size w1 wc) ∧ Hid (wc.heap[L]? = some (.cells #[fv 65, fv 66] 72 (0, 0))) ∧ Hid (w1.heap.size ≤ L))
  case first =>
    go_region_held3 (fun y => y.cell? ⟨w.heap.size, 0, none⟩ = some (.int .i64 5)) (((with_reducible refine HK.out _ ?_); repeat (first | with_reducible exact M0 | with_reducible refine Below.drew ?_ | with_reducible refine Below.alloc ?_ (by simp <;> omega) _))) ((first | (go_at_call 29; refine (ptable_any _).mono ?_; rintro e w' ⟨rfl, rfl⟩) | (go_at_call 28; refine (pfind_5 _ _ (by first | exact heap_new' _ _ _ (by simp) | exact hd_drew (heap_new' _ _ _ (by simp)) | exact heap_alloc_at (heap_new' _ _ _ (by simp)) | exact hd_drew (heap_alloc_at (heap_new' _ _ _ (by simp))))).mono ?_; rintro e w' ⟨rfl, rfl⟩)))
    · go_wp2
      go_meet
      case rel =>
        refine ⟨_, rfl, rfl, ?_, hid (hd_drew (heap_new' _ _ _ (by simp))), hid (by omega)⟩
        refine hid ?_
        repeat (first | with_reducible exact M0 | with_reducible refine Below.drew ?_ | with_reducible refine Below.alloc ?_ (by simp <;> omega) _)
    · go_wp2
      go_meet
      case rel =>
        refine ⟨_, rfl, rfl, ?_, hid (hd_drew (heap_alloc_at (heap_new' _ _ _ (by simp)))), hid (by omega)⟩
        refine hid ?_
        repeat (first | with_reducible exact M0 | with_reducible refine Below.drew ?_ | with_reducible refine Below.alloc ?_ (by simp <;> omega) _)
    · go_wp2
      go_meet
      case rel =>
        refine ⟨_, rfl, rfl, ?_, hid (hd_drew (heap_alloc_at (heap_alloc_at (heap_alloc_at (heap_new _ _))))), hid (by omega)⟩
        refine hid ?_
        repeat (first | with_reducible exact M0 | with_reducible refine Below.drew ?_ | with_reducible refine Below.alloc ?_ (by simp <;> omega) _)
  case rest =>
    obtain ⟨L, rfl, rfl, HB, HL, HLE⟩ := hcut
    have gc : wc.heap[w.heap.size]? = some (.cells #[.int .i64 5, .int .i64 r, .bool b, .int .i64 o, .int .i64 n, .string d] 27 (0, 0)) := (HB.out.block _ hlt).trans G1.out
    have c0' : wc.cell? ⟨w.heap.size, 0, none⟩ = some (.int .i64 5) := (cell_of gc).trans rfl
    have c1' : wc.cell? ⟨w.heap.size, 1, none⟩ = some (.int .i64 r) := (cell_of gc).trans rfl
    have hltc := lt_of_heap gc
    have GC := hid gc
    have BC : Hid (Below w.heap.size w wc) := hid (B1.out.trans (HB.out.mono (by omega)))
    clear gc HB B1 G1 HK M0 c0
    go_wp2_with fail
    go_ret2
    exact ⟨rfl, BC.out⟩
set_option maxHeartbeats 1000000 in
set_option maxRecDepth 20000 in
theorem reply_err6 (r : Int) (b : Bool) (o n : Int) (d : ByteArray) (w : World) (hr : r ≠ 0) (h0 : 0 ≤ r) (h1 : r ≤ 2147483647) :
    Calls Tryz.prog 8 #[.agg #[.int .i64 6, .int .i64 r, .bool b, .int .i64 o, .int .i64 n, .string d]] w fun e w' => e = .returned (.tuple #[.string (bs (nb 1 6 ++ nb 4 (r : Int).toNat)), .int .i64 0]) ∧ Below w.heap.size w w' := by
  have g1 : (w.alloc (.cells #[.int .i64 6, .int .i64 r, .bool b, .int .i64 o, .int .i64 n, .string d] 27)).heap[w.heap.size]? = some (.cells #[.int .i64 6, .int .i64 r, .bool b, .int .i64 o, .int .i64 n, .string d] 27 (0, 0)) := heap_new _ _
  have b1 : Below w.heap.size w (w.alloc (.cells #[.int .i64 6, .int .i64 r, .bool b, .int .i64 o, .int .i64 n, .string d] 27)) := (Below.refl _ _).alloc (Nat.le_refl _) _
  go_enter Tryz.func8, Tryz.ntmps8
  go_wp2_with fail
  generalize w.alloc (.cells #[.int .i64 6, .int .i64 r, .bool b, .int .i64 o, .int .i64 n, .string d] 27) = w1 at *
  have hlt := lt_of_heap g1
  have c0 : w1.cell? ⟨w.heap.size, 0, none⟩ = some (.int .i64 6) := (cell_of g1).trans rfl
  have G1 := hid g1
  have B1 := hid b1
  have HK : Hid (∀ y, Below w1.heap.size w1 y → y.cell? ⟨w.heap.size, 0, none⟩ = some (.int .i64 6)) := hid (fun y hy => (hy.cell (p := ⟨w.heap.size, 0, none⟩) hlt).trans c0)
  have M0 : Below w1.heap.size w1 w1 := Below.refl _ _
  clear g1 b1
  go_cut [4, 5] (fun v4 v5 wc => ∃ L, v4 = .pointer (some ⟨L, 0, none⟩) ∧ v5 = .bool true ∧ Hid (Below w1.heap.size w1 wc) ∧ Hid (wc.heap[L]? = some (.cells #[fv 75, fv 76] 72 (0, 0))) ∧ Hid (w1.heap.size ≤ L))
  case first =>
    go_region_held3 (fun y => y.cell? ⟨w.heap.size, 0, none⟩ = some (.int .i64 6)) (((with_reducible refine HK.out _ ?_); repeat (first | with_reducible exact M0 | with_reducible refine Below.drew ?_ | with_reducible refine Below.alloc ?_ (by simp <;> omega) _))) ((first | (go_at_call 29; refine (ptable_any _).mono ?_; rintro e w' ⟨rfl, rfl⟩) | (go_at_call 28; refine (pfind_6 _ _ (by first | exact heap_new' _ _ _ (by simp) | exact hd_drew (heap_new' _ _ _ (by simp)) | exact heap_alloc_at (heap_new' _ _ _ (by simp)) | exact hd_drew (heap_alloc_at (heap_new' _ _ _ (by simp))))).mono ?_; rintro e w' ⟨rfl, rfl⟩)))
    · go_wp2
      go_meet
      case rel =>
        refine ⟨_, rfl, rfl, ?_, hid (hd_drew (heap_new' _ _ _ (by simp))), hid (by omega)⟩
        refine hid ?_
        repeat (first | with_reducible exact M0 | with_reducible refine Below.drew ?_ | with_reducible refine Below.alloc ?_ (by simp <;> omega) _)
    · go_wp2
      go_meet
      case rel =>
        refine ⟨_, rfl, rfl, ?_, hid (hd_drew (heap_alloc_at (heap_new' _ _ _ (by simp)))), hid (by omega)⟩
        refine hid ?_
        repeat (first | with_reducible exact M0 | with_reducible refine Below.drew ?_ | with_reducible refine Below.alloc ?_ (by simp <;> omega) _)
    · go_wp2
      go_meet
      case rel =>
        refine ⟨_, rfl, rfl, ?_, hid (hd_drew (heap_alloc_at (heap_alloc_at (heap_alloc_at (heap_new _ _))))), hid (by omega)⟩
        refine hid ?_
        repeat (first | with_reducible exact M0 | with_reducible refine Below.drew ?_ | with_reducible refine Below.alloc ?_ (by simp <;> omega) _)
  case rest =>
    obtain ⟨L, rfl, rfl, HB, HL, HLE⟩ := hcut
    have gc : wc.heap[w.heap.size]? = some (.cells #[.int .i64 6, .int .i64 r, .bool b, .int .i64 o, .int .i64 n, .string d] 27 (0, 0)) := (HB.out.block _ hlt).trans G1.out
    have c0' : wc.cell? ⟨w.heap.size, 0, none⟩ = some (.int .i64 6) := (cell_of gc).trans rfl
    have c1' : wc.cell? ⟨w.heap.size, 1, none⟩ = some (.int .i64 r) := (cell_of gc).trans rfl
    have hltc := lt_of_heap gc
    have GC := hid gc
    have BC : Hid (Below w.heap.size w wc) := hid (B1.out.trans (HB.out.mono (by omega)))
    clear gc HB B1 G1 HK M0 c0
    go_wp2_with fail
    have hW : Wr (wc.alloc (.cells #[.int .i64 0, .slice none 0 0, .int .i64 0] 58)) wc.heap.size (wc.heap.size + 1) [] := wr_new (heap_new _ _) (by omega) (by simp)
    have gb : (wc.alloc (.cells #[.int .i64 0, .slice none 0 0, .int .i64 0] 58)).heap[w.heap.size]? = some (.cells #[.int .i64 6, .int .i64 r, .bool b, .int .i64 o, .int .i64 n, .string d] 27 (0, 0)) := heap_alloc_at GC.out
    have gl : (wc.alloc (.cells #[.int .i64 0, .slice none 0 0, .int .i64 0] 58)).heap[L]? = some (.cells #[fv 75, fv 76] 72 (0, 0)) := heap_alloc_at HL.out
    have bb : Below w.heap.size w (wc.alloc (.cells #[.int .i64 0, .slice none 0 0, .int .i64 0] 58)) := BC.out.alloc BC.out.size _
    have hne : w.heap.size ≠ wc.heap.size := by omega
    have hnl : L ≠ wc.heap.size := by have := lt_of_heap HL.out; omega
    generalize wc.alloc (.cells #[.int .i64 0, .slice none 0 0, .int .i64 0] 58) = w2 at *
    have hpp : w.heap.size ≤ wc.heap.size := by omega
    generalize wc.heap.size = p at *
    clear GC BC HL c0' c1' hltc
    refine (pkind_any p (p + 1) [] 6 w2 hW (by omega) (by simp)).mono ?_
    rintro e w3 ⟨rfl, h3, hc3⟩
    have gb3 := hc3.other gb hne (by decide)
    have gl3 := hc3.other gl hnl (by decide)
    have bb3 : Below w.heap.size w w3 := bb.trans (hc3.below bb.size (fun i hi => by rintro (h | h) <;> omega))
    have hl3 : ([] ++ nb 1 6).length = 1 := by simp [nb_len]
    clear gb gl bb hc3 hW
    rw [List.nil_append] at h3 hl3
    have GB3 := hid gb3
    have GL3 := hid gl3
    have BB3 := hid bb3
    have hlt3 := lt_of_heap gb3
    have x3_1 : w3.cell? ⟨w.heap.size, 1, none⟩ = some (.int .i64 r) := (cell_of GB3.out).trans rfl
    clear gb3 gl3 bb3
    go_wp2_with fail
    refine (perr_any p (p + 1) (nb 1 6) r w3 h3 (by omega) (by omega) (by omega)).mono ?_
    rintro e w4 ⟨rfl, h4, hc4⟩
    have GB4 := hid (hc4.other GB3.out hne (by decide))
    have GL4 := hid (hc4.other GL3.out hnl (by decide))
    have BB4 : Hid (Below w.heap.size w w4) := hid (BB3.out.trans (hc4.below BB3.out.size (fun i hi => by rintro (h | h) <;> omega)))
    have hl4 : (nb 1 6 ++ nb 4 (r : Int).toNat).length = 5 := by simp [nb_len]
    clear hc4 h3 hl3 GB3 GL3 BB3 x3_1
    have x4_1 : w4.cell? ⟨w.heap.size, 1, none⟩ = some (.int .i64 r) := (cell_of GB4.out).trans rfl
    go_wp2_with fail
    refine (pwhole_ok p (p + 1) _ w4 h4).mono ?_
    rintro e w5 ⟨rfl, rfl⟩
    go_wp2_with fail
    go_ret2
    exact ⟨rfl, BB4.out⟩
set_option maxHeartbeats 1000000 in
set_option maxRecDepth 20000 in
theorem reply_lo6 (r : Int) (b : Bool) (o n : Int) (d : ByteArray) (w : World) (h0 : r < 0) :
    Calls Tryz.prog 8 #[.agg #[.int .i64 6, .int .i64 r, .bool b, .int .i64 o, .int .i64 n, .string d]] w fun e w' => e = .returned (.tuple #[.string ⟨#[]⟩, .int .i64 1]) ∧ Below w.heap.size w w' := by
  have g1 : (w.alloc (.cells #[.int .i64 6, .int .i64 r, .bool b, .int .i64 o, .int .i64 n, .string d] 27)).heap[w.heap.size]? = some (.cells #[.int .i64 6, .int .i64 r, .bool b, .int .i64 o, .int .i64 n, .string d] 27 (0, 0)) := heap_new _ _
  have b1 : Below w.heap.size w (w.alloc (.cells #[.int .i64 6, .int .i64 r, .bool b, .int .i64 o, .int .i64 n, .string d] 27)) := (Below.refl _ _).alloc (Nat.le_refl _) _
  go_enter Tryz.func8, Tryz.ntmps8
  go_wp2_with fail
  generalize w.alloc (.cells #[.int .i64 6, .int .i64 r, .bool b, .int .i64 o, .int .i64 n, .string d] 27) = w1 at *
  have hlt := lt_of_heap g1
  have c0 : w1.cell? ⟨w.heap.size, 0, none⟩ = some (.int .i64 6) := (cell_of g1).trans rfl
  have G1 := hid g1
  have B1 := hid b1
  have HK : Hid (∀ y, Below w1.heap.size w1 y → y.cell? ⟨w.heap.size, 0, none⟩ = some (.int .i64 6)) := hid (fun y hy => (hy.cell (p := ⟨w.heap.size, 0, none⟩) hlt).trans c0)
  have M0 : Below w1.heap.size w1 w1 := Below.refl _ _
  clear g1 b1
  go_cut [4, 5] (fun v4 v5 wc => ∃ L, v4 = .pointer (some ⟨L, 0, none⟩) ∧ v5 = .bool true ∧ Hid (Below w1.heap.size w1 wc) ∧ Hid (wc.heap[L]? = some (.cells #[fv 75, fv 76] 72 (0, 0))) ∧ Hid (w1.heap.size ≤ L))
  case first =>
    go_region_held3 (fun y => y.cell? ⟨w.heap.size, 0, none⟩ = some (.int .i64 6)) (((with_reducible refine HK.out _ ?_); repeat (first | with_reducible exact M0 | with_reducible refine Below.drew ?_ | with_reducible refine Below.alloc ?_ (by simp <;> omega) _))) ((first | (go_at_call 29; refine (ptable_any _).mono ?_; rintro e w' ⟨rfl, rfl⟩) | (go_at_call 28; refine (pfind_6 _ _ (by first | exact heap_new' _ _ _ (by simp) | exact hd_drew (heap_new' _ _ _ (by simp)) | exact heap_alloc_at (heap_new' _ _ _ (by simp)) | exact hd_drew (heap_alloc_at (heap_new' _ _ _ (by simp))))).mono ?_; rintro e w' ⟨rfl, rfl⟩)))
    · go_wp2
      go_meet
      case rel =>
        refine ⟨_, rfl, rfl, ?_, hid (hd_drew (heap_new' _ _ _ (by simp))), hid (by omega)⟩
        refine hid ?_
        repeat (first | with_reducible exact M0 | with_reducible refine Below.drew ?_ | with_reducible refine Below.alloc ?_ (by simp <;> omega) _)
    · go_wp2
      go_meet
      case rel =>
        refine ⟨_, rfl, rfl, ?_, hid (hd_drew (heap_alloc_at (heap_new' _ _ _ (by simp)))), hid (by omega)⟩
        refine hid ?_
        repeat (first | with_reducible exact M0 | with_reducible refine Below.drew ?_ | with_reducible refine Below.alloc ?_ (by simp <;> omega) _)
    · go_wp2
      go_meet
      case rel =>
        refine ⟨_, rfl, rfl, ?_, hid (hd_drew (heap_alloc_at (heap_alloc_at (heap_alloc_at (heap_new _ _))))), hid (by omega)⟩
        refine hid ?_
        repeat (first | with_reducible exact M0 | with_reducible refine Below.drew ?_ | with_reducible refine Below.alloc ?_ (by simp <;> omega) _)
  case rest =>
    obtain ⟨L, rfl, rfl, HB, HL, HLE⟩ := hcut
    have gc : wc.heap[w.heap.size]? = some (.cells #[.int .i64 6, .int .i64 r, .bool b, .int .i64 o, .int .i64 n, .string d] 27 (0, 0)) := (HB.out.block _ hlt).trans G1.out
    have c0' : wc.cell? ⟨w.heap.size, 0, none⟩ = some (.int .i64 6) := (cell_of gc).trans rfl
    have c1' : wc.cell? ⟨w.heap.size, 1, none⟩ = some (.int .i64 r) := (cell_of gc).trans rfl
    have hltc := lt_of_heap gc
    have GC := hid gc
    have BC : Hid (Below w.heap.size w wc) := hid (B1.out.trans (HB.out.mono (by omega)))
    clear gc HB B1 G1 HK M0 c0
    go_wp2_with fail
    go_ret2
    exact ⟨rfl, BC.out⟩
set_option maxHeartbeats 1000000 in
set_option maxRecDepth 20000 in
theorem reply_hi6 (r : Int) (b : Bool) (o n : Int) (d : ByteArray) (w : World) (h0 : 2147483647 < r) :
    Calls Tryz.prog 8 #[.agg #[.int .i64 6, .int .i64 r, .bool b, .int .i64 o, .int .i64 n, .string d]] w fun e w' => e = .returned (.tuple #[.string ⟨#[]⟩, .int .i64 1]) ∧ Below w.heap.size w w' := by
  have g1 : (w.alloc (.cells #[.int .i64 6, .int .i64 r, .bool b, .int .i64 o, .int .i64 n, .string d] 27)).heap[w.heap.size]? = some (.cells #[.int .i64 6, .int .i64 r, .bool b, .int .i64 o, .int .i64 n, .string d] 27 (0, 0)) := heap_new _ _
  have b1 : Below w.heap.size w (w.alloc (.cells #[.int .i64 6, .int .i64 r, .bool b, .int .i64 o, .int .i64 n, .string d] 27)) := (Below.refl _ _).alloc (Nat.le_refl _) _
  go_enter Tryz.func8, Tryz.ntmps8
  go_wp2_with fail
  generalize w.alloc (.cells #[.int .i64 6, .int .i64 r, .bool b, .int .i64 o, .int .i64 n, .string d] 27) = w1 at *
  have hlt := lt_of_heap g1
  have c0 : w1.cell? ⟨w.heap.size, 0, none⟩ = some (.int .i64 6) := (cell_of g1).trans rfl
  have G1 := hid g1
  have B1 := hid b1
  have HK : Hid (∀ y, Below w1.heap.size w1 y → y.cell? ⟨w.heap.size, 0, none⟩ = some (.int .i64 6)) := hid (fun y hy => (hy.cell (p := ⟨w.heap.size, 0, none⟩) hlt).trans c0)
  have M0 : Below w1.heap.size w1 w1 := Below.refl _ _
  clear g1 b1
  go_cut [4, 5] (fun v4 v5 wc => ∃ L, v4 = .pointer (some ⟨L, 0, none⟩) ∧ v5 = .bool true ∧ Hid (Below w1.heap.size w1 wc) ∧ Hid (wc.heap[L]? = some (.cells #[fv 75, fv 76] 72 (0, 0))) ∧ Hid (w1.heap.size ≤ L))
  case first =>
    go_region_held3 (fun y => y.cell? ⟨w.heap.size, 0, none⟩ = some (.int .i64 6)) (((with_reducible refine HK.out _ ?_); repeat (first | with_reducible exact M0 | with_reducible refine Below.drew ?_ | with_reducible refine Below.alloc ?_ (by simp <;> omega) _))) ((first | (go_at_call 29; refine (ptable_any _).mono ?_; rintro e w' ⟨rfl, rfl⟩) | (go_at_call 28; refine (pfind_6 _ _ (by first | exact heap_new' _ _ _ (by simp) | exact hd_drew (heap_new' _ _ _ (by simp)) | exact heap_alloc_at (heap_new' _ _ _ (by simp)) | exact hd_drew (heap_alloc_at (heap_new' _ _ _ (by simp))))).mono ?_; rintro e w' ⟨rfl, rfl⟩)))
    · go_wp2
      go_meet
      case rel =>
        refine ⟨_, rfl, rfl, ?_, hid (hd_drew (heap_new' _ _ _ (by simp))), hid (by omega)⟩
        refine hid ?_
        repeat (first | with_reducible exact M0 | with_reducible refine Below.drew ?_ | with_reducible refine Below.alloc ?_ (by simp <;> omega) _)
    · go_wp2
      go_meet
      case rel =>
        refine ⟨_, rfl, rfl, ?_, hid (hd_drew (heap_alloc_at (heap_new' _ _ _ (by simp)))), hid (by omega)⟩
        refine hid ?_
        repeat (first | with_reducible exact M0 | with_reducible refine Below.drew ?_ | with_reducible refine Below.alloc ?_ (by simp <;> omega) _)
    · go_wp2
      go_meet
      case rel =>
        refine ⟨_, rfl, rfl, ?_, hid (hd_drew (heap_alloc_at (heap_alloc_at (heap_alloc_at (heap_new _ _))))), hid (by omega)⟩
        refine hid ?_
        repeat (first | with_reducible exact M0 | with_reducible refine Below.drew ?_ | with_reducible refine Below.alloc ?_ (by simp <;> omega) _)
  case rest =>
    obtain ⟨L, rfl, rfl, HB, HL, HLE⟩ := hcut
    have gc : wc.heap[w.heap.size]? = some (.cells #[.int .i64 6, .int .i64 r, .bool b, .int .i64 o, .int .i64 n, .string d] 27 (0, 0)) := (HB.out.block _ hlt).trans G1.out
    have c0' : wc.cell? ⟨w.heap.size, 0, none⟩ = some (.int .i64 6) := (cell_of gc).trans rfl
    have c1' : wc.cell? ⟨w.heap.size, 1, none⟩ = some (.int .i64 r) := (cell_of gc).trans rfl
    have hltc := lt_of_heap gc
    have GC := hid gc
    have BC : Hid (Below w.heap.size w wc) := hid (B1.out.trans (HB.out.mono (by omega)))
    clear gc HB B1 G1 HK M0 c0
    go_wp2_with fail
    go_ret2
    exact ⟨rfl, BC.out⟩
set_option maxHeartbeats 1000000 in
set_option maxRecDepth 20000 in
theorem reply_noerr (r : Int) (b : Bool) (o n : Int) (d : ByteArray) (w : World) (hr : r ≠ 0) (h0 : 0 ≤ r) (h1 : r ≤ 2147483647) :
    Calls Tryz.prog 8 #[.agg #[.int .i64 0, .int .i64 r, .bool b, .int .i64 o, .int .i64 n, .string d]] w fun e w' => e = .returned (.tuple #[.string (bs (nb 1 0 ++ nb 4 (r : Int).toNat)), .int .i64 0]) ∧ Below w.heap.size w w' := by
  have g1 : (w.alloc (.cells #[.int .i64 0, .int .i64 r, .bool b, .int .i64 o, .int .i64 n, .string d] 27)).heap[w.heap.size]? = some (.cells #[.int .i64 0, .int .i64 r, .bool b, .int .i64 o, .int .i64 n, .string d] 27 (0, 0)) := heap_new _ _
  have b1 : Below w.heap.size w (w.alloc (.cells #[.int .i64 0, .int .i64 r, .bool b, .int .i64 o, .int .i64 n, .string d] 27)) := (Below.refl _ _).alloc (Nat.le_refl _) _
  go_enter Tryz.func8, Tryz.ntmps8
  go_wp2_with fail
  generalize w.alloc (.cells #[.int .i64 0, .int .i64 r, .bool b, .int .i64 o, .int .i64 n, .string d] 27) = w1 at *
  have hlt := lt_of_heap g1
  have c0 : w1.cell? ⟨w.heap.size, 0, none⟩ = some (.int .i64 0) := (cell_of g1).trans rfl
  have G1 := hid g1
  have B1 := hid b1
  have HK : Hid (∀ y, Below w1.heap.size w1 y → y.cell? ⟨w.heap.size, 0, none⟩ = some (.int .i64 0)) := hid (fun y hy => (hy.cell (p := ⟨w.heap.size, 0, none⟩) hlt).trans c0)
  have M0 : Below w1.heap.size w1 w1 := Below.refl _ _
  clear g1 b1
  go_cut [4, 5] (fun v4 v5 wc => ∃ L, v4 = .pointer (some ⟨L, 0, none⟩) ∧ v5 = .bool false ∧ Hid (Below w1.heap.size w1 wc) ∧ Hid (wc.heap[L]? = some (.cells #[.nilFunc, .nilFunc] 72 (0, 0))) ∧ Hid (w1.heap.size ≤ L))
  case first =>
    go_region_held3 (fun y => y.cell? ⟨w.heap.size, 0, none⟩ = some (.int .i64 0)) (((with_reducible refine HK.out _ ?_); repeat (first | with_reducible exact M0 | with_reducible refine Below.drew ?_ | with_reducible refine Below.alloc ?_ (by simp <;> omega) _))) ((first | (go_at_call 29; refine (ptable_any _).mono ?_; rintro e w' ⟨rfl, rfl⟩) | (go_at_call 28; refine (pfind_no _ _ _ (by omega)).mono ?_; rintro e w' ⟨rfl, rfl⟩)))
    · go_wp2
      go_meet
      case rel =>
        refine ⟨_, rfl, rfl, ?_, hid (hd_drew (heap_new' _ _ _ (by simp))), hid (by omega)⟩
        refine hid ?_
        repeat (first | with_reducible exact M0 | with_reducible refine Below.drew ?_ | with_reducible refine Below.alloc ?_ (by simp <;> omega) _)
    · go_wp2
      go_meet
      case rel =>
        refine ⟨_, rfl, rfl, ?_, hid (hd_drew (heap_alloc_at (heap_new' _ _ _ (by simp)))), hid (by omega)⟩
        refine hid ?_
        repeat (first | with_reducible exact M0 | with_reducible refine Below.drew ?_ | with_reducible refine Below.alloc ?_ (by simp <;> omega) _)
    · go_wp2
      go_meet
      case rel =>
        refine ⟨_, rfl, rfl, ?_, hid (hd_drew (heap_alloc_at (heap_alloc_at (heap_alloc_at (heap_new _ _))))), hid (by omega)⟩
        refine hid ?_
        repeat (first | with_reducible exact M0 | with_reducible refine Below.drew ?_ | with_reducible refine Below.alloc ?_ (by simp <;> omega) _)
  case rest =>
    obtain ⟨L, rfl, rfl, HB, HL, HLE⟩ := hcut
    have gc : wc.heap[w.heap.size]? = some (.cells #[.int .i64 0, .int .i64 r, .bool b, .int .i64 o, .int .i64 n, .string d] 27 (0, 0)) := (HB.out.block _ hlt).trans G1.out
    have c0' : wc.cell? ⟨w.heap.size, 0, none⟩ = some (.int .i64 0) := (cell_of gc).trans rfl
    have c1' : wc.cell? ⟨w.heap.size, 1, none⟩ = some (.int .i64 r) := (cell_of gc).trans rfl
    have hltc := lt_of_heap gc
    have GC := hid gc
    have BC : Hid (Below w.heap.size w wc) := hid (B1.out.trans (HB.out.mono (by omega)))
    clear gc HB B1 G1 HK M0 c0
    go_wp2_with fail
    have hW : Wr (wc.alloc (.cells #[.int .i64 0, .slice none 0 0, .int .i64 0] 58)) wc.heap.size (wc.heap.size + 1) [] := wr_new (heap_new _ _) (by omega) (by simp)
    have gb : (wc.alloc (.cells #[.int .i64 0, .slice none 0 0, .int .i64 0] 58)).heap[w.heap.size]? = some (.cells #[.int .i64 0, .int .i64 r, .bool b, .int .i64 o, .int .i64 n, .string d] 27 (0, 0)) := heap_alloc_at GC.out
    have gl : (wc.alloc (.cells #[.int .i64 0, .slice none 0 0, .int .i64 0] 58)).heap[L]? = some (.cells #[.nilFunc, .nilFunc] 72 (0, 0)) := heap_alloc_at HL.out
    have bb : Below w.heap.size w (wc.alloc (.cells #[.int .i64 0, .slice none 0 0, .int .i64 0] 58)) := BC.out.alloc BC.out.size _
    have hne : w.heap.size ≠ wc.heap.size := by omega
    have hnl : L ≠ wc.heap.size := by have := lt_of_heap HL.out; omega
    generalize wc.alloc (.cells #[.int .i64 0, .slice none 0 0, .int .i64 0] 58) = w2 at *
    have hpp : w.heap.size ≤ wc.heap.size := by omega
    generalize wc.heap.size = p at *
    clear GC BC HL c0' c1' hltc
    refine (pkind_any p (p + 1) [] 0 w2 hW (by omega) (by simp)).mono ?_
    rintro e w3 ⟨rfl, h3, hc3⟩
    have gb3 := hc3.other gb hne (by decide)
    have gl3 := hc3.other gl hnl (by decide)
    have bb3 : Below w.heap.size w w3 := bb.trans (hc3.below bb.size (fun i hi => by rintro (h | h) <;> omega))
    have hl3 : ([] ++ nb 1 0).length = 1 := by simp [nb_len]
    clear gb gl bb hc3 hW
    rw [List.nil_append] at h3 hl3
    have GB3 := hid gb3
    have GL3 := hid gl3
    have BB3 := hid bb3
    have hlt3 := lt_of_heap gb3
    have x3_1 : w3.cell? ⟨w.heap.size, 1, none⟩ = some (.int .i64 r) := (cell_of GB3.out).trans rfl
    clear gb3 gl3 bb3
    go_wp2_with fail
    refine (perr_any p (p + 1) (nb 1 0) r w3 h3 (by omega) (by omega) (by omega)).mono ?_
    rintro e w4 ⟨rfl, h4, hc4⟩
    have GB4 := hid (hc4.other GB3.out hne (by decide))
    have GL4 := hid (hc4.other GL3.out hnl (by decide))
    have BB4 : Hid (Below w.heap.size w w4) := hid (BB3.out.trans (hc4.below BB3.out.size (fun i hi => by rintro (h | h) <;> omega)))
    have hl4 : (nb 1 0 ++ nb 4 (r : Int).toNat).length = 5 := by simp [nb_len]
    clear hc4 h3 hl3 GB3 GL3 BB3 x3_1
    have x4_1 : w4.cell? ⟨w.heap.size, 1, none⟩ = some (.int .i64 r) := (cell_of GB4.out).trans rfl
    go_wp2_with fail
    refine (pwhole_ok p (p + 1) _ w4 h4).mono ?_
    rintro e w5 ⟨rfl, rfl⟩
    go_wp2_with fail
    go_ret2
    exact ⟨rfl, BB4.out⟩
set_option maxHeartbeats 1000000 in
set_option maxRecDepth 20000 in
theorem reply_nolo (r : Int) (b : Bool) (o n : Int) (d : ByteArray) (w : World) (h0 : r < 0) :
    Calls Tryz.prog 8 #[.agg #[.int .i64 0, .int .i64 r, .bool b, .int .i64 o, .int .i64 n, .string d]] w fun e w' => e = .returned (.tuple #[.string ⟨#[]⟩, .int .i64 1]) ∧ Below w.heap.size w w' := by
  have g1 : (w.alloc (.cells #[.int .i64 0, .int .i64 r, .bool b, .int .i64 o, .int .i64 n, .string d] 27)).heap[w.heap.size]? = some (.cells #[.int .i64 0, .int .i64 r, .bool b, .int .i64 o, .int .i64 n, .string d] 27 (0, 0)) := heap_new _ _
  have b1 : Below w.heap.size w (w.alloc (.cells #[.int .i64 0, .int .i64 r, .bool b, .int .i64 o, .int .i64 n, .string d] 27)) := (Below.refl _ _).alloc (Nat.le_refl _) _
  go_enter Tryz.func8, Tryz.ntmps8
  go_wp2_with fail
  generalize w.alloc (.cells #[.int .i64 0, .int .i64 r, .bool b, .int .i64 o, .int .i64 n, .string d] 27) = w1 at *
  have hlt := lt_of_heap g1
  have c0 : w1.cell? ⟨w.heap.size, 0, none⟩ = some (.int .i64 0) := (cell_of g1).trans rfl
  have G1 := hid g1
  have B1 := hid b1
  have HK : Hid (∀ y, Below w1.heap.size w1 y → y.cell? ⟨w.heap.size, 0, none⟩ = some (.int .i64 0)) := hid (fun y hy => (hy.cell (p := ⟨w.heap.size, 0, none⟩) hlt).trans c0)
  have M0 : Below w1.heap.size w1 w1 := Below.refl _ _
  clear g1 b1
  go_cut [4, 5] (fun v4 v5 wc => ∃ L, v4 = .pointer (some ⟨L, 0, none⟩) ∧ v5 = .bool false ∧ Hid (Below w1.heap.size w1 wc) ∧ Hid (wc.heap[L]? = some (.cells #[.nilFunc, .nilFunc] 72 (0, 0))) ∧ Hid (w1.heap.size ≤ L))
  case first =>
    go_region_held3 (fun y => y.cell? ⟨w.heap.size, 0, none⟩ = some (.int .i64 0)) (((with_reducible refine HK.out _ ?_); repeat (first | with_reducible exact M0 | with_reducible refine Below.drew ?_ | with_reducible refine Below.alloc ?_ (by simp <;> omega) _))) ((first | (go_at_call 29; refine (ptable_any _).mono ?_; rintro e w' ⟨rfl, rfl⟩) | (go_at_call 28; refine (pfind_no _ _ _ (by omega)).mono ?_; rintro e w' ⟨rfl, rfl⟩)))
    · go_wp2
      go_meet
      case rel =>
        refine ⟨_, rfl, rfl, ?_, hid (hd_drew (heap_new' _ _ _ (by simp))), hid (by omega)⟩
        refine hid ?_
        repeat (first | with_reducible exact M0 | with_reducible refine Below.drew ?_ | with_reducible refine Below.alloc ?_ (by simp <;> omega) _)
    · go_wp2
      go_meet
      case rel =>
        refine ⟨_, rfl, rfl, ?_, hid (hd_drew (heap_alloc_at (heap_new' _ _ _ (by simp)))), hid (by omega)⟩
        refine hid ?_
        repeat (first | with_reducible exact M0 | with_reducible refine Below.drew ?_ | with_reducible refine Below.alloc ?_ (by simp <;> omega) _)
    · go_wp2
      go_meet
      case rel =>
        refine ⟨_, rfl, rfl, ?_, hid (hd_drew (heap_alloc_at (heap_alloc_at (heap_alloc_at (heap_new _ _))))), hid (by omega)⟩
        refine hid ?_
        repeat (first | with_reducible exact M0 | with_reducible refine Below.drew ?_ | with_reducible refine Below.alloc ?_ (by simp <;> omega) _)
  case rest =>
    obtain ⟨L, rfl, rfl, HB, HL, HLE⟩ := hcut
    have gc : wc.heap[w.heap.size]? = some (.cells #[.int .i64 0, .int .i64 r, .bool b, .int .i64 o, .int .i64 n, .string d] 27 (0, 0)) := (HB.out.block _ hlt).trans G1.out
    have c0' : wc.cell? ⟨w.heap.size, 0, none⟩ = some (.int .i64 0) := (cell_of gc).trans rfl
    have c1' : wc.cell? ⟨w.heap.size, 1, none⟩ = some (.int .i64 r) := (cell_of gc).trans rfl
    have hltc := lt_of_heap gc
    have GC := hid gc
    have BC : Hid (Below w.heap.size w wc) := hid (B1.out.trans (HB.out.mono (by omega)))
    clear gc HB B1 G1 HK M0 c0
    go_wp2_with fail
    go_ret2
    exact ⟨rfl, BC.out⟩
set_option maxHeartbeats 1000000 in
set_option maxRecDepth 20000 in
theorem reply_nohi (r : Int) (b : Bool) (o n : Int) (d : ByteArray) (w : World) (h0 : 2147483647 < r) :
    Calls Tryz.prog 8 #[.agg #[.int .i64 0, .int .i64 r, .bool b, .int .i64 o, .int .i64 n, .string d]] w fun e w' => e = .returned (.tuple #[.string ⟨#[]⟩, .int .i64 1]) ∧ Below w.heap.size w w' := by
  have g1 : (w.alloc (.cells #[.int .i64 0, .int .i64 r, .bool b, .int .i64 o, .int .i64 n, .string d] 27)).heap[w.heap.size]? = some (.cells #[.int .i64 0, .int .i64 r, .bool b, .int .i64 o, .int .i64 n, .string d] 27 (0, 0)) := heap_new _ _
  have b1 : Below w.heap.size w (w.alloc (.cells #[.int .i64 0, .int .i64 r, .bool b, .int .i64 o, .int .i64 n, .string d] 27)) := (Below.refl _ _).alloc (Nat.le_refl _) _
  go_enter Tryz.func8, Tryz.ntmps8
  go_wp2_with fail
  generalize w.alloc (.cells #[.int .i64 0, .int .i64 r, .bool b, .int .i64 o, .int .i64 n, .string d] 27) = w1 at *
  have hlt := lt_of_heap g1
  have c0 : w1.cell? ⟨w.heap.size, 0, none⟩ = some (.int .i64 0) := (cell_of g1).trans rfl
  have G1 := hid g1
  have B1 := hid b1
  have HK : Hid (∀ y, Below w1.heap.size w1 y → y.cell? ⟨w.heap.size, 0, none⟩ = some (.int .i64 0)) := hid (fun y hy => (hy.cell (p := ⟨w.heap.size, 0, none⟩) hlt).trans c0)
  have M0 : Below w1.heap.size w1 w1 := Below.refl _ _
  clear g1 b1
  go_cut [4, 5] (fun v4 v5 wc => ∃ L, v4 = .pointer (some ⟨L, 0, none⟩) ∧ v5 = .bool false ∧ Hid (Below w1.heap.size w1 wc) ∧ Hid (wc.heap[L]? = some (.cells #[.nilFunc, .nilFunc] 72 (0, 0))) ∧ Hid (w1.heap.size ≤ L))
  case first =>
    go_region_held3 (fun y => y.cell? ⟨w.heap.size, 0, none⟩ = some (.int .i64 0)) (((with_reducible refine HK.out _ ?_); repeat (first | with_reducible exact M0 | with_reducible refine Below.drew ?_ | with_reducible refine Below.alloc ?_ (by simp <;> omega) _))) ((first | (go_at_call 29; refine (ptable_any _).mono ?_; rintro e w' ⟨rfl, rfl⟩) | (go_at_call 28; refine (pfind_no _ _ _ (by omega)).mono ?_; rintro e w' ⟨rfl, rfl⟩)))
    · go_wp2
      go_meet
      case rel =>
        refine ⟨_, rfl, rfl, ?_, hid (hd_drew (heap_new' _ _ _ (by simp))), hid (by omega)⟩
        refine hid ?_
        repeat (first | with_reducible exact M0 | with_reducible refine Below.drew ?_ | with_reducible refine Below.alloc ?_ (by simp <;> omega) _)
    · go_wp2
      go_meet
      case rel =>
        refine ⟨_, rfl, rfl, ?_, hid (hd_drew (heap_alloc_at (heap_new' _ _ _ (by simp)))), hid (by omega)⟩
        refine hid ?_
        repeat (first | with_reducible exact M0 | with_reducible refine Below.drew ?_ | with_reducible refine Below.alloc ?_ (by simp <;> omega) _)
    · go_wp2
      go_meet
      case rel =>
        refine ⟨_, rfl, rfl, ?_, hid (hd_drew (heap_alloc_at (heap_alloc_at (heap_alloc_at (heap_new _ _))))), hid (by omega)⟩
        refine hid ?_
        repeat (first | with_reducible exact M0 | with_reducible refine Below.drew ?_ | with_reducible refine Below.alloc ?_ (by simp <;> omega) _)
  case rest =>
    obtain ⟨L, rfl, rfl, HB, HL, HLE⟩ := hcut
    have gc : wc.heap[w.heap.size]? = some (.cells #[.int .i64 0, .int .i64 r, .bool b, .int .i64 o, .int .i64 n, .string d] 27 (0, 0)) := (HB.out.block _ hlt).trans G1.out
    have c0' : wc.cell? ⟨w.heap.size, 0, none⟩ = some (.int .i64 0) := (cell_of gc).trans rfl
    have c1' : wc.cell? ⟨w.heap.size, 1, none⟩ = some (.int .i64 r) := (cell_of gc).trans rfl
    have hltc := lt_of_heap gc
    have GC := hid gc
    have BC : Hid (Below w.heap.size w wc) := hid (B1.out.trans (HB.out.mono (by omega)))
    clear gc HB B1 G1 HK M0 c0
    go_wp2_with fail
    go_ret2
    exact ⟨rfl, BC.out⟩
set_option maxHeartbeats 1000000 in
set_option maxRecDepth 20000 in
theorem reply_kind (v r : Int) (b : Bool) (o n : Int) (d : ByteArray) (w : World) (hv : ¬ (1 ≤ v ∧ v ≤ 6)) (hv0 : v ≠ 0) :
    Calls Tryz.prog 8 #[.agg #[.int .i64 v, .int .i64 r, .bool b, .int .i64 o, .int .i64 n, .string d]] w fun e w' => e = .returned (.tuple #[.string ⟨#[]⟩, .int .i64 6]) ∧ Below w.heap.size w w' := by
  have g1 : (w.alloc (.cells #[.int .i64 v, .int .i64 r, .bool b, .int .i64 o, .int .i64 n, .string d] 27)).heap[w.heap.size]? = some (.cells #[.int .i64 v, .int .i64 r, .bool b, .int .i64 o, .int .i64 n, .string d] 27 (0, 0)) := heap_new _ _
  have b1 : Below w.heap.size w (w.alloc (.cells #[.int .i64 v, .int .i64 r, .bool b, .int .i64 o, .int .i64 n, .string d] 27)) := (Below.refl _ _).alloc (Nat.le_refl _) _
  go_enter Tryz.func8, Tryz.ntmps8
  go_wp2_with fail
  generalize w.alloc (.cells #[.int .i64 v, .int .i64 r, .bool b, .int .i64 o, .int .i64 n, .string d] 27) = w1 at *
  have hlt := lt_of_heap g1
  have c0 : w1.cell? ⟨w.heap.size, 0, none⟩ = some (.int .i64 v) := (cell_of g1).trans rfl
  have G1 := hid g1
  have B1 := hid b1
  have HK : Hid (∀ y, Below w1.heap.size w1 y → y.cell? ⟨w.heap.size, 0, none⟩ = some (.int .i64 v)) := hid (fun y hy => (hy.cell (p := ⟨w.heap.size, 0, none⟩) hlt).trans c0)
  have M0 : Below w1.heap.size w1 w1 := Below.refl _ _
  clear g1 b1
  go_cut [4, 5] (fun v4 v5 wc => ∃ L, v4 = .pointer (some ⟨L, 0, none⟩) ∧ v5 = .bool false ∧ Hid (Below w1.heap.size w1 wc) ∧ Hid (wc.heap[L]? = some (.cells #[.nilFunc, .nilFunc] 72 (0, 0))) ∧ Hid (w1.heap.size ≤ L))
  case first =>
    go_region_held3 (fun y => y.cell? ⟨w.heap.size, 0, none⟩ = some (.int .i64 v)) (((with_reducible refine HK.out _ ?_); repeat (first | with_reducible exact M0 | with_reducible refine Below.drew ?_ | with_reducible refine Below.alloc ?_ (by simp <;> omega) _))) ((first | (go_at_call 29; refine (ptable_any _).mono ?_; rintro e w' ⟨rfl, rfl⟩) | (go_at_call 28; refine (pfind_no _ _ _ hv).mono ?_; rintro e w' ⟨rfl, rfl⟩)))
    · go_wp2
      go_meet
      case rel =>
        refine ⟨_, rfl, rfl, ?_, hid (hd_drew (heap_new' _ _ _ (by simp))), hid (by omega)⟩
        refine hid ?_
        repeat (first | with_reducible exact M0 | with_reducible refine Below.drew ?_ | with_reducible refine Below.alloc ?_ (by simp <;> omega) _)
    · go_wp2
      go_meet
      case rel =>
        refine ⟨_, rfl, rfl, ?_, hid (hd_drew (heap_alloc_at (heap_new' _ _ _ (by simp)))), hid (by omega)⟩
        refine hid ?_
        repeat (first | with_reducible exact M0 | with_reducible refine Below.drew ?_ | with_reducible refine Below.alloc ?_ (by simp <;> omega) _)
    · go_wp2
      go_meet
      case rel =>
        refine ⟨_, rfl, rfl, ?_, hid (hd_drew (heap_alloc_at (heap_alloc_at (heap_alloc_at (heap_new _ _))))), hid (by omega)⟩
        refine hid ?_
        repeat (first | with_reducible exact M0 | with_reducible refine Below.drew ?_ | with_reducible refine Below.alloc ?_ (by simp <;> omega) _)
  case rest =>
    obtain ⟨L, rfl, rfl, HB, HL, HLE⟩ := hcut
    have gc : wc.heap[w.heap.size]? = some (.cells #[.int .i64 v, .int .i64 r, .bool b, .int .i64 o, .int .i64 n, .string d] 27 (0, 0)) := (HB.out.block _ hlt).trans G1.out
    have c0' : wc.cell? ⟨w.heap.size, 0, none⟩ = some (.int .i64 v) := (cell_of gc).trans rfl
    have c1' : wc.cell? ⟨w.heap.size, 1, none⟩ = some (.int .i64 r) := (cell_of gc).trans rfl
    have hltc := lt_of_heap gc
    have GC := hid gc
    have BC : Hid (Below w.heap.size w wc) := hid (B1.out.trans (HB.out.mono (by omega)))
    clear gc HB B1 G1 HK M0 c0
    go_wp2_with fail
    go_ret2
    exact ⟨rfl, BC.out⟩
set_option maxHeartbeats 1000000 in
set_option maxRecDepth 20000 in
theorem reply_zero (b : Bool) (o n : Int) (d : ByteArray) (w : World) :
    Calls Tryz.prog 8 #[.agg #[.int .i64 0, .int .i64 0, .bool b, .int .i64 o, .int .i64 n, .string d]] w fun e w' => e = .returned (.tuple #[.string ⟨#[]⟩, .int .i64 6]) ∧ Below w.heap.size w w' := by
  have g1 : (w.alloc (.cells #[.int .i64 0, .int .i64 0, .bool b, .int .i64 o, .int .i64 n, .string d] 27)).heap[w.heap.size]? = some (.cells #[.int .i64 0, .int .i64 0, .bool b, .int .i64 o, .int .i64 n, .string d] 27 (0, 0)) := heap_new _ _
  have b1 : Below w.heap.size w (w.alloc (.cells #[.int .i64 0, .int .i64 0, .bool b, .int .i64 o, .int .i64 n, .string d] 27)) := (Below.refl _ _).alloc (Nat.le_refl _) _
  go_enter Tryz.func8, Tryz.ntmps8
  go_wp2_with fail
  generalize w.alloc (.cells #[.int .i64 0, .int .i64 0, .bool b, .int .i64 o, .int .i64 n, .string d] 27) = w1 at *
  have hlt := lt_of_heap g1
  have c0 : w1.cell? ⟨w.heap.size, 0, none⟩ = some (.int .i64 0) := (cell_of g1).trans rfl
  have G1 := hid g1
  have B1 := hid b1
  have HK : Hid (∀ y, Below w1.heap.size w1 y → y.cell? ⟨w.heap.size, 0, none⟩ = some (.int .i64 0)) := hid (fun y hy => (hy.cell (p := ⟨w.heap.size, 0, none⟩) hlt).trans c0)
  have M0 : Below w1.heap.size w1 w1 := Below.refl _ _
  clear g1 b1
  go_cut [4, 5] (fun v4 v5 wc => ∃ L, v4 = .pointer (some ⟨L, 0, none⟩) ∧ v5 = .bool false ∧ Hid (Below w1.heap.size w1 wc) ∧ Hid (wc.heap[L]? = some (.cells #[.nilFunc, .nilFunc] 72 (0, 0))) ∧ Hid (w1.heap.size ≤ L))
  case first =>
    go_region_held3 (fun y => y.cell? ⟨w.heap.size, 0, none⟩ = some (.int .i64 0)) (((with_reducible refine HK.out _ ?_); repeat (first | with_reducible exact M0 | with_reducible refine Below.drew ?_ | with_reducible refine Below.alloc ?_ (by simp <;> omega) _))) ((first | (go_at_call 29; refine (ptable_any _).mono ?_; rintro e w' ⟨rfl, rfl⟩) | (go_at_call 28; refine (pfind_no _ _ _ (by omega)).mono ?_; rintro e w' ⟨rfl, rfl⟩)))
    · go_wp2
      go_meet
      case rel =>
        refine ⟨_, rfl, rfl, ?_, hid (hd_drew (heap_new' _ _ _ (by simp))), hid (by omega)⟩
        refine hid ?_
        repeat (first | with_reducible exact M0 | with_reducible refine Below.drew ?_ | with_reducible refine Below.alloc ?_ (by simp <;> omega) _)
    · go_wp2
      go_meet
      case rel =>
        refine ⟨_, rfl, rfl, ?_, hid (hd_drew (heap_alloc_at (heap_new' _ _ _ (by simp)))), hid (by omega)⟩
        refine hid ?_
        repeat (first | with_reducible exact M0 | with_reducible refine Below.drew ?_ | with_reducible refine Below.alloc ?_ (by simp <;> omega) _)
    · go_wp2
      go_meet
      case rel =>
        refine ⟨_, rfl, rfl, ?_, hid (hd_drew (heap_alloc_at (heap_alloc_at (heap_alloc_at (heap_new _ _))))), hid (by omega)⟩
        refine hid ?_
        repeat (first | with_reducible exact M0 | with_reducible refine Below.drew ?_ | with_reducible refine Below.alloc ?_ (by simp <;> omega) _)
  case rest =>
    obtain ⟨L, rfl, rfl, HB, HL, HLE⟩ := hcut
    have gc : wc.heap[w.heap.size]? = some (.cells #[.int .i64 0, .int .i64 0, .bool b, .int .i64 o, .int .i64 n, .string d] 27 (0, 0)) := (HB.out.block _ hlt).trans G1.out
    have c0' : wc.cell? ⟨w.heap.size, 0, none⟩ = some (.int .i64 0) := (cell_of gc).trans rfl
    have c1' : wc.cell? ⟨w.heap.size, 1, none⟩ = some (.int .i64 0) := (cell_of gc).trans rfl
    have hltc := lt_of_heap gc
    have GC := hid gc
    have BC : Hid (Below w.heap.size w wc) := hid (B1.out.trans (HB.out.mono (by omega)))
    clear gc HB B1 G1 HK M0 c0
    go_wp2_with fail
    go_ret2
    exact ⟨rfl, BC.out⟩
end Go.Proofs.YtgdaaohlongmlaaGreat
