/- A request is read: ReadAsk, kind by kind. -/
import Derived.Test.YtgdaaohlongmlaaGreatPrq
namespace Go.Proofs.YtgdaaohlongmlaaGreat
open Go.RowKit
set_option maxHeartbeats 1000000 in
set_option maxRecDepth 20000 in
theorem rask_4 (s : ByteArray) (E : Nat) (w : World) (hs : s.size ≤ 9223372036854775807) (h0 : fx 1 s 0 0 = (4, 1, 0)) (hE : fl 0 (dq s 1 0) = E) :
    Calls Tryz.prog 14 #[.string s] w fun e w' => e = .returned (ra2 #[.int .i64 4, .string ⟨#[]⟩, .int .i64 0, .int .i64 0, .int .i64 0] #[.int .i64 0, .string ⟨#[]⟩, .int .i64 0, .int .i64 0, .int .i64 0] E) ∧ Below w.heap.size w w' := by
  have hk1 := fxle (Nat.zero_le _) h0
  have g1 : (w.alloc (.cells #[.int .i64 0, .string ⟨#[]⟩, .int .i64 0, .int .i64 0, .int .i64 0] 24)).heap[w.heap.size]? = some (.cells #[.int .i64 0, .string ⟨#[]⟩, .int .i64 0, .int .i64 0, .int .i64 0] 24 (0, 0)) := heap_new _ _
  have b1 : Below w.heap.size w (w.alloc (.cells #[.int .i64 0, .string ⟨#[]⟩, .int .i64 0, .int .i64 0, .int .i64 0] 24)) := (Below.refl _ _).alloc (Nat.le_refl _) _
  go_enter Tryz.func14, Tryz.ntmps14
  go_wp2_with fail
  generalize w.alloc (.cells #[.int .i64 0, .string ⟨#[]⟩, .int .i64 0, .int .i64 0, .int .i64 0] 24) = w1 at *
  have hlt := lt_of_heap g1
  refine (rnew_any s w1).mono ?_
  rintro e w2 ⟨rfl, h2, b2⟩
  have hqz : w.heap.size < w1.heap.size + 1 ∧ w.heap.size < w1.heap.size := by omega
  generalize w1.heap.size + 1 = q at *
  have g2 : w2.heap[w.heap.size]? = _ := (b2.block _ hlt).trans g1
  have bb2 : Below w.heap.size w w2 := b1.trans (b2.mono (by omega))
  generalize w1.heap.size = b at *
  have G2 := hid g2
  have B2 := hid bb2
  clear g1 b1 g2 b2 bb2 hlt
  go_wp2_with fail
  refine (rkind_any q b 0 s 0 0 _ _ _ w2 h2 (Nat.zero_le _) hs h0).mono ?_
  rintro e w3 ⟨rfl, h3, hc3⟩
  have hb3 : Ch (fun i => i = b ∨ i = q) w2 w3 := hc3
  have g3 : w3.heap[w.heap.size]? = _ := (hc3.block _ (lt_of_heap G2.out) (by omega)).trans G2.out
  have C3 : Hid (Ch (fun i => i = b ∨ i = q) w w3) := hid ((Ch.of_below (S := fun i => i = b ∨ i = q) (B2.out.mono (Nat.le_refl _))).trans hc3)
  have h4 : RS (w3.alloc (.cells #[.int .i64 4, .string ⟨#[]⟩, .int .i64 0, .int .i64 0, .int .i64 0] 24)) q b s 1 0 0 := h3.below ((Below.refl _ _).alloc (Nat.le_refl _) _)
  have g4 : (w3.alloc (.cells #[.int .i64 4, .string ⟨#[]⟩, .int .i64 0, .int .i64 0, .int .i64 0] 24)).heap[w.heap.size]? = some (.cells #[.int .i64 0, .string ⟨#[]⟩, .int .i64 0, .int .i64 0, .int .i64 0] 24 (0, 0)) := heap_alloc_at g3
  have r4 : (w3.alloc (.cells #[.int .i64 4, .string ⟨#[]⟩, .int .i64 0, .int .i64 0, .int .i64 0] 24)).heap[w3.heap.size]? = some (.cells #[.int .i64 4, .string ⟨#[]⟩, .int .i64 0, .int .i64 0, .int .i64 0] 24 (0, 0)) := heap_new _ _
  have C4 : Hid (Ch (fun i => i = b ∨ i = q) w (w3.alloc (.cells #[.int .i64 4, .string ⟨#[]⟩, .int .i64 0, .int .i64 0, .int .i64 0] 24))) := hid (C3.out.alloc _)
  have hG : w3.heap.size ≠ q ∧ w3.heap.size ≠ b := ⟨by have := h3.ltq; omega, by have := h3.ltb; omega⟩
  have hwG : w.heap.size < w3.heap.size := lt_of_heap g3
  clear hc3 hb3 g3 C3 G2 B2 h2 h3
  go_wp2_with fail
  generalize w3.alloc (.cells #[.int .i64 4, .string ⟨#[]⟩, .int .i64 0, .int .i64 0, .int .i64 0] 24) = w4 at *
  generalize w3.heap.size = G at *
  have hlt := lt_of_heap r4
  have c0 : w4.cell? ⟨G, 0, none⟩ = some (.int .i64 4) := (cell_of r4).trans rfl
  have G4 := hid g4
  have R4 := hid r4
  have H4 := hid h4
  have HK : Hid (∀ y, Below w4.heap.size w4 y → y.cell? ⟨G, 0, none⟩ = some (.int .i64 4)) := hid (fun y hy => (hy.cell (p := ⟨G, 0, none⟩) hlt).trans c0)
  have M0 : Below w4.heap.size w4 w4 := Below.refl _ _
  clear g4 r4 h4
  go_cut [6, 7] (fun v6 v7 wc => ∃ L, v6 = .pointer (some ⟨L, 0, none⟩) ∧ v7 = .bool true ∧ Hid (Below w4.heap.size w4 wc) ∧ Hid (wc.heap[L]? = some (.cells #[fv 45, fv 46] 45 (0, 0))) ∧ Hid (w4.heap.size ≤ L))
  case first =>
    go_region_held3 (fun y => y.cell? ⟨G, 0, none⟩ = some (.int .i64 4)) (((with_reducible refine HK.out _ ?_); repeat (first | with_reducible exact M0 | with_reducible refine Below.drew ?_ | with_reducible refine Below.alloc ?_ (by simp <;> omega) _))) ((first | (go_at_call 19; refine (qtable_any _).mono ?_; rintro e w' ⟨rfl, rfl⟩) | (go_at_call 18; refine (qfind_4 _ _ (by first | exact heap_new' _ _ _ (by simp) | exact hd_drew (heap_new' _ _ _ (by simp)) | exact heap_alloc_at (heap_new' _ _ _ (by simp)) | exact hd_drew (heap_alloc_at (heap_new' _ _ _ (by simp))))).mono ?_; rintro e w' ⟨rfl, rfl⟩)))
    · go_wp2
      go_meet
      case rel =>
        refine ⟨_, rfl, rfl, ?_, hid (hd_drew (heap_new' _ _ _ (by simp))), hid (by omega)⟩
        refine hid ?_
        repeat (first | with_reducible exact M0 | with_reducible refine Below.drew ?_ | with_reducible refine Below.alloc ?_ (by simp <;> omega) _)
    · go_wp2
      go_meet
      case rel =>
        refine ⟨_, rfl, rfl, ?_, hid (hd_drew (heap_alloc_at (heap_new' _ _ _ (by simp)))), hid (by omega)⟩
        refine hid ?_
        repeat (first | with_reducible exact M0 | with_reducible refine Below.drew ?_ | with_reducible refine Below.alloc ?_ (by simp <;> omega) _)
    · go_wp2
      go_meet
      case rel =>
        refine ⟨_, rfl, rfl, ?_, hid (hd_drew (heap_alloc_at (heap_alloc_at (heap_alloc_at (heap_new _ _))))), hid (by omega)⟩
        refine hid ?_
        repeat (first | with_reducible exact M0 | with_reducible refine Below.drew ?_ | with_reducible refine Below.alloc ?_ (by simp <;> omega) _)
  case rest =>
    obtain ⟨L, rfl, rfl, HB, HL, HLE⟩ := hcut
    have hsz := HB.out.size
    have G5 : Hid (wc.heap[w.heap.size]? = some (.cells #[.int .i64 0, .string ⟨#[]⟩, .int .i64 0, .int .i64 0, .int .i64 0] 24 (0, 0))) := hid ((HB.out.block _ (lt_of_heap G4.out)).trans G4.out)
    have R5 : Hid (wc.heap[G]? = some (.cells #[.int .i64 4, .string ⟨#[]⟩, .int .i64 0, .int .i64 0, .int .i64 0] 24 (0, 0))) := hid ((HB.out.block _ hlt).trans R4.out)
    have h5 : RS wc q b s 1 0 0 := H4.out.below HB.out
    have C5 : Hid (Ch (fun i => i = b ∨ i = q) w wc) := hid (C4.out.trans (Ch.of_below HB.out))
    have hLq : L ≠ q ∧ L ≠ b ∧ L ≠ G := ⟨by have := H4.out.ltq; have := HLE.out; omega, by have := H4.out.ltb; have := HLE.out; omega, by have := HLE.out; omega⟩
    have hLw := lt_of_heap HL.out
    clear G4 R4 H4 C4 HB HK M0 c0 HLE
    go_wp2_with fail
    refine (rrefuse_any q b 0 s 1 0 6 false wc h5).mono ?_
    rintro e w6 ⟨rfl, h6, hc6⟩
    rw [rf_no] at h6
    have G6 : Hid (w6.heap[w.heap.size]? = _) := hid ((hc6.block _ (lt_of_heap G5.out) (by omega)).trans G5.out)
    have R6 : Hid (w6.heap[G]? = _) := hid ((hc6.block _ (lt_of_heap R5.out) (by omega)).trans R5.out)
    have L6 : Hid (w6.heap[L]? = _) := hid ((hc6.block _ (lt_of_heap HL.out) (by omega)).trans HL.out)
    have C6 := hid (C5.out.trans hc6)
    clear hc6 h5 G5 R5 HL C5
    go_wp2_with fail
    refine (rfailed_any q b 0 s 1 0 w6 h6).mono ?_
    rintro e w7 ⟨rfl, rfl⟩
    rw [fl_0]
    have y1 : w7.cell? ⟨L, 1, none⟩ = some (fv 46) := (cell_of L6.out).trans rfl
    go_wp2_with fail
    refine (q2r_any q b G s 4 1 w7 h6 R6.out).mono ?_
    rintro e w8 ⟨rfl, h8, R8, hc8⟩
    have G8 : Hid (w8.heap[w.heap.size]? = _) := hid ((hc8.block _ (lt_of_heap G6.out) (by omega)).trans G6.out)
    have C8 : Hid (Ch (fun i => i = b ∨ i = q ∨ i = G) w w8) := hid ((ch3 C6.out).trans hc8)
    have hk8 : 1 ≤ s.size := by exact hk1
    have HR8 := hid R8
    clear hc8 R8 R6 L6 G6 C6 h6 y1
    go_wp2_with fail
    have CD := hid (rdone17_any q b 0 s 1 0 w8 h8 hk8 hs)
    rw [hE] at CD
    refine CD.out.mono ?_
    rintro e w9 ⟨rfl, n1, rfl⟩
    have g9 : (w8.drewN n1).heap[w.heap.size]? = some (.cells #[.int .i64 0, .string ⟨#[]⟩, .int .i64 0, .int .i64 0, .int .i64 0] 24 (0, 0)) := G8.out
    have r9 : (w8.drewN n1).heap[G]? = some (.cells #[.int .i64 4, .string ⟨#[]⟩, .int .i64 0, .int .i64 0, .int .i64 0] 24 (0, 0)) := HR8.out
    have C9 : Hid (Ch (fun i => i = b ∨ i = q ∨ i = G) w (w8.drewN n1)) := hid (C8.out.drewN n1)
    clear CD h8 G8 HR8 C8
    generalize w8.drewN n1 = w9 at *
    have xx0 : w9.cell? ⟨w.heap.size, 0, none⟩ = some (.int .i64 0) := (cell_of g9).trans rfl
    have xx1 : w9.cell? ⟨w.heap.size, 1, none⟩ = some (.string ⟨#[]⟩) := (cell_of g9).trans rfl
    have xx2 : w9.cell? ⟨w.heap.size, 2, none⟩ = some (.int .i64 0) := (cell_of g9).trans rfl
    have xx3 : w9.cell? ⟨w.heap.size, 3, none⟩ = some (.int .i64 0) := (cell_of g9).trans rfl
    have xx4 : w9.cell? ⟨w.heap.size, 4, none⟩ = some (.int .i64 0) := (cell_of g9).trans rfl
    have zz0 := froz_of (i := 0) g9
    have zz1 := froz_of (i := 1) g9
    have zz2 := froz_of (i := 2) g9
    have zz3 := froz_of (i := 3) g9
    have zz4 := froz_of (i := 4) g9
    have yy0 : w9.cell? ⟨G, 0, none⟩ = some (.int .i64 4) := (cell_of r9).trans rfl
    have yy1 : w9.cell? ⟨G, 1, none⟩ = some (.string ⟨#[]⟩) := (cell_of r9).trans rfl
    have yy2 : w9.cell? ⟨G, 2, none⟩ = some (.int .i64 0) := (cell_of r9).trans rfl
    have yy3 : w9.cell? ⟨G, 3, none⟩ = some (.int .i64 0) := (cell_of r9).trans rfl
    have yy4 : w9.cell? ⟨G, 4, none⟩ = some (.int .i64 0) := (cell_of r9).trans rfl
    have G9 := hid g9
    clear g9 r9
    have B9 : Below w.heap.size w w9 := C9.out.below (Nat.le_refl _) (fun i hi => by rintro (h | h | h) <;> omega)
    have hr9 := lt_of_heap G9.out
    clear C9
    by_cases hE0 : E = 0
    · subst hE0
      have gF : (((((w9.setCell ⟨w.heap.size, 0, none⟩ (.int .i64 4)).setCell ⟨w.heap.size, 1, none⟩ (.string ⟨#[]⟩)).setCell ⟨w.heap.size, 2, none⟩ (.int .i64 0)).setCell ⟨w.heap.size, 3, none⟩ (.int .i64 0)).setCell ⟨w.heap.size, 4, none⟩ (.int .i64 0)).heap[w.heap.size]? = some (.cells #[.int .i64 4, .string ⟨#[]⟩, .int .i64 0, .int .i64 0, .int .i64 0] 24 (0, 0)) := (heap_set (heap_set (heap_set (heap_set (heap_set G9.out)))))
      have bF : Below w.heap.size w (((((w9.setCell ⟨w.heap.size, 0, none⟩ (.int .i64 4)).setCell ⟨w.heap.size, 1, none⟩ (.string ⟨#[]⟩)).setCell ⟨w.heap.size, 2, none⟩ (.int .i64 0)).setCell ⟨w.heap.size, 3, none⟩ (.int .i64 0)).setCell ⟨w.heap.size, 4, none⟩ (.int .i64 0)) := (((((B9.setCell (Nat.le_refl _) _).setCell (Nat.le_refl _) _).setCell (Nat.le_refl _) _).setCell (Nat.le_refl _) _).setCell (Nat.le_refl _) _)
      go_wp2_with fail
      generalize (((((w9.setCell ⟨w.heap.size, 0, none⟩ (.int .i64 4)).setCell ⟨w.heap.size, 1, none⟩ (.string ⟨#[]⟩)).setCell ⟨w.heap.size, 2, none⟩ (.int .i64 0)).setCell ⟨w.heap.size, 3, none⟩ (.int .i64 0)).setCell ⟨w.heap.size, 4, none⟩ (.int .i64 0)) = wF at *
      have ff0 : wF.cell? ⟨w.heap.size, 0, none⟩ = some (.int .i64 4) := (cell_of gF).trans rfl
      have ff1 : wF.cell? ⟨w.heap.size, 1, none⟩ = some (.string ⟨#[]⟩) := (cell_of gF).trans rfl
      have ff2 : wF.cell? ⟨w.heap.size, 2, none⟩ = some (.int .i64 0) := (cell_of gF).trans rfl
      have ff3 : wF.cell? ⟨w.heap.size, 3, none⟩ = some (.int .i64 0) := (cell_of gF).trans rfl
      have ff4 : wF.cell? ⟨w.heap.size, 4, none⟩ = some (.int .i64 0) := (cell_of gF).trans rfl
      exact bodyPost_ret (v := .tuple #[.agg #[.int .i64 4, .string ⟨#[]⟩, .int .i64 0, .int .i64 0, .int .i64 0], .int .i64 0]) (by simp [results, Tryz.results14, go_sem, ff0, ff1, ff2, ff3, ff4]) rfl ⟨rfl, bF⟩
    · have hne : ((E : Int) != 0) = true := by rw [bne_iff_ne]; omega
      have gF : (((((w9.setCell ⟨w.heap.size, 0, none⟩ (.int .i64 0)).setCell ⟨w.heap.size, 1, none⟩ (.string ⟨#[]⟩)).setCell ⟨w.heap.size, 2, none⟩ (.int .i64 0)).setCell ⟨w.heap.size, 3, none⟩ (.int .i64 0)).setCell ⟨w.heap.size, 4, none⟩ (.int .i64 0)).heap[w.heap.size]? = some (.cells #[.int .i64 0, .string ⟨#[]⟩, .int .i64 0, .int .i64 0, .int .i64 0] 24 (0, 0)) := (heap_set (heap_set (heap_set (heap_set (heap_set G9.out)))))
      have bF : Below w.heap.size w (((((w9.setCell ⟨w.heap.size, 0, none⟩ (.int .i64 0)).setCell ⟨w.heap.size, 1, none⟩ (.string ⟨#[]⟩)).setCell ⟨w.heap.size, 2, none⟩ (.int .i64 0)).setCell ⟨w.heap.size, 3, none⟩ (.int .i64 0)).setCell ⟨w.heap.size, 4, none⟩ (.int .i64 0)) := (((((B9.setCell (Nat.le_refl _) _).setCell (Nat.le_refl _) _).setCell (Nat.le_refl _) _).setCell (Nat.le_refl _) _).setCell (Nat.le_refl _) _)
      go_wp2_with fail
      generalize (((((w9.setCell ⟨w.heap.size, 0, none⟩ (.int .i64 0)).setCell ⟨w.heap.size, 1, none⟩ (.string ⟨#[]⟩)).setCell ⟨w.heap.size, 2, none⟩ (.int .i64 0)).setCell ⟨w.heap.size, 3, none⟩ (.int .i64 0)).setCell ⟨w.heap.size, 4, none⟩ (.int .i64 0)) = wF at *
      have ff0 : wF.cell? ⟨w.heap.size, 0, none⟩ = some (.int .i64 0) := (cell_of gF).trans rfl
      have ff1 : wF.cell? ⟨w.heap.size, 1, none⟩ = some (.string ⟨#[]⟩) := (cell_of gF).trans rfl
      have ff2 : wF.cell? ⟨w.heap.size, 2, none⟩ = some (.int .i64 0) := (cell_of gF).trans rfl
      have ff3 : wF.cell? ⟨w.heap.size, 3, none⟩ = some (.int .i64 0) := (cell_of gF).trans rfl
      have ff4 : wF.cell? ⟨w.heap.size, 4, none⟩ = some (.int .i64 0) := (cell_of gF).trans rfl
      exact bodyPost_ret (v := .tuple #[.agg #[.int .i64 0, .string ⟨#[]⟩, .int .i64 0, .int .i64 0, .int .i64 0], .int .i64 E]) (by simp [results, Tryz.results14, go_sem, ff0, ff1, ff2, ff3, ff4]) rfl ⟨by rw [ra2_no hE0], bF⟩
set_option maxHeartbeats 1000000 in
set_option maxRecDepth 20000 in
theorem rask_5 (s : ByteArray) (x2 k2 e2 E : Nat) (w : World) (hs : s.size ≤ 9223372036854775807) (h0 : fx 1 s 0 0 = (5, 1, 0)) (h1 : fx 8 s 1 0 = (x2, k2, e2)) (hE : fl 0 (dq s k2 e2) = E) :
    Calls Tryz.prog 14 #[.string s] w fun e w' => e = .returned (ra2 #[.int .i64 5, .string ⟨#[]⟩, .int .i64 (wrap64 x2), .int .i64 0, .int .i64 0] #[.int .i64 0, .string ⟨#[]⟩, .int .i64 0, .int .i64 0, .int .i64 0] E) ∧ Below w.heap.size w w' := by
  have hk1 := fxle (Nat.zero_le _) h0
  have g1 : (w.alloc (.cells #[.int .i64 0, .string ⟨#[]⟩, .int .i64 0, .int .i64 0, .int .i64 0] 24)).heap[w.heap.size]? = some (.cells #[.int .i64 0, .string ⟨#[]⟩, .int .i64 0, .int .i64 0, .int .i64 0] 24 (0, 0)) := heap_new _ _
  have b1 : Below w.heap.size w (w.alloc (.cells #[.int .i64 0, .string ⟨#[]⟩, .int .i64 0, .int .i64 0, .int .i64 0] 24)) := (Below.refl _ _).alloc (Nat.le_refl _) _
  go_enter Tryz.func14, Tryz.ntmps14
  go_wp2_with fail
  generalize w.alloc (.cells #[.int .i64 0, .string ⟨#[]⟩, .int .i64 0, .int .i64 0, .int .i64 0] 24) = w1 at *
  have hlt := lt_of_heap g1
  refine (rnew_any s w1).mono ?_
  rintro e w2 ⟨rfl, h2, b2⟩
  have hqz : w.heap.size < w1.heap.size + 1 ∧ w.heap.size < w1.heap.size := by omega
  generalize w1.heap.size + 1 = q at *
  have g2 : w2.heap[w.heap.size]? = _ := (b2.block _ hlt).trans g1
  have bb2 : Below w.heap.size w w2 := b1.trans (b2.mono (by omega))
  generalize w1.heap.size = b at *
  have G2 := hid g2
  have B2 := hid bb2
  clear g1 b1 g2 b2 bb2 hlt
  go_wp2_with fail
  refine (rkind_any q b 0 s 0 0 _ _ _ w2 h2 (Nat.zero_le _) hs h0).mono ?_
  rintro e w3 ⟨rfl, h3, hc3⟩
  have hb3 : Ch (fun i => i = b ∨ i = q) w2 w3 := hc3
  have g3 : w3.heap[w.heap.size]? = _ := (hc3.block _ (lt_of_heap G2.out) (by omega)).trans G2.out
  have C3 : Hid (Ch (fun i => i = b ∨ i = q) w w3) := hid ((Ch.of_below (S := fun i => i = b ∨ i = q) (B2.out.mono (Nat.le_refl _))).trans hc3)
  have h4 : RS (w3.alloc (.cells #[.int .i64 5, .string ⟨#[]⟩, .int .i64 0, .int .i64 0, .int .i64 0] 24)) q b s 1 0 0 := h3.below ((Below.refl _ _).alloc (Nat.le_refl _) _)
  have g4 : (w3.alloc (.cells #[.int .i64 5, .string ⟨#[]⟩, .int .i64 0, .int .i64 0, .int .i64 0] 24)).heap[w.heap.size]? = some (.cells #[.int .i64 0, .string ⟨#[]⟩, .int .i64 0, .int .i64 0, .int .i64 0] 24 (0, 0)) := heap_alloc_at g3
  have r4 : (w3.alloc (.cells #[.int .i64 5, .string ⟨#[]⟩, .int .i64 0, .int .i64 0, .int .i64 0] 24)).heap[w3.heap.size]? = some (.cells #[.int .i64 5, .string ⟨#[]⟩, .int .i64 0, .int .i64 0, .int .i64 0] 24 (0, 0)) := heap_new _ _
  have C4 : Hid (Ch (fun i => i = b ∨ i = q) w (w3.alloc (.cells #[.int .i64 5, .string ⟨#[]⟩, .int .i64 0, .int .i64 0, .int .i64 0] 24))) := hid (C3.out.alloc _)
  have hG : w3.heap.size ≠ q ∧ w3.heap.size ≠ b := ⟨by have := h3.ltq; omega, by have := h3.ltb; omega⟩
  have hwG : w.heap.size < w3.heap.size := lt_of_heap g3
  clear hc3 hb3 g3 C3 G2 B2 h2 h3
  go_wp2_with fail
  generalize w3.alloc (.cells #[.int .i64 5, .string ⟨#[]⟩, .int .i64 0, .int .i64 0, .int .i64 0] 24) = w4 at *
  generalize w3.heap.size = G at *
  have hlt := lt_of_heap r4
  have c0 : w4.cell? ⟨G, 0, none⟩ = some (.int .i64 5) := (cell_of r4).trans rfl
  have G4 := hid g4
  have R4 := hid r4
  have H4 := hid h4
  have HK : Hid (∀ y, Below w4.heap.size w4 y → y.cell? ⟨G, 0, none⟩ = some (.int .i64 5)) := hid (fun y hy => (hy.cell (p := ⟨G, 0, none⟩) hlt).trans c0)
  have M0 : Below w4.heap.size w4 w4 := Below.refl _ _
  clear g4 r4 h4
  go_cut [6, 7] (fun v6 v7 wc => ∃ L, v6 = .pointer (some ⟨L, 0, none⟩) ∧ v7 = .bool true ∧ Hid (Below w4.heap.size w4 wc) ∧ Hid (wc.heap[L]? = some (.cells #[fv 57, fv 58] 45 (0, 0))) ∧ Hid (w4.heap.size ≤ L))
  case first =>
    go_region_held3 (fun y => y.cell? ⟨G, 0, none⟩ = some (.int .i64 5)) (((with_reducible refine HK.out _ ?_); repeat (first | with_reducible exact M0 | with_reducible refine Below.drew ?_ | with_reducible refine Below.alloc ?_ (by simp <;> omega) _))) ((first | (go_at_call 19; refine (qtable_any _).mono ?_; rintro e w' ⟨rfl, rfl⟩) | (go_at_call 18; refine (qfind_5 _ _ (by first | exact heap_new' _ _ _ (by simp) | exact hd_drew (heap_new' _ _ _ (by simp)) | exact heap_alloc_at (heap_new' _ _ _ (by simp)) | exact hd_drew (heap_alloc_at (heap_new' _ _ _ (by simp))))).mono ?_; rintro e w' ⟨rfl, rfl⟩)))
    · go_wp2
      go_meet
      case rel =>
        refine ⟨_, rfl, rfl, ?_, hid (hd_drew (heap_new' _ _ _ (by simp))), hid (by omega)⟩
        refine hid ?_
        repeat (first | with_reducible exact M0 | with_reducible refine Below.drew ?_ | with_reducible refine Below.alloc ?_ (by simp <;> omega) _)
    · go_wp2
      go_meet
      case rel =>
        refine ⟨_, rfl, rfl, ?_, hid (hd_drew (heap_alloc_at (heap_new' _ _ _ (by simp)))), hid (by omega)⟩
        refine hid ?_
        repeat (first | with_reducible exact M0 | with_reducible refine Below.drew ?_ | with_reducible refine Below.alloc ?_ (by simp <;> omega) _)
    · go_wp2
      go_meet
      case rel =>
        refine ⟨_, rfl, rfl, ?_, hid (hd_drew (heap_alloc_at (heap_alloc_at (heap_alloc_at (heap_new _ _))))), hid (by omega)⟩
        refine hid ?_
        repeat (first | with_reducible exact M0 | with_reducible refine Below.drew ?_ | with_reducible refine Below.alloc ?_ (by simp <;> omega) _)
  case rest =>
    obtain ⟨L, rfl, rfl, HB, HL, HLE⟩ := hcut
    have hsz := HB.out.size
    have G5 : Hid (wc.heap[w.heap.size]? = some (.cells #[.int .i64 0, .string ⟨#[]⟩, .int .i64 0, .int .i64 0, .int .i64 0] 24 (0, 0))) := hid ((HB.out.block _ (lt_of_heap G4.out)).trans G4.out)
    have R5 : Hid (wc.heap[G]? = some (.cells #[.int .i64 5, .string ⟨#[]⟩, .int .i64 0, .int .i64 0, .int .i64 0] 24 (0, 0))) := hid ((HB.out.block _ hlt).trans R4.out)
    have h5 : RS wc q b s 1 0 0 := H4.out.below HB.out
    have C5 : Hid (Ch (fun i => i = b ∨ i = q) w wc) := hid (C4.out.trans (Ch.of_below HB.out))
    have hLq : L ≠ q ∧ L ≠ b ∧ L ≠ G := ⟨by have := H4.out.ltq; have := HLE.out; omega, by have := H4.out.ltb; have := HLE.out; omega, by have := HLE.out; omega⟩
    have hLw := lt_of_heap HL.out
    clear G4 R4 H4 C4 HB HK M0 c0 HLE
    go_wp2_with fail
    refine (rrefuse_any q b 0 s 1 0 6 false wc h5).mono ?_
    rintro e w6 ⟨rfl, h6, hc6⟩
    rw [rf_no] at h6
    have G6 : Hid (w6.heap[w.heap.size]? = _) := hid ((hc6.block _ (lt_of_heap G5.out) (by omega)).trans G5.out)
    have R6 : Hid (w6.heap[G]? = _) := hid ((hc6.block _ (lt_of_heap R5.out) (by omega)).trans R5.out)
    have L6 : Hid (w6.heap[L]? = _) := hid ((hc6.block _ (lt_of_heap HL.out) (by omega)).trans HL.out)
    have C6 := hid (C5.out.trans hc6)
    clear hc6 h5 G5 R5 HL C5
    go_wp2_with fail
    refine (rfailed_any q b 0 s 1 0 w6 h6).mono ?_
    rintro e w7 ⟨rfl, rfl⟩
    rw [fl_0]
    have y1 : w7.cell? ⟨L, 1, none⟩ = some (fv 58) := (cell_of L6.out).trans rfl
    go_wp2_with fail
    refine (q10r_any q b G s 5 1 e2 k2 x2 w7 h6 hk1 hs R6.out hG.1 hG.2 h1).mono ?_
    rintro e w8 ⟨rfl, h8, R8, hc8⟩
    have G8 : Hid (w8.heap[w.heap.size]? = _) := hid ((hc8.block _ (lt_of_heap G6.out) (by omega)).trans G6.out)
    have C8 : Hid (Ch (fun i => i = b ∨ i = q ∨ i = G) w w8) := hid ((ch3 C6.out).trans hc8)
    have hk8 : k2 ≤ s.size := by exact fxle hk1 h1
    have HR8 := hid R8
    clear hc8 R8 R6 L6 G6 C6 h6 y1
    go_wp2_with fail
    have CD := hid (rdone17_any q b 0 s k2 e2 w8 h8 hk8 hs)
    rw [hE] at CD
    refine CD.out.mono ?_
    rintro e w9 ⟨rfl, n1, rfl⟩
    have g9 : (w8.drewN n1).heap[w.heap.size]? = some (.cells #[.int .i64 0, .string ⟨#[]⟩, .int .i64 0, .int .i64 0, .int .i64 0] 24 (0, 0)) := G8.out
    have r9 : (w8.drewN n1).heap[G]? = some (.cells #[.int .i64 5, .string ⟨#[]⟩, .int .i64 (wrap64 x2), .int .i64 0, .int .i64 0] 24 (0, 0)) := HR8.out
    have C9 : Hid (Ch (fun i => i = b ∨ i = q ∨ i = G) w (w8.drewN n1)) := hid (C8.out.drewN n1)
    clear CD h8 G8 HR8 C8
    generalize w8.drewN n1 = w9 at *
    have xx0 : w9.cell? ⟨w.heap.size, 0, none⟩ = some (.int .i64 0) := (cell_of g9).trans rfl
    have xx1 : w9.cell? ⟨w.heap.size, 1, none⟩ = some (.string ⟨#[]⟩) := (cell_of g9).trans rfl
    have xx2 : w9.cell? ⟨w.heap.size, 2, none⟩ = some (.int .i64 0) := (cell_of g9).trans rfl
    have xx3 : w9.cell? ⟨w.heap.size, 3, none⟩ = some (.int .i64 0) := (cell_of g9).trans rfl
    have xx4 : w9.cell? ⟨w.heap.size, 4, none⟩ = some (.int .i64 0) := (cell_of g9).trans rfl
    have zz0 := froz_of (i := 0) g9
    have zz1 := froz_of (i := 1) g9
    have zz2 := froz_of (i := 2) g9
    have zz3 := froz_of (i := 3) g9
    have zz4 := froz_of (i := 4) g9
    have yy0 : w9.cell? ⟨G, 0, none⟩ = some (.int .i64 5) := (cell_of r9).trans rfl
    have yy1 : w9.cell? ⟨G, 1, none⟩ = some (.string ⟨#[]⟩) := (cell_of r9).trans rfl
    have yy2 : w9.cell? ⟨G, 2, none⟩ = some (.int .i64 (wrap64 x2)) := (cell_of r9).trans rfl
    have yy3 : w9.cell? ⟨G, 3, none⟩ = some (.int .i64 0) := (cell_of r9).trans rfl
    have yy4 : w9.cell? ⟨G, 4, none⟩ = some (.int .i64 0) := (cell_of r9).trans rfl
    have G9 := hid g9
    clear g9 r9
    have B9 : Below w.heap.size w w9 := C9.out.below (Nat.le_refl _) (fun i hi => by rintro (h | h | h) <;> omega)
    have hr9 := lt_of_heap G9.out
    clear C9
    by_cases hE0 : E = 0
    · subst hE0
      have gF : (((((w9.setCell ⟨w.heap.size, 0, none⟩ (.int .i64 5)).setCell ⟨w.heap.size, 1, none⟩ (.string ⟨#[]⟩)).setCell ⟨w.heap.size, 2, none⟩ (.int .i64 (wrap64 x2))).setCell ⟨w.heap.size, 3, none⟩ (.int .i64 0)).setCell ⟨w.heap.size, 4, none⟩ (.int .i64 0)).heap[w.heap.size]? = some (.cells #[.int .i64 5, .string ⟨#[]⟩, .int .i64 (wrap64 x2), .int .i64 0, .int .i64 0] 24 (0, 0)) := (heap_set (heap_set (heap_set (heap_set (heap_set G9.out)))))
      have bF : Below w.heap.size w (((((w9.setCell ⟨w.heap.size, 0, none⟩ (.int .i64 5)).setCell ⟨w.heap.size, 1, none⟩ (.string ⟨#[]⟩)).setCell ⟨w.heap.size, 2, none⟩ (.int .i64 (wrap64 x2))).setCell ⟨w.heap.size, 3, none⟩ (.int .i64 0)).setCell ⟨w.heap.size, 4, none⟩ (.int .i64 0)) := (((((B9.setCell (Nat.le_refl _) _).setCell (Nat.le_refl _) _).setCell (Nat.le_refl _) _).setCell (Nat.le_refl _) _).setCell (Nat.le_refl _) _)
      go_wp2_with fail
      generalize (((((w9.setCell ⟨w.heap.size, 0, none⟩ (.int .i64 5)).setCell ⟨w.heap.size, 1, none⟩ (.string ⟨#[]⟩)).setCell ⟨w.heap.size, 2, none⟩ (.int .i64 (wrap64 x2))).setCell ⟨w.heap.size, 3, none⟩ (.int .i64 0)).setCell ⟨w.heap.size, 4, none⟩ (.int .i64 0)) = wF at *
      have ff0 : wF.cell? ⟨w.heap.size, 0, none⟩ = some (.int .i64 5) := (cell_of gF).trans rfl
      have ff1 : wF.cell? ⟨w.heap.size, 1, none⟩ = some (.string ⟨#[]⟩) := (cell_of gF).trans rfl
      have ff2 : wF.cell? ⟨w.heap.size, 2, none⟩ = some (.int .i64 (wrap64 x2)) := (cell_of gF).trans rfl
      have ff3 : wF.cell? ⟨w.heap.size, 3, none⟩ = some (.int .i64 0) := (cell_of gF).trans rfl
      have ff4 : wF.cell? ⟨w.heap.size, 4, none⟩ = some (.int .i64 0) := (cell_of gF).trans rfl
      exact bodyPost_ret (v := .tuple #[.agg #[.int .i64 5, .string ⟨#[]⟩, .int .i64 (wrap64 x2), .int .i64 0, .int .i64 0], .int .i64 0]) (by simp [results, Tryz.results14, go_sem, ff0, ff1, ff2, ff3, ff4]) rfl ⟨rfl, bF⟩
    · have hne : ((E : Int) != 0) = true := by rw [bne_iff_ne]; omega
      have gF : (((((w9.setCell ⟨w.heap.size, 0, none⟩ (.int .i64 0)).setCell ⟨w.heap.size, 1, none⟩ (.string ⟨#[]⟩)).setCell ⟨w.heap.size, 2, none⟩ (.int .i64 0)).setCell ⟨w.heap.size, 3, none⟩ (.int .i64 0)).setCell ⟨w.heap.size, 4, none⟩ (.int .i64 0)).heap[w.heap.size]? = some (.cells #[.int .i64 0, .string ⟨#[]⟩, .int .i64 0, .int .i64 0, .int .i64 0] 24 (0, 0)) := (heap_set (heap_set (heap_set (heap_set (heap_set G9.out)))))
      have bF : Below w.heap.size w (((((w9.setCell ⟨w.heap.size, 0, none⟩ (.int .i64 0)).setCell ⟨w.heap.size, 1, none⟩ (.string ⟨#[]⟩)).setCell ⟨w.heap.size, 2, none⟩ (.int .i64 0)).setCell ⟨w.heap.size, 3, none⟩ (.int .i64 0)).setCell ⟨w.heap.size, 4, none⟩ (.int .i64 0)) := (((((B9.setCell (Nat.le_refl _) _).setCell (Nat.le_refl _) _).setCell (Nat.le_refl _) _).setCell (Nat.le_refl _) _).setCell (Nat.le_refl _) _)
      go_wp2_with fail
      generalize (((((w9.setCell ⟨w.heap.size, 0, none⟩ (.int .i64 0)).setCell ⟨w.heap.size, 1, none⟩ (.string ⟨#[]⟩)).setCell ⟨w.heap.size, 2, none⟩ (.int .i64 0)).setCell ⟨w.heap.size, 3, none⟩ (.int .i64 0)).setCell ⟨w.heap.size, 4, none⟩ (.int .i64 0)) = wF at *
      have ff0 : wF.cell? ⟨w.heap.size, 0, none⟩ = some (.int .i64 0) := (cell_of gF).trans rfl
      have ff1 : wF.cell? ⟨w.heap.size, 1, none⟩ = some (.string ⟨#[]⟩) := (cell_of gF).trans rfl
      have ff2 : wF.cell? ⟨w.heap.size, 2, none⟩ = some (.int .i64 0) := (cell_of gF).trans rfl
      have ff3 : wF.cell? ⟨w.heap.size, 3, none⟩ = some (.int .i64 0) := (cell_of gF).trans rfl
      have ff4 : wF.cell? ⟨w.heap.size, 4, none⟩ = some (.int .i64 0) := (cell_of gF).trans rfl
      exact bodyPost_ret (v := .tuple #[.agg #[.int .i64 0, .string ⟨#[]⟩, .int .i64 0, .int .i64 0, .int .i64 0], .int .i64 E]) (by simp [results, Tryz.results14, go_sem, ff0, ff1, ff2, ff3, ff4]) rfl ⟨by rw [ra2_no hE0], bF⟩
set_option maxHeartbeats 1000000 in
set_option maxRecDepth 20000 in
theorem rask_6 (s : ByteArray) (E : Nat) (w : World) (hs : s.size ≤ 9223372036854775807) (h0 : fx 1 s 0 0 = (6, 1, 0)) (hE : fl 0 (dq s 1 0) = E) :
    Calls Tryz.prog 14 #[.string s] w fun e w' => e = .returned (ra2 #[.int .i64 6, .string ⟨#[]⟩, .int .i64 0, .int .i64 0, .int .i64 0] #[.int .i64 0, .string ⟨#[]⟩, .int .i64 0, .int .i64 0, .int .i64 0] E) ∧ Below w.heap.size w w' := by
  have hk1 := fxle (Nat.zero_le _) h0
  have g1 : (w.alloc (.cells #[.int .i64 0, .string ⟨#[]⟩, .int .i64 0, .int .i64 0, .int .i64 0] 24)).heap[w.heap.size]? = some (.cells #[.int .i64 0, .string ⟨#[]⟩, .int .i64 0, .int .i64 0, .int .i64 0] 24 (0, 0)) := heap_new _ _
  have b1 : Below w.heap.size w (w.alloc (.cells #[.int .i64 0, .string ⟨#[]⟩, .int .i64 0, .int .i64 0, .int .i64 0] 24)) := (Below.refl _ _).alloc (Nat.le_refl _) _
  go_enter Tryz.func14, Tryz.ntmps14
  go_wp2_with fail
  generalize w.alloc (.cells #[.int .i64 0, .string ⟨#[]⟩, .int .i64 0, .int .i64 0, .int .i64 0] 24) = w1 at *
  have hlt := lt_of_heap g1
  refine (rnew_any s w1).mono ?_
  rintro e w2 ⟨rfl, h2, b2⟩
  have hqz : w.heap.size < w1.heap.size + 1 ∧ w.heap.size < w1.heap.size := by omega
  generalize w1.heap.size + 1 = q at *
  have g2 : w2.heap[w.heap.size]? = _ := (b2.block _ hlt).trans g1
  have bb2 : Below w.heap.size w w2 := b1.trans (b2.mono (by omega))
  generalize w1.heap.size = b at *
  have G2 := hid g2
  have B2 := hid bb2
  clear g1 b1 g2 b2 bb2 hlt
  go_wp2_with fail
  refine (rkind_any q b 0 s 0 0 _ _ _ w2 h2 (Nat.zero_le _) hs h0).mono ?_
  rintro e w3 ⟨rfl, h3, hc3⟩
  have hb3 : Ch (fun i => i = b ∨ i = q) w2 w3 := hc3
  have g3 : w3.heap[w.heap.size]? = _ := (hc3.block _ (lt_of_heap G2.out) (by omega)).trans G2.out
  have C3 : Hid (Ch (fun i => i = b ∨ i = q) w w3) := hid ((Ch.of_below (S := fun i => i = b ∨ i = q) (B2.out.mono (Nat.le_refl _))).trans hc3)
  have h4 : RS (w3.alloc (.cells #[.int .i64 6, .string ⟨#[]⟩, .int .i64 0, .int .i64 0, .int .i64 0] 24)) q b s 1 0 0 := h3.below ((Below.refl _ _).alloc (Nat.le_refl _) _)
  have g4 : (w3.alloc (.cells #[.int .i64 6, .string ⟨#[]⟩, .int .i64 0, .int .i64 0, .int .i64 0] 24)).heap[w.heap.size]? = some (.cells #[.int .i64 0, .string ⟨#[]⟩, .int .i64 0, .int .i64 0, .int .i64 0] 24 (0, 0)) := heap_alloc_at g3
  have r4 : (w3.alloc (.cells #[.int .i64 6, .string ⟨#[]⟩, .int .i64 0, .int .i64 0, .int .i64 0] 24)).heap[w3.heap.size]? = some (.cells #[.int .i64 6, .string ⟨#[]⟩, .int .i64 0, .int .i64 0, .int .i64 0] 24 (0, 0)) := heap_new _ _
  have C4 : Hid (Ch (fun i => i = b ∨ i = q) w (w3.alloc (.cells #[.int .i64 6, .string ⟨#[]⟩, .int .i64 0, .int .i64 0, .int .i64 0] 24))) := hid (C3.out.alloc _)
  have hG : w3.heap.size ≠ q ∧ w3.heap.size ≠ b := ⟨by have := h3.ltq; omega, by have := h3.ltb; omega⟩
  have hwG : w.heap.size < w3.heap.size := lt_of_heap g3
  clear hc3 hb3 g3 C3 G2 B2 h2 h3
  go_wp2_with fail
  generalize w3.alloc (.cells #[.int .i64 6, .string ⟨#[]⟩, .int .i64 0, .int .i64 0, .int .i64 0] 24) = w4 at *
  generalize w3.heap.size = G at *
  have hlt := lt_of_heap r4
  have c0 : w4.cell? ⟨G, 0, none⟩ = some (.int .i64 6) := (cell_of r4).trans rfl
  have G4 := hid g4
  have R4 := hid r4
  have H4 := hid h4
  have HK : Hid (∀ y, Below w4.heap.size w4 y → y.cell? ⟨G, 0, none⟩ = some (.int .i64 6)) := hid (fun y hy => (hy.cell (p := ⟨G, 0, none⟩) hlt).trans c0)
  have M0 : Below w4.heap.size w4 w4 := Below.refl _ _
  clear g4 r4 h4
  go_cut [6, 7] (fun v6 v7 wc => ∃ L, v6 = .pointer (some ⟨L, 0, none⟩) ∧ v7 = .bool true ∧ Hid (Below w4.heap.size w4 wc) ∧ Hid (wc.heap[L]? = some (.cells #[fv 45, fv 46] 45 (0, 0))) ∧ Hid (w4.heap.size ≤ L))
  case first =>
    go_region_held3 (fun y => y.cell? ⟨G, 0, none⟩ = some (.int .i64 6)) (((with_reducible refine HK.out _ ?_); repeat (first | with_reducible exact M0 | with_reducible refine Below.drew ?_ | with_reducible refine Below.alloc ?_ (by simp <;> omega) _))) ((first | (go_at_call 19; refine (qtable_any _).mono ?_; rintro e w' ⟨rfl, rfl⟩) | (go_at_call 18; refine (qfind_6 _ _ (by first | exact heap_new' _ _ _ (by simp) | exact hd_drew (heap_new' _ _ _ (by simp)) | exact heap_alloc_at (heap_new' _ _ _ (by simp)) | exact hd_drew (heap_alloc_at (heap_new' _ _ _ (by simp))))).mono ?_; rintro e w' ⟨rfl, rfl⟩)))
    · go_wp2
      go_meet
      case rel =>
        refine ⟨_, rfl, rfl, ?_, hid (hd_drew (heap_new' _ _ _ (by simp))), hid (by omega)⟩
        refine hid ?_
        repeat (first | with_reducible exact M0 | with_reducible refine Below.drew ?_ | with_reducible refine Below.alloc ?_ (by simp <;> omega) _)
    · go_wp2
      go_meet
      case rel =>
        refine ⟨_, rfl, rfl, ?_, hid (hd_drew (heap_alloc_at (heap_new' _ _ _ (by simp)))), hid (by omega)⟩
        refine hid ?_
        repeat (first | with_reducible exact M0 | with_reducible refine Below.drew ?_ | with_reducible refine Below.alloc ?_ (by simp <;> omega) _)
    · go_wp2
      go_meet
      case rel =>
        refine ⟨_, rfl, rfl, ?_, hid (hd_drew (heap_alloc_at (heap_alloc_at (heap_alloc_at (heap_new _ _))))), hid (by omega)⟩
        refine hid ?_
        repeat (first | with_reducible exact M0 | with_reducible refine Below.drew ?_ | with_reducible refine Below.alloc ?_ (by simp <;> omega) _)
  case rest =>
    obtain ⟨L, rfl, rfl, HB, HL, HLE⟩ := hcut
    have hsz := HB.out.size
    have G5 : Hid (wc.heap[w.heap.size]? = some (.cells #[.int .i64 0, .string ⟨#[]⟩, .int .i64 0, .int .i64 0, .int .i64 0] 24 (0, 0))) := hid ((HB.out.block _ (lt_of_heap G4.out)).trans G4.out)
    have R5 : Hid (wc.heap[G]? = some (.cells #[.int .i64 6, .string ⟨#[]⟩, .int .i64 0, .int .i64 0, .int .i64 0] 24 (0, 0))) := hid ((HB.out.block _ hlt).trans R4.out)
    have h5 : RS wc q b s 1 0 0 := H4.out.below HB.out
    have C5 : Hid (Ch (fun i => i = b ∨ i = q) w wc) := hid (C4.out.trans (Ch.of_below HB.out))
    have hLq : L ≠ q ∧ L ≠ b ∧ L ≠ G := ⟨by have := H4.out.ltq; have := HLE.out; omega, by have := H4.out.ltb; have := HLE.out; omega, by have := HLE.out; omega⟩
    have hLw := lt_of_heap HL.out
    clear G4 R4 H4 C4 HB HK M0 c0 HLE
    go_wp2_with fail
    refine (rrefuse_any q b 0 s 1 0 6 false wc h5).mono ?_
    rintro e w6 ⟨rfl, h6, hc6⟩
    rw [rf_no] at h6
    have G6 : Hid (w6.heap[w.heap.size]? = _) := hid ((hc6.block _ (lt_of_heap G5.out) (by omega)).trans G5.out)
    have R6 : Hid (w6.heap[G]? = _) := hid ((hc6.block _ (lt_of_heap R5.out) (by omega)).trans R5.out)
    have L6 : Hid (w6.heap[L]? = _) := hid ((hc6.block _ (lt_of_heap HL.out) (by omega)).trans HL.out)
    have C6 := hid (C5.out.trans hc6)
    clear hc6 h5 G5 R5 HL C5
    go_wp2_with fail
    refine (rfailed_any q b 0 s 1 0 w6 h6).mono ?_
    rintro e w7 ⟨rfl, rfl⟩
    rw [fl_0]
    have y1 : w7.cell? ⟨L, 1, none⟩ = some (fv 46) := (cell_of L6.out).trans rfl
    go_wp2_with fail
    refine (q2r_any q b G s 6 1 w7 h6 R6.out).mono ?_
    rintro e w8 ⟨rfl, h8, R8, hc8⟩
    have G8 : Hid (w8.heap[w.heap.size]? = _) := hid ((hc8.block _ (lt_of_heap G6.out) (by omega)).trans G6.out)
    have C8 : Hid (Ch (fun i => i = b ∨ i = q ∨ i = G) w w8) := hid ((ch3 C6.out).trans hc8)
    have hk8 : 1 ≤ s.size := by exact hk1
    have HR8 := hid R8
    clear hc8 R8 R6 L6 G6 C6 h6 y1
    go_wp2_with fail
    have CD := hid (rdone17_any q b 0 s 1 0 w8 h8 hk8 hs)
    rw [hE] at CD
    refine CD.out.mono ?_
    rintro e w9 ⟨rfl, n1, rfl⟩
    have g9 : (w8.drewN n1).heap[w.heap.size]? = some (.cells #[.int .i64 0, .string ⟨#[]⟩, .int .i64 0, .int .i64 0, .int .i64 0] 24 (0, 0)) := G8.out
    have r9 : (w8.drewN n1).heap[G]? = some (.cells #[.int .i64 6, .string ⟨#[]⟩, .int .i64 0, .int .i64 0, .int .i64 0] 24 (0, 0)) := HR8.out
    have C9 : Hid (Ch (fun i => i = b ∨ i = q ∨ i = G) w (w8.drewN n1)) := hid (C8.out.drewN n1)
    clear CD h8 G8 HR8 C8
    generalize w8.drewN n1 = w9 at *
    have xx0 : w9.cell? ⟨w.heap.size, 0, none⟩ = some (.int .i64 0) := (cell_of g9).trans rfl
    have xx1 : w9.cell? ⟨w.heap.size, 1, none⟩ = some (.string ⟨#[]⟩) := (cell_of g9).trans rfl
    have xx2 : w9.cell? ⟨w.heap.size, 2, none⟩ = some (.int .i64 0) := (cell_of g9).trans rfl
    have xx3 : w9.cell? ⟨w.heap.size, 3, none⟩ = some (.int .i64 0) := (cell_of g9).trans rfl
    have xx4 : w9.cell? ⟨w.heap.size, 4, none⟩ = some (.int .i64 0) := (cell_of g9).trans rfl
    have zz0 := froz_of (i := 0) g9
    have zz1 := froz_of (i := 1) g9
    have zz2 := froz_of (i := 2) g9
    have zz3 := froz_of (i := 3) g9
    have zz4 := froz_of (i := 4) g9
    have yy0 : w9.cell? ⟨G, 0, none⟩ = some (.int .i64 6) := (cell_of r9).trans rfl
    have yy1 : w9.cell? ⟨G, 1, none⟩ = some (.string ⟨#[]⟩) := (cell_of r9).trans rfl
    have yy2 : w9.cell? ⟨G, 2, none⟩ = some (.int .i64 0) := (cell_of r9).trans rfl
    have yy3 : w9.cell? ⟨G, 3, none⟩ = some (.int .i64 0) := (cell_of r9).trans rfl
    have yy4 : w9.cell? ⟨G, 4, none⟩ = some (.int .i64 0) := (cell_of r9).trans rfl
    have G9 := hid g9
    clear g9 r9
    have B9 : Below w.heap.size w w9 := C9.out.below (Nat.le_refl _) (fun i hi => by rintro (h | h | h) <;> omega)
    have hr9 := lt_of_heap G9.out
    clear C9
    by_cases hE0 : E = 0
    · subst hE0
      have gF : (((((w9.setCell ⟨w.heap.size, 0, none⟩ (.int .i64 6)).setCell ⟨w.heap.size, 1, none⟩ (.string ⟨#[]⟩)).setCell ⟨w.heap.size, 2, none⟩ (.int .i64 0)).setCell ⟨w.heap.size, 3, none⟩ (.int .i64 0)).setCell ⟨w.heap.size, 4, none⟩ (.int .i64 0)).heap[w.heap.size]? = some (.cells #[.int .i64 6, .string ⟨#[]⟩, .int .i64 0, .int .i64 0, .int .i64 0] 24 (0, 0)) := (heap_set (heap_set (heap_set (heap_set (heap_set G9.out)))))
      have bF : Below w.heap.size w (((((w9.setCell ⟨w.heap.size, 0, none⟩ (.int .i64 6)).setCell ⟨w.heap.size, 1, none⟩ (.string ⟨#[]⟩)).setCell ⟨w.heap.size, 2, none⟩ (.int .i64 0)).setCell ⟨w.heap.size, 3, none⟩ (.int .i64 0)).setCell ⟨w.heap.size, 4, none⟩ (.int .i64 0)) := (((((B9.setCell (Nat.le_refl _) _).setCell (Nat.le_refl _) _).setCell (Nat.le_refl _) _).setCell (Nat.le_refl _) _).setCell (Nat.le_refl _) _)
      go_wp2_with fail
      generalize (((((w9.setCell ⟨w.heap.size, 0, none⟩ (.int .i64 6)).setCell ⟨w.heap.size, 1, none⟩ (.string ⟨#[]⟩)).setCell ⟨w.heap.size, 2, none⟩ (.int .i64 0)).setCell ⟨w.heap.size, 3, none⟩ (.int .i64 0)).setCell ⟨w.heap.size, 4, none⟩ (.int .i64 0)) = wF at *
      have ff0 : wF.cell? ⟨w.heap.size, 0, none⟩ = some (.int .i64 6) := (cell_of gF).trans rfl
      have ff1 : wF.cell? ⟨w.heap.size, 1, none⟩ = some (.string ⟨#[]⟩) := (cell_of gF).trans rfl
      have ff2 : wF.cell? ⟨w.heap.size, 2, none⟩ = some (.int .i64 0) := (cell_of gF).trans rfl
      have ff3 : wF.cell? ⟨w.heap.size, 3, none⟩ = some (.int .i64 0) := (cell_of gF).trans rfl
      have ff4 : wF.cell? ⟨w.heap.size, 4, none⟩ = some (.int .i64 0) := (cell_of gF).trans rfl
      exact bodyPost_ret (v := .tuple #[.agg #[.int .i64 6, .string ⟨#[]⟩, .int .i64 0, .int .i64 0, .int .i64 0], .int .i64 0]) (by simp [results, Tryz.results14, go_sem, ff0, ff1, ff2, ff3, ff4]) rfl ⟨rfl, bF⟩
    · have hne : ((E : Int) != 0) = true := by rw [bne_iff_ne]; omega
      have gF : (((((w9.setCell ⟨w.heap.size, 0, none⟩ (.int .i64 0)).setCell ⟨w.heap.size, 1, none⟩ (.string ⟨#[]⟩)).setCell ⟨w.heap.size, 2, none⟩ (.int .i64 0)).setCell ⟨w.heap.size, 3, none⟩ (.int .i64 0)).setCell ⟨w.heap.size, 4, none⟩ (.int .i64 0)).heap[w.heap.size]? = some (.cells #[.int .i64 0, .string ⟨#[]⟩, .int .i64 0, .int .i64 0, .int .i64 0] 24 (0, 0)) := (heap_set (heap_set (heap_set (heap_set (heap_set G9.out)))))
      have bF : Below w.heap.size w (((((w9.setCell ⟨w.heap.size, 0, none⟩ (.int .i64 0)).setCell ⟨w.heap.size, 1, none⟩ (.string ⟨#[]⟩)).setCell ⟨w.heap.size, 2, none⟩ (.int .i64 0)).setCell ⟨w.heap.size, 3, none⟩ (.int .i64 0)).setCell ⟨w.heap.size, 4, none⟩ (.int .i64 0)) := (((((B9.setCell (Nat.le_refl _) _).setCell (Nat.le_refl _) _).setCell (Nat.le_refl _) _).setCell (Nat.le_refl _) _).setCell (Nat.le_refl _) _)
      go_wp2_with fail
      generalize (((((w9.setCell ⟨w.heap.size, 0, none⟩ (.int .i64 0)).setCell ⟨w.heap.size, 1, none⟩ (.string ⟨#[]⟩)).setCell ⟨w.heap.size, 2, none⟩ (.int .i64 0)).setCell ⟨w.heap.size, 3, none⟩ (.int .i64 0)).setCell ⟨w.heap.size, 4, none⟩ (.int .i64 0)) = wF at *
      have ff0 : wF.cell? ⟨w.heap.size, 0, none⟩ = some (.int .i64 0) := (cell_of gF).trans rfl
      have ff1 : wF.cell? ⟨w.heap.size, 1, none⟩ = some (.string ⟨#[]⟩) := (cell_of gF).trans rfl
      have ff2 : wF.cell? ⟨w.heap.size, 2, none⟩ = some (.int .i64 0) := (cell_of gF).trans rfl
      have ff3 : wF.cell? ⟨w.heap.size, 3, none⟩ = some (.int .i64 0) := (cell_of gF).trans rfl
      have ff4 : wF.cell? ⟨w.heap.size, 4, none⟩ = some (.int .i64 0) := (cell_of gF).trans rfl
      exact bodyPost_ret (v := .tuple #[.agg #[.int .i64 0, .string ⟨#[]⟩, .int .i64 0, .int .i64 0, .int .i64 0], .int .i64 E]) (by simp [results, Tryz.results14, go_sem, ff0, ff1, ff2, ff3, ff4]) rfl ⟨by rw [ra2_no hE0], bF⟩
set_option maxHeartbeats 1000000 in
set_option maxRecDepth 20000 in
theorem rask_no (s : ByteArray) (v : Nat) (w : World) (hs : s.size ≤ 9223372036854775807) (h0 : fx 1 s 0 0 = (v, 1, 0)) (hv : ¬ (1 ≤ (v : Int) ∧ (v : Int) ≤ 6)) :
    Calls Tryz.prog 14 #[.string s] w fun e w' => e = .returned (.tuple #[.agg #[.int .i64 0, .string ⟨#[]⟩, .int .i64 0, .int .i64 0, .int .i64 0], .int .i64 6]) ∧ Below w.heap.size w w' := by
  have hk1 := fxle (Nat.zero_le _) h0
  have g1 : (w.alloc (.cells #[.int .i64 0, .string ⟨#[]⟩, .int .i64 0, .int .i64 0, .int .i64 0] 24)).heap[w.heap.size]? = some (.cells #[.int .i64 0, .string ⟨#[]⟩, .int .i64 0, .int .i64 0, .int .i64 0] 24 (0, 0)) := heap_new _ _
  have b1 : Below w.heap.size w (w.alloc (.cells #[.int .i64 0, .string ⟨#[]⟩, .int .i64 0, .int .i64 0, .int .i64 0] 24)) := (Below.refl _ _).alloc (Nat.le_refl _) _
  go_enter Tryz.func14, Tryz.ntmps14
  go_wp2_with fail
  generalize w.alloc (.cells #[.int .i64 0, .string ⟨#[]⟩, .int .i64 0, .int .i64 0, .int .i64 0] 24) = w1 at *
  have hlt := lt_of_heap g1
  refine (rnew_any s w1).mono ?_
  rintro e w2 ⟨rfl, h2, b2⟩
  have hqz : w.heap.size < w1.heap.size + 1 ∧ w.heap.size < w1.heap.size := by omega
  generalize w1.heap.size + 1 = q at *
  have g2 : w2.heap[w.heap.size]? = _ := (b2.block _ hlt).trans g1
  have bb2 : Below w.heap.size w w2 := b1.trans (b2.mono (by omega))
  generalize w1.heap.size = b at *
  have G2 := hid g2
  have B2 := hid bb2
  clear g1 b1 g2 b2 bb2 hlt
  go_wp2_with fail
  refine (rkind_any q b 0 s 0 0 _ _ _ w2 h2 (Nat.zero_le _) hs h0).mono ?_
  rintro e w3 ⟨rfl, h3, hc3⟩
  have hb3 : Ch (fun i => i = b ∨ i = q) w2 w3 := hc3
  have g3 : w3.heap[w.heap.size]? = _ := (hc3.block _ (lt_of_heap G2.out) (by omega)).trans G2.out
  have C3 : Hid (Ch (fun i => i = b ∨ i = q) w w3) := hid ((Ch.of_below (S := fun i => i = b ∨ i = q) (B2.out.mono (Nat.le_refl _))).trans hc3)
  have h4 : RS (w3.alloc (.cells #[.int .i64 v, .string ⟨#[]⟩, .int .i64 0, .int .i64 0, .int .i64 0] 24)) q b s 1 0 0 := h3.below ((Below.refl _ _).alloc (Nat.le_refl _) _)
  have g4 : (w3.alloc (.cells #[.int .i64 v, .string ⟨#[]⟩, .int .i64 0, .int .i64 0, .int .i64 0] 24)).heap[w.heap.size]? = some (.cells #[.int .i64 0, .string ⟨#[]⟩, .int .i64 0, .int .i64 0, .int .i64 0] 24 (0, 0)) := heap_alloc_at g3
  have r4 : (w3.alloc (.cells #[.int .i64 v, .string ⟨#[]⟩, .int .i64 0, .int .i64 0, .int .i64 0] 24)).heap[w3.heap.size]? = some (.cells #[.int .i64 v, .string ⟨#[]⟩, .int .i64 0, .int .i64 0, .int .i64 0] 24 (0, 0)) := heap_new _ _
  have C4 : Hid (Ch (fun i => i = b ∨ i = q) w (w3.alloc (.cells #[.int .i64 v, .string ⟨#[]⟩, .int .i64 0, .int .i64 0, .int .i64 0] 24))) := hid (C3.out.alloc _)
  have hG : w3.heap.size ≠ q ∧ w3.heap.size ≠ b := ⟨by have := h3.ltq; omega, by have := h3.ltb; omega⟩
  have hwG : w.heap.size < w3.heap.size := lt_of_heap g3
  clear hc3 hb3 g3 C3 G2 B2 h2 h3
  go_wp2_with fail
  generalize w3.alloc (.cells #[.int .i64 v, .string ⟨#[]⟩, .int .i64 0, .int .i64 0, .int .i64 0] 24) = w4 at *
  generalize w3.heap.size = G at *
  have hlt := lt_of_heap r4
  have c0 : w4.cell? ⟨G, 0, none⟩ = some (.int .i64 v) := (cell_of r4).trans rfl
  have G4 := hid g4
  have R4 := hid r4
  have H4 := hid h4
  have HK : Hid (∀ y, Below w4.heap.size w4 y → y.cell? ⟨G, 0, none⟩ = some (.int .i64 v)) := hid (fun y hy => (hy.cell (p := ⟨G, 0, none⟩) hlt).trans c0)
  have M0 : Below w4.heap.size w4 w4 := Below.refl _ _
  clear g4 r4 h4
  go_cut [6, 7] (fun v6 v7 wc => ∃ L, v6 = .pointer (some ⟨L, 0, none⟩) ∧ v7 = .bool false ∧ Hid (Below w4.heap.size w4 wc) ∧ Hid (wc.heap[L]? = some (.cells #[.nilFunc, .nilFunc] 45 (0, 0))) ∧ Hid (w4.heap.size ≤ L))
  case first =>
    go_region_held3 (fun y => y.cell? ⟨G, 0, none⟩ = some (.int .i64 v)) (((with_reducible refine HK.out _ ?_); repeat (first | with_reducible exact M0 | with_reducible refine Below.drew ?_ | with_reducible refine Below.alloc ?_ (by simp <;> omega) _))) ((first | (go_at_call 19; refine (qtable_any _).mono ?_; rintro e w' ⟨rfl, rfl⟩) | (go_at_call 18; refine (qfind_no _ _ _ hv).mono ?_; rintro e w' ⟨rfl, rfl⟩)))
    · go_wp2
      go_meet
      case rel =>
        refine ⟨_, rfl, rfl, ?_, hid (hd_drew (heap_new' _ _ _ (by simp))), hid (by omega)⟩
        refine hid ?_
        repeat (first | with_reducible exact M0 | with_reducible refine Below.drew ?_ | with_reducible refine Below.alloc ?_ (by simp <;> omega) _)
    · go_wp2
      go_meet
      case rel =>
        refine ⟨_, rfl, rfl, ?_, hid (hd_drew (heap_alloc_at (heap_new' _ _ _ (by simp)))), hid (by omega)⟩
        refine hid ?_
        repeat (first | with_reducible exact M0 | with_reducible refine Below.drew ?_ | with_reducible refine Below.alloc ?_ (by simp <;> omega) _)
    · go_wp2
      go_meet
      case rel =>
        refine ⟨_, rfl, rfl, ?_, hid (hd_drew (heap_alloc_at (heap_alloc_at (heap_alloc_at (heap_new _ _))))), hid (by omega)⟩
        refine hid ?_
        repeat (first | with_reducible exact M0 | with_reducible refine Below.drew ?_ | with_reducible refine Below.alloc ?_ (by simp <;> omega) _)
  case rest =>
    obtain ⟨L, rfl, rfl, HB, HL, HLE⟩ := hcut
    have hsz := HB.out.size
    have G5 : Hid (wc.heap[w.heap.size]? = some (.cells #[.int .i64 0, .string ⟨#[]⟩, .int .i64 0, .int .i64 0, .int .i64 0] 24 (0, 0))) := hid ((HB.out.block _ (lt_of_heap G4.out)).trans G4.out)
    have R5 : Hid (wc.heap[G]? = some (.cells #[.int .i64 v, .string ⟨#[]⟩, .int .i64 0, .int .i64 0, .int .i64 0] 24 (0, 0))) := hid ((HB.out.block _ hlt).trans R4.out)
    have h5 : RS wc q b s 1 0 0 := H4.out.below HB.out
    have C5 : Hid (Ch (fun i => i = b ∨ i = q) w wc) := hid (C4.out.trans (Ch.of_below HB.out))
    have hLq : L ≠ q ∧ L ≠ b ∧ L ≠ G := ⟨by have := H4.out.ltq; have := HLE.out; omega, by have := H4.out.ltb; have := HLE.out; omega, by have := HLE.out; omega⟩
    have hLw := lt_of_heap HL.out
    clear G4 R4 H4 C4 HB HK M0 c0 HLE
    go_wp2_with fail
    have HRF := rrefuse_any q b 0 s 1 0 6 true wc h5
    rw [show rf true 6 0 0 = 6 from by decide] at HRF
    refine HRF.mono ?_
    rintro e w6 ⟨rfl, h6, hc6⟩
    have G6 : Hid (w6.heap[w.heap.size]? = _) := hid ((hc6.block _ (lt_of_heap G5.out) (by omega)).trans G5.out)
    have C6 := hid (C5.out.trans hc6)
    clear hc6 h5 G5 R5 HL C5 HRF
    go_wp2_with fail
    refine (rfailed_any q b 6 s 1 0 w6 h6).mono ?_
    rintro e w7 ⟨rfl, rfl⟩
    rw [show fl 6 0 = 6 from by decide]
    go_wp2_with fail
    have CD := hid (rdone17_any q b 6 s 1 0 w7 h6 hk1 hs)
    have hE : fl 6 (dq s 1 0) = 6 := by rfl
    rw [hE] at CD
    refine CD.out.mono ?_
    rintro e w9 ⟨rfl, n1, rfl⟩
    have g9 : (w7.drewN n1).heap[w.heap.size]? = some (.cells #[.int .i64 0, .string ⟨#[]⟩, .int .i64 0, .int .i64 0, .int .i64 0] 24 (0, 0)) := G6.out
    have C9 : Hid (Ch (fun i => i = b ∨ i = q) w (w7.drewN n1)) := hid (C6.out.drewN n1)
    clear CD h6 G6 C6
    generalize w7.drewN n1 = w9 at *
    have xx0 : w9.cell? ⟨w.heap.size, 0, none⟩ = some (.int .i64 0) := (cell_of g9).trans rfl
    have xx1 : w9.cell? ⟨w.heap.size, 1, none⟩ = some (.string ⟨#[]⟩) := (cell_of g9).trans rfl
    have xx2 : w9.cell? ⟨w.heap.size, 2, none⟩ = some (.int .i64 0) := (cell_of g9).trans rfl
    have xx3 : w9.cell? ⟨w.heap.size, 3, none⟩ = some (.int .i64 0) := (cell_of g9).trans rfl
    have xx4 : w9.cell? ⟨w.heap.size, 4, none⟩ = some (.int .i64 0) := (cell_of g9).trans rfl
    have zz0 := froz_of (i := 0) g9
    have zz1 := froz_of (i := 1) g9
    have zz2 := froz_of (i := 2) g9
    have zz3 := froz_of (i := 3) g9
    have zz4 := froz_of (i := 4) g9
    have G9 := hid g9
    clear g9
    have B9 : Below w.heap.size w w9 := C9.out.below (Nat.le_refl _) (fun i hi => by rintro (h | h) <;> omega)
    have hr9 := lt_of_heap G9.out
    clear C9
    have gF : (((((w9.setCell ⟨w.heap.size, 0, none⟩ (.int .i64 0)).setCell ⟨w.heap.size, 1, none⟩ (.string ⟨#[]⟩)).setCell ⟨w.heap.size, 2, none⟩ (.int .i64 0)).setCell ⟨w.heap.size, 3, none⟩ (.int .i64 0)).setCell ⟨w.heap.size, 4, none⟩ (.int .i64 0)).heap[w.heap.size]? = some (.cells #[.int .i64 0, .string ⟨#[]⟩, .int .i64 0, .int .i64 0, .int .i64 0] 24 (0, 0)) := (heap_set (heap_set (heap_set (heap_set (heap_set G9.out)))))
    have bF : Below w.heap.size w (((((w9.setCell ⟨w.heap.size, 0, none⟩ (.int .i64 0)).setCell ⟨w.heap.size, 1, none⟩ (.string ⟨#[]⟩)).setCell ⟨w.heap.size, 2, none⟩ (.int .i64 0)).setCell ⟨w.heap.size, 3, none⟩ (.int .i64 0)).setCell ⟨w.heap.size, 4, none⟩ (.int .i64 0)) := (((((B9.setCell (Nat.le_refl _) _).setCell (Nat.le_refl _) _).setCell (Nat.le_refl _) _).setCell (Nat.le_refl _) _).setCell (Nat.le_refl _) _)
    go_wp2_with fail
    generalize (((((w9.setCell ⟨w.heap.size, 0, none⟩ (.int .i64 0)).setCell ⟨w.heap.size, 1, none⟩ (.string ⟨#[]⟩)).setCell ⟨w.heap.size, 2, none⟩ (.int .i64 0)).setCell ⟨w.heap.size, 3, none⟩ (.int .i64 0)).setCell ⟨w.heap.size, 4, none⟩ (.int .i64 0)) = wF at *
    have ff0 : wF.cell? ⟨w.heap.size, 0, none⟩ = some (.int .i64 0) := (cell_of gF).trans rfl
    have ff1 : wF.cell? ⟨w.heap.size, 1, none⟩ = some (.string ⟨#[]⟩) := (cell_of gF).trans rfl
    have ff2 : wF.cell? ⟨w.heap.size, 2, none⟩ = some (.int .i64 0) := (cell_of gF).trans rfl
    have ff3 : wF.cell? ⟨w.heap.size, 3, none⟩ = some (.int .i64 0) := (cell_of gF).trans rfl
    have ff4 : wF.cell? ⟨w.heap.size, 4, none⟩ = some (.int .i64 0) := (cell_of gF).trans rfl
    exact bodyPost_ret (v := .tuple #[.agg #[.int .i64 0, .string ⟨#[]⟩, .int .i64 0, .int .i64 0, .int .i64 0], .int .i64 6]) (by simp [results, Tryz.results14, go_sem, ff0, ff1, ff2, ff3, ff4]) rfl ⟨rfl, bF⟩
set_option maxHeartbeats 1000000 in
set_option maxRecDepth 20000 in
theorem rask_short (s : ByteArray)  (w : World) (hs : s.size ≤ 9223372036854775807) (h0 : fx 1 s 0 0 = (0, 0, 20)) :
    Calls Tryz.prog 14 #[.string s] w fun e w' => e = .returned (.tuple #[.agg #[.int .i64 0, .string ⟨#[]⟩, .int .i64 0, .int .i64 0, .int .i64 0], .int .i64 20]) ∧ Below w.heap.size w w' := by
  have hk1 := fxle (Nat.zero_le _) h0
  have g1 : (w.alloc (.cells #[.int .i64 0, .string ⟨#[]⟩, .int .i64 0, .int .i64 0, .int .i64 0] 24)).heap[w.heap.size]? = some (.cells #[.int .i64 0, .string ⟨#[]⟩, .int .i64 0, .int .i64 0, .int .i64 0] 24 (0, 0)) := heap_new _ _
  have b1 : Below w.heap.size w (w.alloc (.cells #[.int .i64 0, .string ⟨#[]⟩, .int .i64 0, .int .i64 0, .int .i64 0] 24)) := (Below.refl _ _).alloc (Nat.le_refl _) _
  go_enter Tryz.func14, Tryz.ntmps14
  go_wp2_with fail
  generalize w.alloc (.cells #[.int .i64 0, .string ⟨#[]⟩, .int .i64 0, .int .i64 0, .int .i64 0] 24) = w1 at *
  have hlt := lt_of_heap g1
  refine (rnew_any s w1).mono ?_
  rintro e w2 ⟨rfl, h2, b2⟩
  have hqz : w.heap.size < w1.heap.size + 1 ∧ w.heap.size < w1.heap.size := by omega
  generalize w1.heap.size + 1 = q at *
  have g2 : w2.heap[w.heap.size]? = _ := (b2.block _ hlt).trans g1
  have bb2 : Below w.heap.size w w2 := b1.trans (b2.mono (by omega))
  generalize w1.heap.size = b at *
  have G2 := hid g2
  have B2 := hid bb2
  clear g1 b1 g2 b2 bb2 hlt
  go_wp2_with fail
  refine (rkind_any q b 0 s 0 0 _ _ _ w2 h2 (Nat.zero_le _) hs h0).mono ?_
  rintro e w3 ⟨rfl, h3, hc3⟩
  have hb3 : Ch (fun i => i = b ∨ i = q) w2 w3 := hc3
  have g3 : w3.heap[w.heap.size]? = _ := (hc3.block _ (lt_of_heap G2.out) (by omega)).trans G2.out
  have C3 : Hid (Ch (fun i => i = b ∨ i = q) w w3) := hid ((Ch.of_below (S := fun i => i = b ∨ i = q) (B2.out.mono (Nat.le_refl _))).trans hc3)
  have h4 : RS (w3.alloc (.cells #[.int .i64 0, .string ⟨#[]⟩, .int .i64 0, .int .i64 0, .int .i64 0] 24)) q b s 0 20 0 := h3.below ((Below.refl _ _).alloc (Nat.le_refl _) _)
  have g4 : (w3.alloc (.cells #[.int .i64 0, .string ⟨#[]⟩, .int .i64 0, .int .i64 0, .int .i64 0] 24)).heap[w.heap.size]? = some (.cells #[.int .i64 0, .string ⟨#[]⟩, .int .i64 0, .int .i64 0, .int .i64 0] 24 (0, 0)) := heap_alloc_at g3
  have r4 : (w3.alloc (.cells #[.int .i64 0, .string ⟨#[]⟩, .int .i64 0, .int .i64 0, .int .i64 0] 24)).heap[w3.heap.size]? = some (.cells #[.int .i64 0, .string ⟨#[]⟩, .int .i64 0, .int .i64 0, .int .i64 0] 24 (0, 0)) := heap_new _ _
  have C4 : Hid (Ch (fun i => i = b ∨ i = q) w (w3.alloc (.cells #[.int .i64 0, .string ⟨#[]⟩, .int .i64 0, .int .i64 0, .int .i64 0] 24))) := hid (C3.out.alloc _)
  have hG : w3.heap.size ≠ q ∧ w3.heap.size ≠ b := ⟨by have := h3.ltq; omega, by have := h3.ltb; omega⟩
  have hwG : w.heap.size < w3.heap.size := lt_of_heap g3
  clear hc3 hb3 g3 C3 G2 B2 h2 h3
  go_wp2_with fail
  generalize w3.alloc (.cells #[.int .i64 0, .string ⟨#[]⟩, .int .i64 0, .int .i64 0, .int .i64 0] 24) = w4 at *
  generalize w3.heap.size = G at *
  have hlt := lt_of_heap r4
  have c0 : w4.cell? ⟨G, 0, none⟩ = some (.int .i64 0) := (cell_of r4).trans rfl
  have G4 := hid g4
  have R4 := hid r4
  have H4 := hid h4
  have HK : Hid (∀ y, Below w4.heap.size w4 y → y.cell? ⟨G, 0, none⟩ = some (.int .i64 0)) := hid (fun y hy => (hy.cell (p := ⟨G, 0, none⟩) hlt).trans c0)
  have M0 : Below w4.heap.size w4 w4 := Below.refl _ _
  clear g4 r4 h4
  go_cut [6, 7] (fun v6 v7 wc => ∃ L, v6 = .pointer (some ⟨L, 0, none⟩) ∧ v7 = .bool false ∧ Hid (Below w4.heap.size w4 wc) ∧ Hid (wc.heap[L]? = some (.cells #[.nilFunc, .nilFunc] 45 (0, 0))) ∧ Hid (w4.heap.size ≤ L))
  case first =>
    go_region_held3 (fun y => y.cell? ⟨G, 0, none⟩ = some (.int .i64 0)) (((with_reducible refine HK.out _ ?_); repeat (first | with_reducible exact M0 | with_reducible refine Below.drew ?_ | with_reducible refine Below.alloc ?_ (by simp <;> omega) _))) ((first | (go_at_call 19; refine (qtable_any _).mono ?_; rintro e w' ⟨rfl, rfl⟩) | (go_at_call 18; refine (qfind_no _ _ _ (by omega)).mono ?_; rintro e w' ⟨rfl, rfl⟩)))
    · go_wp2
      go_meet
      case rel =>
        refine ⟨_, rfl, rfl, ?_, hid (hd_drew (heap_new' _ _ _ (by simp))), hid (by omega)⟩
        refine hid ?_
        repeat (first | with_reducible exact M0 | with_reducible refine Below.drew ?_ | with_reducible refine Below.alloc ?_ (by simp <;> omega) _)
    · go_wp2
      go_meet
      case rel =>
        refine ⟨_, rfl, rfl, ?_, hid (hd_drew (heap_alloc_at (heap_new' _ _ _ (by simp)))), hid (by omega)⟩
        refine hid ?_
        repeat (first | with_reducible exact M0 | with_reducible refine Below.drew ?_ | with_reducible refine Below.alloc ?_ (by simp <;> omega) _)
    · go_wp2
      go_meet
      case rel =>
        refine ⟨_, rfl, rfl, ?_, hid (hd_drew (heap_alloc_at (heap_alloc_at (heap_alloc_at (heap_new _ _))))), hid (by omega)⟩
        refine hid ?_
        repeat (first | with_reducible exact M0 | with_reducible refine Below.drew ?_ | with_reducible refine Below.alloc ?_ (by simp <;> omega) _)
  case rest =>
    obtain ⟨L, rfl, rfl, HB, HL, HLE⟩ := hcut
    have hsz := HB.out.size
    have G5 : Hid (wc.heap[w.heap.size]? = some (.cells #[.int .i64 0, .string ⟨#[]⟩, .int .i64 0, .int .i64 0, .int .i64 0] 24 (0, 0))) := hid ((HB.out.block _ (lt_of_heap G4.out)).trans G4.out)
    have R5 : Hid (wc.heap[G]? = some (.cells #[.int .i64 0, .string ⟨#[]⟩, .int .i64 0, .int .i64 0, .int .i64 0] 24 (0, 0))) := hid ((HB.out.block _ hlt).trans R4.out)
    have h5 : RS wc q b s 0 20 0 := H4.out.below HB.out
    have C5 : Hid (Ch (fun i => i = b ∨ i = q) w wc) := hid (C4.out.trans (Ch.of_below HB.out))
    have hLq : L ≠ q ∧ L ≠ b ∧ L ≠ G := ⟨by have := H4.out.ltq; have := HLE.out; omega, by have := H4.out.ltb; have := HLE.out; omega, by have := HLE.out; omega⟩
    have hLw := lt_of_heap HL.out
    clear G4 R4 H4 C4 HB HK M0 c0 HLE
    go_wp2_with fail
    have HRF := rrefuse_any q b 0 s 0 20 6 true wc h5
    rw [show rf true 6 0 20 = 0 from by decide] at HRF
    refine HRF.mono ?_
    rintro e w6 ⟨rfl, h6, hc6⟩
    have G6 : Hid (w6.heap[w.heap.size]? = _) := hid ((hc6.block _ (lt_of_heap G5.out) (by omega)).trans G5.out)
    have C6 := hid (C5.out.trans hc6)
    clear hc6 h5 G5 R5 HL C5 HRF
    go_wp2_with fail
    refine (rfailed_any q b 0 s 0 20 w6 h6).mono ?_
    rintro e w7 ⟨rfl, rfl⟩
    rw [show fl 0 20 = 20 from by decide]
    go_wp2_with fail
    have CD := hid (rdone17_any q b 0 s 0 20 w7 h6 hk1 hs)
    have hE : fl 0 (dq s 0 20) = 20 := by unfold dq; rfl
    rw [hE] at CD
    refine CD.out.mono ?_
    rintro e w9 ⟨rfl, n1, rfl⟩
    have g9 : (w7.drewN n1).heap[w.heap.size]? = some (.cells #[.int .i64 0, .string ⟨#[]⟩, .int .i64 0, .int .i64 0, .int .i64 0] 24 (0, 0)) := G6.out
    have C9 : Hid (Ch (fun i => i = b ∨ i = q) w (w7.drewN n1)) := hid (C6.out.drewN n1)
    clear CD h6 G6 C6
    generalize w7.drewN n1 = w9 at *
    have xx0 : w9.cell? ⟨w.heap.size, 0, none⟩ = some (.int .i64 0) := (cell_of g9).trans rfl
    have xx1 : w9.cell? ⟨w.heap.size, 1, none⟩ = some (.string ⟨#[]⟩) := (cell_of g9).trans rfl
    have xx2 : w9.cell? ⟨w.heap.size, 2, none⟩ = some (.int .i64 0) := (cell_of g9).trans rfl
    have xx3 : w9.cell? ⟨w.heap.size, 3, none⟩ = some (.int .i64 0) := (cell_of g9).trans rfl
    have xx4 : w9.cell? ⟨w.heap.size, 4, none⟩ = some (.int .i64 0) := (cell_of g9).trans rfl
    have zz0 := froz_of (i := 0) g9
    have zz1 := froz_of (i := 1) g9
    have zz2 := froz_of (i := 2) g9
    have zz3 := froz_of (i := 3) g9
    have zz4 := froz_of (i := 4) g9
    have G9 := hid g9
    clear g9
    have B9 : Below w.heap.size w w9 := C9.out.below (Nat.le_refl _) (fun i hi => by rintro (h | h) <;> omega)
    have hr9 := lt_of_heap G9.out
    clear C9
    have gF : (((((w9.setCell ⟨w.heap.size, 0, none⟩ (.int .i64 0)).setCell ⟨w.heap.size, 1, none⟩ (.string ⟨#[]⟩)).setCell ⟨w.heap.size, 2, none⟩ (.int .i64 0)).setCell ⟨w.heap.size, 3, none⟩ (.int .i64 0)).setCell ⟨w.heap.size, 4, none⟩ (.int .i64 0)).heap[w.heap.size]? = some (.cells #[.int .i64 0, .string ⟨#[]⟩, .int .i64 0, .int .i64 0, .int .i64 0] 24 (0, 0)) := (heap_set (heap_set (heap_set (heap_set (heap_set G9.out)))))
    have bF : Below w.heap.size w (((((w9.setCell ⟨w.heap.size, 0, none⟩ (.int .i64 0)).setCell ⟨w.heap.size, 1, none⟩ (.string ⟨#[]⟩)).setCell ⟨w.heap.size, 2, none⟩ (.int .i64 0)).setCell ⟨w.heap.size, 3, none⟩ (.int .i64 0)).setCell ⟨w.heap.size, 4, none⟩ (.int .i64 0)) := (((((B9.setCell (Nat.le_refl _) _).setCell (Nat.le_refl _) _).setCell (Nat.le_refl _) _).setCell (Nat.le_refl _) _).setCell (Nat.le_refl _) _)
    go_wp2_with fail
    generalize (((((w9.setCell ⟨w.heap.size, 0, none⟩ (.int .i64 0)).setCell ⟨w.heap.size, 1, none⟩ (.string ⟨#[]⟩)).setCell ⟨w.heap.size, 2, none⟩ (.int .i64 0)).setCell ⟨w.heap.size, 3, none⟩ (.int .i64 0)).setCell ⟨w.heap.size, 4, none⟩ (.int .i64 0)) = wF at *
    have ff0 : wF.cell? ⟨w.heap.size, 0, none⟩ = some (.int .i64 0) := (cell_of gF).trans rfl
    have ff1 : wF.cell? ⟨w.heap.size, 1, none⟩ = some (.string ⟨#[]⟩) := (cell_of gF).trans rfl
    have ff2 : wF.cell? ⟨w.heap.size, 2, none⟩ = some (.int .i64 0) := (cell_of gF).trans rfl
    have ff3 : wF.cell? ⟨w.heap.size, 3, none⟩ = some (.int .i64 0) := (cell_of gF).trans rfl
    have ff4 : wF.cell? ⟨w.heap.size, 4, none⟩ = some (.int .i64 0) := (cell_of gF).trans rfl
    exact bodyPost_ret (v := .tuple #[.agg #[.int .i64 0, .string ⟨#[]⟩, .int .i64 0, .int .i64 0, .int .i64 0], .int .i64 20]) (by simp [results, Tryz.results14, go_sem, ff0, ff1, ff2, ff3, ff4]) rfl ⟨rfl, bF⟩
end Go.Proofs.YtgdaaohlongmlaaGreat
