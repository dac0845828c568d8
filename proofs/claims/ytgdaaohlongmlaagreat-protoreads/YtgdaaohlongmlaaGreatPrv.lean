/- A reply is read: ReadReply, of a request that could not be read. -/
import Derived.Test.YtgdaaohlongmlaaGreatPrr
namespace Go.Proofs.YtgdaaohlongmlaaGreat
open Go.RowKit
set_option maxHeartbeats 1000000 in
set_option maxRecDepth 20000 in
theorem rrep_zneg (s : ByteArray) (x k2 : Nat) (R : Int) (E : Nat) (w : World) (hs : s.size ≤ 9223372036854775807) (h0 : fx 1 s 0 0 = (0, 1, 0)) (h1 : fx 4 s 1 0 = (x, k2, 0)) (hR : wrap32 (x : Int) = R) (hr : R < 0) (hE : fl 1 (dq s k2 0) = E) :
    Calls Tryz.prog 16 #[.string s] w fun e w' => e = .returned (ra2 #[.int .i64 0, .int .i64 R, .bool false, .int .i64 0, .int .i64 0, .string ⟨#[]⟩] #[.int .i64 0, .int .i64 0, .bool false, .int .i64 0, .int .i64 0, .string ⟨#[]⟩] E) ∧ Below w.heap.size w w' := by
  have hk1 := fxle (Nat.zero_le _) h0
  have hk2 := fxle hk1 h1
  have hRb : ((R : Int) == 0) = false := by rw [beq_eq_false_iff_ne]; omega
  have g1 : (w.alloc (.cells #[.int .i64 0, .int .i64 0, .bool false, .int .i64 0, .int .i64 0, .string ⟨#[]⟩] 27)).heap[w.heap.size]? = some (.cells #[.int .i64 0, .int .i64 0, .bool false, .int .i64 0, .int .i64 0, .string ⟨#[]⟩] 27 (0, 0)) := heap_new _ _
  have b1 : Below w.heap.size w (w.alloc (.cells #[.int .i64 0, .int .i64 0, .bool false, .int .i64 0, .int .i64 0, .string ⟨#[]⟩] 27)) := (Below.refl _ _).alloc (Nat.le_refl _) _
  go_enter Tryz.func16, Tryz.ntmps16
  go_wp2_with fail
  generalize w.alloc (.cells #[.int .i64 0, .int .i64 0, .bool false, .int .i64 0, .int .i64 0, .string ⟨#[]⟩] 27) = w1 at *
  have hlt := lt_of_heap g1
  refine (rnew_any s w1).mono ?_
  rintro e w2 ⟨rfl, h2, b2⟩
  have hqz : w.heap.size < w1.heap.size + 1 ∧ w.heap.size < w1.heap.size := by omega
  generalize w1.heap.size + 1 = q at *
  have g2 : w2.heap[w.heap.size]? = _ := (b2.block _ hlt).trans g1
  have bb2 : Below w.heap.size w w2 := b1.trans (b2.mono (by omega))
  generalize w1.heap.size = b at *
  have G2 := hid g2
  have B2 := hid bb2
  clear g1 b1 g2 b2 bb2 hlt
  go_wp2_with fail
  refine (rkind_any q b 0 s 0 0 _ _ _ w2 h2 (Nat.zero_le _) hs h0).mono ?_
  rintro e w3 ⟨rfl, h3, hc3⟩
  have g3 : w3.heap[w.heap.size]? = _ := (hc3.block _ (lt_of_heap G2.out) (by omega)).trans G2.out
  have C3 : Hid (Ch (fun i => i = b ∨ i = q) w w3) := hid ((Ch.of_below (S := fun i => i = b ∨ i = q) (B2.out.mono (Nat.le_refl _))).trans hc3)
  have h4 : RS (w3.alloc (.cells #[.int .i64 0, .int .i64 0, .bool false, .int .i64 0, .int .i64 0, .string ⟨#[]⟩] 27)) q b s 1 0 0 := h3.below ((Below.refl _ _).alloc (Nat.le_refl _) _)
  have g4 : (w3.alloc (.cells #[.int .i64 0, .int .i64 0, .bool false, .int .i64 0, .int .i64 0, .string ⟨#[]⟩] 27)).heap[w.heap.size]? = some (.cells #[.int .i64 0, .int .i64 0, .bool false, .int .i64 0, .int .i64 0, .string ⟨#[]⟩] 27 (0, 0)) := heap_alloc_at g3
  have r4 : (w3.alloc (.cells #[.int .i64 0, .int .i64 0, .bool false, .int .i64 0, .int .i64 0, .string ⟨#[]⟩] 27)).heap[w3.heap.size]? = some (.cells #[.int .i64 0, .int .i64 0, .bool false, .int .i64 0, .int .i64 0, .string ⟨#[]⟩] 27 (0, 0)) := heap_new _ _
  have C4 : Hid (Ch (fun i => i = b ∨ i = q) w (w3.alloc (.cells #[.int .i64 0, .int .i64 0, .bool false, .int .i64 0, .int .i64 0, .string ⟨#[]⟩] 27))) := hid (C3.out.alloc _)
  have hG : w3.heap.size ≠ q ∧ w3.heap.size ≠ b := ⟨by have := h3.ltq; omega, by have := h3.ltb; omega⟩
  have hwG : w.heap.size < w3.heap.size := lt_of_heap g3
  clear hc3 g3 C3 G2 B2 h2 h3
  go_wp2_with fail
  generalize w3.alloc (.cells #[.int .i64 0, .int .i64 0, .bool false, .int .i64 0, .int .i64 0, .string ⟨#[]⟩] 27) = w4 at *
  generalize w3.heap.size = G at *
  have hlt := lt_of_heap r4
  have c0 : w4.cell? ⟨G, 0, none⟩ = some (.int .i64 0) := (cell_of r4).trans rfl
  have G4 := hid g4
  have R4 := hid r4
  have H4 := hid h4
  have HK : Hid (∀ y, Below w4.heap.size w4 y → y.cell? ⟨G, 0, none⟩ = some (.int .i64 0)) := hid (fun y hy => (hy.cell (p := ⟨G, 0, none⟩) hlt).trans c0)
  have M0 : Below w4.heap.size w4 w4 := Below.refl _ _
  clear g4 r4 h4
  go_cut [6, 7] (fun v6 v7 wc => ∃ L, v6 = .pointer (some ⟨L, 0, none⟩) ∧ v7 = .bool false ∧ Hid (Below w4.heap.size w4 wc) ∧ Hid (wc.heap[L]? = some (.cells #[.nilFunc, .nilFunc] 72 (0, 0))) ∧ Hid (w4.heap.size ≤ L))
  case first =>
    go_region_held3 (fun y => y.cell? ⟨G, 0, none⟩ = some (.int .i64 0)) (((with_reducible refine HK.out _ ?_); repeat (first | with_reducible exact M0 | with_reducible refine Below.drew ?_ | with_reducible refine Below.alloc ?_ (by simp <;> omega) _))) ((first | (go_at_call 29; refine (ptable_any _).mono ?_; rintro e w' ⟨rfl, rfl⟩) | (go_at_call 28; refine (pfind_no _ _ _ (by omega)).mono ?_; rintro e w' ⟨rfl, rfl⟩)))
    · go_wp2
      go_meet
      case rel =>
        refine ⟨_, rfl, rfl, ?_, hid (hd_drew (heap_new' _ _ _ (by simp))), hid (by omega)⟩
        refine hid ?_
        repeat (first | with_reducible exact M0 | with_reducible refine Below.drew ?_ | with_reducible refine Below.alloc ?_ (by simp <;> omega) _)
    · go_wp2
      go_meet
      case rel =>
        refine ⟨_, rfl, rfl, ?_, hid (hd_drew (heap_alloc_at (heap_new' _ _ _ (by simp)))), hid (by omega)⟩
        refine hid ?_
        repeat (first | with_reducible exact M0 | with_reducible refine Below.drew ?_ | with_reducible refine Below.alloc ?_ (by simp <;> omega) _)
    · go_wp2
      go_meet
      case rel =>
        refine ⟨_, rfl, rfl, ?_, hid (hd_drew (heap_alloc_at (heap_alloc_at (heap_alloc_at (heap_new _ _))))), hid (by omega)⟩
        refine hid ?_
        repeat (first | with_reducible exact M0 | with_reducible refine Below.drew ?_ | with_reducible refine Below.alloc ?_ (by simp <;> omega) _)
  case rest =>
    obtain ⟨L, rfl, rfl, HB, HL, HLE⟩ := hcut
    have hsz := HB.out.size
    have G5 : Hid (wc.heap[w.heap.size]? = some (.cells #[.int .i64 0, .int .i64 0, .bool false, .int .i64 0, .int .i64 0, .string ⟨#[]⟩] 27 (0, 0))) := hid ((HB.out.block _ (lt_of_heap G4.out)).trans G4.out)
    have r5 : wc.heap[G]? = some (.cells #[.int .i64 0, .int .i64 0, .bool false, .int .i64 0, .int .i64 0, .string ⟨#[]⟩] 27 (0, 0)) := (HB.out.block _ hlt).trans R4.out
    have h5 : RS wc q b s 1 0 0 := H4.out.below HB.out
    have C5 : Hid (Ch (fun i => i = b ∨ i = q) w wc) := hid (C4.out.trans (Ch.of_below HB.out))
    have hLq : L ≠ q ∧ L ≠ b ∧ L ≠ G := ⟨by have := H4.out.ltq; have := HLE.out; omega, by have := H4.out.ltb; have := HLE.out; omega, by have := HLE.out; omega⟩
    have hLw := lt_of_heap HL.out
    have k5 : wc.cell? ⟨G, 0, none⟩ = some (.int .i64 0) := (cell_of r5).trans rfl
    have R5 := hid r5
    clear r5 G4 R4 H4 C4 HB HK M0 c0 HLE
    go_wp2_with fail
    have CR := rrefuse_any q b 0 s 1 0 6 false wc h5
    rw [show rf false 6 0 0 = 0 from by exact rf_no _ _ _] at CR
    refine CR.mono ?_
    rintro e w6 ⟨rfl, h6, hc6⟩
    have G6 : Hid (w6.heap[w.heap.size]? = _) := hid ((hc6.block _ (lt_of_heap G5.out) (by omega)).trans G5.out)
    have R6 : Hid (w6.heap[G]? = _) := hid ((hc6.block _ (lt_of_heap R5.out) (by omega)).trans R5.out)
    have L6 : Hid (w6.heap[L]? = _) := hid ((hc6.block _ (lt_of_heap HL.out) (by omega)).trans HL.out)
    have C6 := hid (C5.out.trans hc6)
    clear hc6 h5 G5 R5 HL C5 CR k5
    go_wp2_with fail
    have CE := rerrno_any q b 0 s 1 0 x k2 0 w6 h6 hk1 hs h1
    rw [hR] at CE
    refine CE.mono ?_
    rintro e w7 ⟨rfl, h7, hc7⟩
    have G7 : Hid (w7.heap[w.heap.size]? = _) := hid ((hc7.block _ (lt_of_heap G6.out) (by omega)).trans G6.out)
    have r7 : w7.heap[G]? = _ := (hc7.block _ (lt_of_heap R6.out) (by omega)).trans R6.out
    have L7 : Hid (w7.heap[L]? = _) := hid ((hc7.block _ (lt_of_heap L6.out) (by omega)).trans L6.out)
    have d1 : w7.cell? ⟨G, 1, none⟩ = some (.int .i64 0) := (cell_of r7).trans rfl
    have z1 := froz_of (i := 1) r7
    have r8 : (w7.setCell ⟨G, 1, none⟩ (.int .i64 R)).heap[G]? = some (.cells #[.int .i64 0, .int .i64 R, .bool false, .int .i64 0, .int .i64 0, .string ⟨#[]⟩] 27 (0, 0)) := heap_set r7
    have G8 : Hid ((w7.setCell ⟨G, 1, none⟩ (.int .i64 R)).heap[w.heap.size]? = _) := hid (heap_set_far G7.out (by show w.heap.size ≠ G; omega))
    have L8 : Hid ((w7.setCell ⟨G, 1, none⟩ (.int .i64 R)).heap[L]? = _) := hid (heap_set_far L7.out (by show L ≠ G; omega))
    have h8 : RS (w7.setCell ⟨G, 1, none⟩ (.int .i64 R)) q b s k2 0 0 := rs_set h7 hG.1 hG.2
    have C8 : Hid (Ch (fun i => i = b ∨ i = q ∨ i = G) w (w7.setCell ⟨G, 1, none⟩ (.int .i64 R))) := hid ((ch3 (C6.out.trans hc7)).setCell _ _ (fun _ => Or.inr (Or.inr rfl)))
    have k8 : (w7.setCell ⟨G, 1, none⟩ (.int .i64 R)).cell? ⟨G, 1, none⟩ = some (.int .i64 R) := (cell_of r8).trans rfl
    have R8 := hid r8
    clear r7 r8 hc7 h7 h6 G6 R6 L6 C6 CE G7 L7
    go_wp2_with fail
    generalize w7.setCell ⟨G, 1, none⟩ (.int .i64 R) = w8 at *
    have CR := rrefuse_any q b 0 s k2 0 1 true w8 h8
    rw [show rf true 1 0 0 = 1 from by decide] at CR
    refine CR.mono ?_
    rintro e w9 ⟨rfl, h9, hc9⟩
    have G9 : Hid (w9.heap[w.heap.size]? = _) := hid ((hc9.block _ (lt_of_heap G8.out) (by omega)).trans G8.out)
    have r9 : w9.heap[G]? = _ := (hc9.block _ (lt_of_heap R8.out) (by omega)).trans R8.out
    have L9 : Hid (w9.heap[L]? = _) := hid ((hc9.block _ (lt_of_heap L8.out) (by omega)).trans L8.out)
    have C9 := hid (C8.out.trans (ch3 hc9))
    have k9 : w9.cell? ⟨G, 0, none⟩ = some (.int .i64 0) := (cell_of r9).trans rfl
    have j9 : w9.cell? ⟨G, 1, none⟩ = some (.int .i64 R) := (cell_of r9).trans rfl
    have R9 := hid r9
    clear hc9 h8 G8 R8 L8 C8 CR k8 r9 d1 z1
    go_wp2_with fail
    have CR := rrefuse_any q b 1 s k2 0 6 false w9 h9
    rw [show rf false 6 1 0 = 1 from by exact rf_no _ _ _] at CR
    refine CR.mono ?_
    rintro e w10 ⟨rfl, h10, hc10⟩
    have G10 : Hid (w10.heap[w.heap.size]? = _) := hid ((hc10.block _ (lt_of_heap G9.out) (by omega)).trans G9.out)
    have r10 : w10.heap[G]? = _ := (hc10.block _ (lt_of_heap R9.out) (by omega)).trans R9.out
    have L10 : Hid (w10.heap[L]? = _) := hid ((hc10.block _ (lt_of_heap L9.out) (by omega)).trans L9.out)
    have C10 := hid (C9.out.trans (ch3 hc10))
    have j10 : w10.cell? ⟨G, 1, none⟩ = some (.int .i64 R) := (cell_of r10).trans rfl
    have R10 := hid r10
    clear hc10 h9 G9 R9 L9 C9 CR k9 j9 r10
    go_wp2_with fail
    refine (rfailed_any q b 1 s k2 0 w10 h10).mono ?_
    rintro e w11 ⟨rfl, rfl⟩
    rw [show fl 1 0 = 1 from by first | rfl | decide | assumption]
    go_wp2_with fail
    have CD := hid (rdone17_any q b 1 s k2 0 w11 h10 hk2 hs)
    have G18 := G10
    have HR18 := R10
    have C18 := C10
    have h18 := h10
    clear G10 R10 C10 h10 L10 j10
    generalize w11 = w18 at *
    rw [hE] at CD
    refine CD.out.mono ?_
    rintro e w19 ⟨rfl, n1, rfl⟩
    have g19 : (w18.drewN n1).heap[w.heap.size]? = some (.cells #[.int .i64 0, .int .i64 0, .bool false, .int .i64 0, .int .i64 0, .string ⟨#[]⟩] 27 (0, 0)) := G18.out
    have r19 : (w18.drewN n1).heap[G]? = some (.cells #[.int .i64 0, .int .i64 R, .bool false, .int .i64 0, .int .i64 0, .string ⟨#[]⟩] 27 (0, 0)) := HR18.out
    have C19 : Hid (Ch (fun i => i = b ∨ i = q ∨ i = G) w (w18.drewN n1)) := hid (C18.out.drewN n1)
    clear CD h18 G18 HR18 C18
    generalize w18.drewN n1 = w19 at *
    have xx0 : w19.cell? ⟨w.heap.size, 0, none⟩ = some (.int .i64 0) := (cell_of g19).trans rfl
    have xx1 : w19.cell? ⟨w.heap.size, 1, none⟩ = some (.int .i64 0) := (cell_of g19).trans rfl
    have xx2 : w19.cell? ⟨w.heap.size, 2, none⟩ = some (.bool false) := (cell_of g19).trans rfl
    have xx3 : w19.cell? ⟨w.heap.size, 3, none⟩ = some (.int .i64 0) := (cell_of g19).trans rfl
    have xx4 : w19.cell? ⟨w.heap.size, 4, none⟩ = some (.int .i64 0) := (cell_of g19).trans rfl
    have xx5 : w19.cell? ⟨w.heap.size, 5, none⟩ = some (.string ⟨#[]⟩) := (cell_of g19).trans rfl
    have zz0 := froz_of (i := 0) g19
    have zz1 := froz_of (i := 1) g19
    have zz2 := froz_of (i := 2) g19
    have zz3 := froz_of (i := 3) g19
    have zz4 := froz_of (i := 4) g19
    have zz5 := froz_of (i := 5) g19
    have yy0 : w19.cell? ⟨G, 0, none⟩ = some (.int .i64 0) := (cell_of r19).trans rfl
    have yy1 : w19.cell? ⟨G, 1, none⟩ = some (.int .i64 R) := (cell_of r19).trans rfl
    have yy2 : w19.cell? ⟨G, 2, none⟩ = some (.bool false) := (cell_of r19).trans rfl
    have yy3 : w19.cell? ⟨G, 3, none⟩ = some (.int .i64 0) := (cell_of r19).trans rfl
    have yy4 : w19.cell? ⟨G, 4, none⟩ = some (.int .i64 0) := (cell_of r19).trans rfl
    have yy5 : w19.cell? ⟨G, 5, none⟩ = some (.string ⟨#[]⟩) := (cell_of r19).trans rfl
    have G19 := hid g19
    clear g19 r19
    have B19 : Below w.heap.size w w19 := C19.out.below (Nat.le_refl _) (fun i hi => by rintro (h | h | h) <;> omega)
    have hr19 := lt_of_heap G19.out
    clear C19
    by_cases hE0 : E = 0
    · subst hE0
      have gF : ((((((w19.setCell ⟨w.heap.size, 0, none⟩ (.int .i64 0)).setCell ⟨w.heap.size, 1, none⟩ (.int .i64 R)).setCell ⟨w.heap.size, 2, none⟩ (.bool false)).setCell ⟨w.heap.size, 3, none⟩ (.int .i64 0)).setCell ⟨w.heap.size, 4, none⟩ (.int .i64 0)).setCell ⟨w.heap.size, 5, none⟩ (.string ⟨#[]⟩)).heap[w.heap.size]? = some (.cells #[.int .i64 0, .int .i64 R, .bool false, .int .i64 0, .int .i64 0, .string ⟨#[]⟩] 27 (0, 0)) := (heap_set (heap_set (heap_set (heap_set (heap_set (heap_set G19.out))))))
      have bF : Below w.heap.size w ((((((w19.setCell ⟨w.heap.size, 0, none⟩ (.int .i64 0)).setCell ⟨w.heap.size, 1, none⟩ (.int .i64 R)).setCell ⟨w.heap.size, 2, none⟩ (.bool false)).setCell ⟨w.heap.size, 3, none⟩ (.int .i64 0)).setCell ⟨w.heap.size, 4, none⟩ (.int .i64 0)).setCell ⟨w.heap.size, 5, none⟩ (.string ⟨#[]⟩)) := ((((((B19.setCell (Nat.le_refl _) _).setCell (Nat.le_refl _) _).setCell (Nat.le_refl _) _).setCell (Nat.le_refl _) _).setCell (Nat.le_refl _) _).setCell (Nat.le_refl _) _)
      go_wp2_with fail
      generalize ((((((w19.setCell ⟨w.heap.size, 0, none⟩ (.int .i64 0)).setCell ⟨w.heap.size, 1, none⟩ (.int .i64 R)).setCell ⟨w.heap.size, 2, none⟩ (.bool false)).setCell ⟨w.heap.size, 3, none⟩ (.int .i64 0)).setCell ⟨w.heap.size, 4, none⟩ (.int .i64 0)).setCell ⟨w.heap.size, 5, none⟩ (.string ⟨#[]⟩)) = wF at *
      have ff0 : wF.cell? ⟨w.heap.size, 0, none⟩ = some (.int .i64 0) := (cell_of gF).trans rfl
      have ff1 : wF.cell? ⟨w.heap.size, 1, none⟩ = some (.int .i64 R) := (cell_of gF).trans rfl
      have ff2 : wF.cell? ⟨w.heap.size, 2, none⟩ = some (.bool false) := (cell_of gF).trans rfl
      have ff3 : wF.cell? ⟨w.heap.size, 3, none⟩ = some (.int .i64 0) := (cell_of gF).trans rfl
      have ff4 : wF.cell? ⟨w.heap.size, 4, none⟩ = some (.int .i64 0) := (cell_of gF).trans rfl
      have ff5 : wF.cell? ⟨w.heap.size, 5, none⟩ = some (.string ⟨#[]⟩) := (cell_of gF).trans rfl
      exact bodyPost_ret (v := .tuple #[.agg #[.int .i64 0, .int .i64 R, .bool false, .int .i64 0, .int .i64 0, .string ⟨#[]⟩], .int .i64 0]) (by simp [results, Tryz.results16, go_sem, ff0, ff1, ff2, ff3, ff4, ff5]) rfl ⟨rfl, bF⟩
    · have hne : ((E : Int) != 0) = true := by rw [bne_iff_ne]; omega
      have gF : ((((((w19.setCell ⟨w.heap.size, 0, none⟩ (.int .i64 0)).setCell ⟨w.heap.size, 1, none⟩ (.int .i64 0)).setCell ⟨w.heap.size, 2, none⟩ (.bool false)).setCell ⟨w.heap.size, 3, none⟩ (.int .i64 0)).setCell ⟨w.heap.size, 4, none⟩ (.int .i64 0)).setCell ⟨w.heap.size, 5, none⟩ (.string ⟨#[]⟩)).heap[w.heap.size]? = some (.cells #[.int .i64 0, .int .i64 0, .bool false, .int .i64 0, .int .i64 0, .string ⟨#[]⟩] 27 (0, 0)) := (heap_set (heap_set (heap_set (heap_set (heap_set (heap_set G19.out))))))
      have bF : Below w.heap.size w ((((((w19.setCell ⟨w.heap.size, 0, none⟩ (.int .i64 0)).setCell ⟨w.heap.size, 1, none⟩ (.int .i64 0)).setCell ⟨w.heap.size, 2, none⟩ (.bool false)).setCell ⟨w.heap.size, 3, none⟩ (.int .i64 0)).setCell ⟨w.heap.size, 4, none⟩ (.int .i64 0)).setCell ⟨w.heap.size, 5, none⟩ (.string ⟨#[]⟩)) := ((((((B19.setCell (Nat.le_refl _) _).setCell (Nat.le_refl _) _).setCell (Nat.le_refl _) _).setCell (Nat.le_refl _) _).setCell (Nat.le_refl _) _).setCell (Nat.le_refl _) _)
      go_wp2_with fail
      generalize ((((((w19.setCell ⟨w.heap.size, 0, none⟩ (.int .i64 0)).setCell ⟨w.heap.size, 1, none⟩ (.int .i64 0)).setCell ⟨w.heap.size, 2, none⟩ (.bool false)).setCell ⟨w.heap.size, 3, none⟩ (.int .i64 0)).setCell ⟨w.heap.size, 4, none⟩ (.int .i64 0)).setCell ⟨w.heap.size, 5, none⟩ (.string ⟨#[]⟩)) = wF at *
      have ff0 : wF.cell? ⟨w.heap.size, 0, none⟩ = some (.int .i64 0) := (cell_of gF).trans rfl
      have ff1 : wF.cell? ⟨w.heap.size, 1, none⟩ = some (.int .i64 0) := (cell_of gF).trans rfl
      have ff2 : wF.cell? ⟨w.heap.size, 2, none⟩ = some (.bool false) := (cell_of gF).trans rfl
      have ff3 : wF.cell? ⟨w.heap.size, 3, none⟩ = some (.int .i64 0) := (cell_of gF).trans rfl
      have ff4 : wF.cell? ⟨w.heap.size, 4, none⟩ = some (.int .i64 0) := (cell_of gF).trans rfl
      have ff5 : wF.cell? ⟨w.heap.size, 5, none⟩ = some (.string ⟨#[]⟩) := (cell_of gF).trans rfl
      exact bodyPost_ret (v := .tuple #[.agg #[.int .i64 0, .int .i64 0, .bool false, .int .i64 0, .int .i64 0, .string ⟨#[]⟩], .int .i64 E]) (by simp [results, Tryz.results16, go_sem, ff0, ff1, ff2, ff3, ff4, ff5]) rfl ⟨by rw [ra2_no hE0], bF⟩
set_option maxHeartbeats 1000000 in
set_option maxRecDepth 20000 in
theorem rrep_zpos (s : ByteArray) (x k2 : Nat) (R : Int) (E : Nat) (w : World) (hs : s.size ≤ 9223372036854775807) (h0 : fx 1 s 0 0 = (0, 1, 0)) (h1 : fx 4 s 1 0 = (x, k2, 0)) (hR : wrap32 (x : Int) = R) (hr : 0 < R) (hE : fl 0 (dq s k2 0) = E) :
    Calls Tryz.prog 16 #[.string s] w fun e w' => e = .returned (ra2 #[.int .i64 0, .int .i64 R, .bool false, .int .i64 0, .int .i64 0, .string ⟨#[]⟩] #[.int .i64 0, .int .i64 0, .bool false, .int .i64 0, .int .i64 0, .string ⟨#[]⟩] E) ∧ Below w.heap.size w w' := by
  have hk1 := fxle (Nat.zero_le _) h0
  have hk2 := fxle hk1 h1
  have hRb : ((R : Int) == 0) = false := by rw [beq_eq_false_iff_ne]; omega
  have hr2 : ¬ R < 0 := by omega
  have hrd : decide (R < 0) = false := decide_eq_false hr2
  have g1 : (w.alloc (.cells #[.int .i64 0, .int .i64 0, .bool false, .int .i64 0, .int .i64 0, .string ⟨#[]⟩] 27)).heap[w.heap.size]? = some (.cells #[.int .i64 0, .int .i64 0, .bool false, .int .i64 0, .int .i64 0, .string ⟨#[]⟩] 27 (0, 0)) := heap_new _ _
  have b1 : Below w.heap.size w (w.alloc (.cells #[.int .i64 0, .int .i64 0, .bool false, .int .i64 0, .int .i64 0, .string ⟨#[]⟩] 27)) := (Below.refl _ _).alloc (Nat.le_refl _) _
  go_enter Tryz.func16, Tryz.ntmps16
  go_wp2_with fail
  generalize w.alloc (.cells #[.int .i64 0, .int .i64 0, .bool false, .int .i64 0, .int .i64 0, .string ⟨#[]⟩] 27) = w1 at *
  have hlt := lt_of_heap g1
  refine (rnew_any s w1).mono ?_
  rintro e w2 ⟨rfl, h2, b2⟩
  have hqz : w.heap.size < w1.heap.size + 1 ∧ w.heap.size < w1.heap.size := by omega
  generalize w1.heap.size + 1 = q at *
  have g2 : w2.heap[w.heap.size]? = _ := (b2.block _ hlt).trans g1
  have bb2 : Below w.heap.size w w2 := b1.trans (b2.mono (by omega))
  generalize w1.heap.size = b at *
  have G2 := hid g2
  have B2 := hid bb2
  clear g1 b1 g2 b2 bb2 hlt
  go_wp2_with fail
  refine (rkind_any q b 0 s 0 0 _ _ _ w2 h2 (Nat.zero_le _) hs h0).mono ?_
  rintro e w3 ⟨rfl, h3, hc3⟩
  have g3 : w3.heap[w.heap.size]? = _ := (hc3.block _ (lt_of_heap G2.out) (by omega)).trans G2.out
  have C3 : Hid (Ch (fun i => i = b ∨ i = q) w w3) := hid ((Ch.of_below (S := fun i => i = b ∨ i = q) (B2.out.mono (Nat.le_refl _))).trans hc3)
  have h4 : RS (w3.alloc (.cells #[.int .i64 0, .int .i64 0, .bool false, .int .i64 0, .int .i64 0, .string ⟨#[]⟩] 27)) q b s 1 0 0 := h3.below ((Below.refl _ _).alloc (Nat.le_refl _) _)
  have g4 : (w3.alloc (.cells #[.int .i64 0, .int .i64 0, .bool false, .int .i64 0, .int .i64 0, .string ⟨#[]⟩] 27)).heap[w.heap.size]? = some (.cells #[.int .i64 0, .int .i64 0, .bool false, .int .i64 0, .int .i64 0, .string ⟨#[]⟩] 27 (0, 0)) := heap_alloc_at g3
  have r4 : (w3.alloc (.cells #[.int .i64 0, .int .i64 0, .bool false, .int .i64 0, .int .i64 0, .string ⟨#[]⟩] 27)).heap[w3.heap.size]? = some (.cells #[.int .i64 0, .int .i64 0, .bool false, .int .i64 0, .int .i64 0, .string ⟨#[]⟩] 27 (0, 0)) := heap_new _ _
  have C4 : Hid (Ch (fun i => i = b ∨ i = q) w (w3.alloc (.cells #[.int .i64 0, .int .i64 0, .bool false, .int .i64 0, .int .i64 0, .string ⟨#[]⟩] 27))) := hid (C3.out.alloc _)
  have hG : w3.heap.size ≠ q ∧ w3.heap.size ≠ b := ⟨by have := h3.ltq; omega, by have := h3.ltb; omega⟩
  have hwG : w.heap.size < w3.heap.size := lt_of_heap g3
  clear hc3 g3 C3 G2 B2 h2 h3
  go_wp2_with fail
  generalize w3.alloc (.cells #[.int .i64 0, .int .i64 0, .bool false, .int .i64 0, .int .i64 0, .string ⟨#[]⟩] 27) = w4 at *
  generalize w3.heap.size = G at *
  have hlt := lt_of_heap r4
  have c0 : w4.cell? ⟨G, 0, none⟩ = some (.int .i64 0) := (cell_of r4).trans rfl
  have G4 := hid g4
  have R4 := hid r4
  have H4 := hid h4
  have HK : Hid (∀ y, Below w4.heap.size w4 y → y.cell? ⟨G, 0, none⟩ = some (.int .i64 0)) := hid (fun y hy => (hy.cell (p := ⟨G, 0, none⟩) hlt).trans c0)
  have M0 : Below w4.heap.size w4 w4 := Below.refl _ _
  clear g4 r4 h4
  go_cut [6, 7] (fun v6 v7 wc => ∃ L, v6 = .pointer (some ⟨L, 0, none⟩) ∧ v7 = .bool false ∧ Hid (Below w4.heap.size w4 wc) ∧ Hid (wc.heap[L]? = some (.cells #[.nilFunc, .nilFunc] 72 (0, 0))) ∧ Hid (w4.heap.size ≤ L))
  case first =>
    go_region_held3 (fun y => y.cell? ⟨G, 0, none⟩ = some (.int .i64 0)) (((with_reducible refine HK.out _ ?_); repeat (first | with_reducible exact M0 | with_reducible refine Below.drew ?_ | with_reducible refine Below.alloc ?_ (by simp <;> omega) _))) ((first | (go_at_call 29; refine (ptable_any _).mono ?_; rintro e w' ⟨rfl, rfl⟩) | (go_at_call 28; refine (pfind_no _ _ _ (by omega)).mono ?_; rintro e w' ⟨rfl, rfl⟩)))
    · go_wp2
      go_meet
      case rel =>
        refine ⟨_, rfl, rfl, ?_, hid (hd_drew (heap_new' _ _ _ (by simp))), hid (by omega)⟩
        refine hid ?_
        repeat (first | with_reducible exact M0 | with_reducible refine Below.drew ?_ | with_reducible refine Below.alloc ?_ (by simp <;> omega) _)
    · go_wp2
      go_meet
      case rel =>
        refine ⟨_, rfl, rfl, ?_, hid (hd_drew (heap_alloc_at (heap_new' _ _ _ (by simp)))), hid (by omega)⟩
        refine hid ?_
        repeat (first | with_reducible exact M0 | with_reducible refine Below.drew ?_ | with_reducible refine Below.alloc ?_ (by simp <;> omega) _)
    · go_wp2
      go_meet
      case rel =>
        refine ⟨_, rfl, rfl, ?_, hid (hd_drew (heap_alloc_at (heap_alloc_at (heap_alloc_at (heap_new _ _))))), hid (by omega)⟩
        refine hid ?_
        repeat (first | with_reducible exact M0 | with_reducible refine Below.drew ?_ | with_reducible refine Below.alloc ?_ (by simp <;> omega) _)
  case rest =>
    obtain ⟨L, rfl, rfl, HB, HL, HLE⟩ := hcut
    have hsz := HB.out.size
    have G5 : Hid (wc.heap[w.heap.size]? = some (.cells #[.int .i64 0, .int .i64 0, .bool false, .int .i64 0, .int .i64 0, .string ⟨#[]⟩] 27 (0, 0))) := hid ((HB.out.block _ (lt_of_heap G4.out)).trans G4.out)
    have r5 : wc.heap[G]? = some (.cells #[.int .i64 0, .int .i64 0, .bool false, .int .i64 0, .int .i64 0, .string ⟨#[]⟩] 27 (0, 0)) := (HB.out.block _ hlt).trans R4.out
    have h5 : RS wc q b s 1 0 0 := H4.out.below HB.out
    have C5 : Hid (Ch (fun i => i = b ∨ i = q) w wc) := hid (C4.out.trans (Ch.of_below HB.out))
    have hLq : L ≠ q ∧ L ≠ b ∧ L ≠ G := ⟨by have := H4.out.ltq; have := HLE.out; omega, by have := H4.out.ltb; have := HLE.out; omega, by have := HLE.out; omega⟩
    have hLw := lt_of_heap HL.out
    have k5 : wc.cell? ⟨G, 0, none⟩ = some (.int .i64 0) := (cell_of r5).trans rfl
    have R5 := hid r5
    clear r5 G4 R4 H4 C4 HB HK M0 c0 HLE
    go_wp2_with fail
    have CR := rrefuse_any q b 0 s 1 0 6 false wc h5
    rw [show rf false 6 0 0 = 0 from by exact rf_no _ _ _] at CR
    refine CR.mono ?_
    rintro e w6 ⟨rfl, h6, hc6⟩
    have G6 : Hid (w6.heap[w.heap.size]? = _) := hid ((hc6.block _ (lt_of_heap G5.out) (by omega)).trans G5.out)
    have R6 : Hid (w6.heap[G]? = _) := hid ((hc6.block _ (lt_of_heap R5.out) (by omega)).trans R5.out)
    have L6 : Hid (w6.heap[L]? = _) := hid ((hc6.block _ (lt_of_heap HL.out) (by omega)).trans HL.out)
    have C6 := hid (C5.out.trans hc6)
    clear hc6 h5 G5 R5 HL C5 CR k5
    go_wp2_with fail
    have CE := rerrno_any q b 0 s 1 0 x k2 0 w6 h6 hk1 hs h1
    rw [hR] at CE
    refine CE.mono ?_
    rintro e w7 ⟨rfl, h7, hc7⟩
    have G7 : Hid (w7.heap[w.heap.size]? = _) := hid ((hc7.block _ (lt_of_heap G6.out) (by omega)).trans G6.out)
    have r7 : w7.heap[G]? = _ := (hc7.block _ (lt_of_heap R6.out) (by omega)).trans R6.out
    have L7 : Hid (w7.heap[L]? = _) := hid ((hc7.block _ (lt_of_heap L6.out) (by omega)).trans L6.out)
    have d1 : w7.cell? ⟨G, 1, none⟩ = some (.int .i64 0) := (cell_of r7).trans rfl
    have z1 := froz_of (i := 1) r7
    have r8 : (w7.setCell ⟨G, 1, none⟩ (.int .i64 R)).heap[G]? = some (.cells #[.int .i64 0, .int .i64 R, .bool false, .int .i64 0, .int .i64 0, .string ⟨#[]⟩] 27 (0, 0)) := heap_set r7
    have G8 : Hid ((w7.setCell ⟨G, 1, none⟩ (.int .i64 R)).heap[w.heap.size]? = _) := hid (heap_set_far G7.out (by show w.heap.size ≠ G; omega))
    have L8 : Hid ((w7.setCell ⟨G, 1, none⟩ (.int .i64 R)).heap[L]? = _) := hid (heap_set_far L7.out (by show L ≠ G; omega))
    have h8 : RS (w7.setCell ⟨G, 1, none⟩ (.int .i64 R)) q b s k2 0 0 := rs_set h7 hG.1 hG.2
    have C8 : Hid (Ch (fun i => i = b ∨ i = q ∨ i = G) w (w7.setCell ⟨G, 1, none⟩ (.int .i64 R))) := hid ((ch3 (C6.out.trans hc7)).setCell _ _ (fun _ => Or.inr (Or.inr rfl)))
    have k8 : (w7.setCell ⟨G, 1, none⟩ (.int .i64 R)).cell? ⟨G, 1, none⟩ = some (.int .i64 R) := (cell_of r8).trans rfl
    have R8 := hid r8
    clear r7 r8 hc7 h7 h6 G6 R6 L6 C6 CE G7 L7
    go_wp2_with fail
    generalize w7.setCell ⟨G, 1, none⟩ (.int .i64 R) = w8 at *
    have CR := rrefuse_any q b 0 s k2 0 1 false w8 h8
    rw [show rf false 1 0 0 = 0 from by exact rf_no _ _ _] at CR
    refine CR.mono ?_
    rintro e w9 ⟨rfl, h9, hc9⟩
    have G9 : Hid (w9.heap[w.heap.size]? = _) := hid ((hc9.block _ (lt_of_heap G8.out) (by omega)).trans G8.out)
    have r9 : w9.heap[G]? = _ := (hc9.block _ (lt_of_heap R8.out) (by omega)).trans R8.out
    have L9 : Hid (w9.heap[L]? = _) := hid ((hc9.block _ (lt_of_heap L8.out) (by omega)).trans L8.out)
    have C9 := hid (C8.out.trans (ch3 hc9))
    have k9 : w9.cell? ⟨G, 0, none⟩ = some (.int .i64 0) := (cell_of r9).trans rfl
    have j9 : w9.cell? ⟨G, 1, none⟩ = some (.int .i64 R) := (cell_of r9).trans rfl
    have R9 := hid r9
    clear hc9 h8 G8 R8 L8 C8 CR k8 r9 d1 z1
    go_wp2_with fail
    have CR := rrefuse_any q b 0 s k2 0 6 false w9 h9
    rw [show rf false 6 0 0 = 0 from by exact rf_no _ _ _] at CR
    refine CR.mono ?_
    rintro e w10 ⟨rfl, h10, hc10⟩
    have G10 : Hid (w10.heap[w.heap.size]? = _) := hid ((hc10.block _ (lt_of_heap G9.out) (by omega)).trans G9.out)
    have r10 : w10.heap[G]? = _ := (hc10.block _ (lt_of_heap R9.out) (by omega)).trans R9.out
    have L10 : Hid (w10.heap[L]? = _) := hid ((hc10.block _ (lt_of_heap L9.out) (by omega)).trans L9.out)
    have C10 := hid (C9.out.trans (ch3 hc10))
    have j10 : w10.cell? ⟨G, 1, none⟩ = some (.int .i64 R) := (cell_of r10).trans rfl
    have R10 := hid r10
    clear hc10 h9 G9 R9 L9 C9 CR k9 j9 r10
    go_wp2_with fail
    refine (rfailed_any q b 0 s k2 0 w10 h10).mono ?_
    rintro e w11 ⟨rfl, rfl⟩
    rw [show fl 0 0 = 0 from by first | rfl | decide | assumption]
    go_wp2_with fail
    have CD := hid (rdone17_any q b 0 s k2 0 w11 h10 hk2 hs)
    have G18 := G10
    have HR18 := R10
    have C18 := C10
    have h18 := h10
    clear G10 R10 C10 h10 L10 j10
    generalize w11 = w18 at *
    rw [hE] at CD
    refine CD.out.mono ?_
    rintro e w19 ⟨rfl, n1, rfl⟩
    have g19 : (w18.drewN n1).heap[w.heap.size]? = some (.cells #[.int .i64 0, .int .i64 0, .bool false, .int .i64 0, .int .i64 0, .string ⟨#[]⟩] 27 (0, 0)) := G18.out
    have r19 : (w18.drewN n1).heap[G]? = some (.cells #[.int .i64 0, .int .i64 R, .bool false, .int .i64 0, .int .i64 0, .string ⟨#[]⟩] 27 (0, 0)) := HR18.out
    have C19 : Hid (Ch (fun i => i = b ∨ i = q ∨ i = G) w (w18.drewN n1)) := hid (C18.out.drewN n1)
    clear CD h18 G18 HR18 C18
    generalize w18.drewN n1 = w19 at *
    have xx0 : w19.cell? ⟨w.heap.size, 0, none⟩ = some (.int .i64 0) := (cell_of g19).trans rfl
    have xx1 : w19.cell? ⟨w.heap.size, 1, none⟩ = some (.int .i64 0) := (cell_of g19).trans rfl
    have xx2 : w19.cell? ⟨w.heap.size, 2, none⟩ = some (.bool false) := (cell_of g19).trans rfl
    have xx3 : w19.cell? ⟨w.heap.size, 3, none⟩ = some (.int .i64 0) := (cell_of g19).trans rfl
    have xx4 : w19.cell? ⟨w.heap.size, 4, none⟩ = some (.int .i64 0) := (cell_of g19).trans rfl
    have xx5 : w19.cell? ⟨w.heap.size, 5, none⟩ = some (.string ⟨#[]⟩) := (cell_of g19).trans rfl
    have zz0 := froz_of (i := 0) g19
    have zz1 := froz_of (i := 1) g19
    have zz2 := froz_of (i := 2) g19
    have zz3 := froz_of (i := 3) g19
    have zz4 := froz_of (i := 4) g19
    have zz5 := froz_of (i := 5) g19
    have yy0 : w19.cell? ⟨G, 0, none⟩ = some (.int .i64 0) := (cell_of r19).trans rfl
    have yy1 : w19.cell? ⟨G, 1, none⟩ = some (.int .i64 R) := (cell_of r19).trans rfl
    have yy2 : w19.cell? ⟨G, 2, none⟩ = some (.bool false) := (cell_of r19).trans rfl
    have yy3 : w19.cell? ⟨G, 3, none⟩ = some (.int .i64 0) := (cell_of r19).trans rfl
    have yy4 : w19.cell? ⟨G, 4, none⟩ = some (.int .i64 0) := (cell_of r19).trans rfl
    have yy5 : w19.cell? ⟨G, 5, none⟩ = some (.string ⟨#[]⟩) := (cell_of r19).trans rfl
    have G19 := hid g19
    clear g19 r19
    have B19 : Below w.heap.size w w19 := C19.out.below (Nat.le_refl _) (fun i hi => by rintro (h | h | h) <;> omega)
    have hr19 := lt_of_heap G19.out
    clear C19
    by_cases hE0 : E = 0
    · subst hE0
      have gF : ((((((w19.setCell ⟨w.heap.size, 0, none⟩ (.int .i64 0)).setCell ⟨w.heap.size, 1, none⟩ (.int .i64 R)).setCell ⟨w.heap.size, 2, none⟩ (.bool false)).setCell ⟨w.heap.size, 3, none⟩ (.int .i64 0)).setCell ⟨w.heap.size, 4, none⟩ (.int .i64 0)).setCell ⟨w.heap.size, 5, none⟩ (.string ⟨#[]⟩)).heap[w.heap.size]? = some (.cells #[.int .i64 0, .int .i64 R, .bool false, .int .i64 0, .int .i64 0, .string ⟨#[]⟩] 27 (0, 0)) := (heap_set (heap_set (heap_set (heap_set (heap_set (heap_set G19.out))))))
      have bF : Below w.heap.size w ((((((w19.setCell ⟨w.heap.size, 0, none⟩ (.int .i64 0)).setCell ⟨w.heap.size, 1, none⟩ (.int .i64 R)).setCell ⟨w.heap.size, 2, none⟩ (.bool false)).setCell ⟨w.heap.size, 3, none⟩ (.int .i64 0)).setCell ⟨w.heap.size, 4, none⟩ (.int .i64 0)).setCell ⟨w.heap.size, 5, none⟩ (.string ⟨#[]⟩)) := ((((((B19.setCell (Nat.le_refl _) _).setCell (Nat.le_refl _) _).setCell (Nat.le_refl _) _).setCell (Nat.le_refl _) _).setCell (Nat.le_refl _) _).setCell (Nat.le_refl _) _)
      go_wp2_with fail
      generalize ((((((w19.setCell ⟨w.heap.size, 0, none⟩ (.int .i64 0)).setCell ⟨w.heap.size, 1, none⟩ (.int .i64 R)).setCell ⟨w.heap.size, 2, none⟩ (.bool false)).setCell ⟨w.heap.size, 3, none⟩ (.int .i64 0)).setCell ⟨w.heap.size, 4, none⟩ (.int .i64 0)).setCell ⟨w.heap.size, 5, none⟩ (.string ⟨#[]⟩)) = wF at *
      have ff0 : wF.cell? ⟨w.heap.size, 0, none⟩ = some (.int .i64 0) := (cell_of gF).trans rfl
      have ff1 : wF.cell? ⟨w.heap.size, 1, none⟩ = some (.int .i64 R) := (cell_of gF).trans rfl
      have ff2 : wF.cell? ⟨w.heap.size, 2, none⟩ = some (.bool false) := (cell_of gF).trans rfl
      have ff3 : wF.cell? ⟨w.heap.size, 3, none⟩ = some (.int .i64 0) := (cell_of gF).trans rfl
      have ff4 : wF.cell? ⟨w.heap.size, 4, none⟩ = some (.int .i64 0) := (cell_of gF).trans rfl
      have ff5 : wF.cell? ⟨w.heap.size, 5, none⟩ = some (.string ⟨#[]⟩) := (cell_of gF).trans rfl
      exact bodyPost_ret (v := .tuple #[.agg #[.int .i64 0, .int .i64 R, .bool false, .int .i64 0, .int .i64 0, .string ⟨#[]⟩], .int .i64 0]) (by simp [results, Tryz.results16, go_sem, ff0, ff1, ff2, ff3, ff4, ff5]) rfl ⟨rfl, bF⟩
    · have hne : ((E : Int) != 0) = true := by rw [bne_iff_ne]; omega
      have gF : ((((((w19.setCell ⟨w.heap.size, 0, none⟩ (.int .i64 0)).setCell ⟨w.heap.size, 1, none⟩ (.int .i64 0)).setCell ⟨w.heap.size, 2, none⟩ (.bool false)).setCell ⟨w.heap.size, 3, none⟩ (.int .i64 0)).setCell ⟨w.heap.size, 4, none⟩ (.int .i64 0)).setCell ⟨w.heap.size, 5, none⟩ (.string ⟨#[]⟩)).heap[w.heap.size]? = some (.cells #[.int .i64 0, .int .i64 0, .bool false, .int .i64 0, .int .i64 0, .string ⟨#[]⟩] 27 (0, 0)) := (heap_set (heap_set (heap_set (heap_set (heap_set (heap_set G19.out))))))
      have bF : Below w.heap.size w ((((((w19.setCell ⟨w.heap.size, 0, none⟩ (.int .i64 0)).setCell ⟨w.heap.size, 1, none⟩ (.int .i64 0)).setCell ⟨w.heap.size, 2, none⟩ (.bool false)).setCell ⟨w.heap.size, 3, none⟩ (.int .i64 0)).setCell ⟨w.heap.size, 4, none⟩ (.int .i64 0)).setCell ⟨w.heap.size, 5, none⟩ (.string ⟨#[]⟩)) := ((((((B19.setCell (Nat.le_refl _) _).setCell (Nat.le_refl _) _).setCell (Nat.le_refl _) _).setCell (Nat.le_refl _) _).setCell (Nat.le_refl _) _).setCell (Nat.le_refl _) _)
      go_wp2_with fail
      generalize ((((((w19.setCell ⟨w.heap.size, 0, none⟩ (.int .i64 0)).setCell ⟨w.heap.size, 1, none⟩ (.int .i64 0)).setCell ⟨w.heap.size, 2, none⟩ (.bool false)).setCell ⟨w.heap.size, 3, none⟩ (.int .i64 0)).setCell ⟨w.heap.size, 4, none⟩ (.int .i64 0)).setCell ⟨w.heap.size, 5, none⟩ (.string ⟨#[]⟩)) = wF at *
      have ff0 : wF.cell? ⟨w.heap.size, 0, none⟩ = some (.int .i64 0) := (cell_of gF).trans rfl
      have ff1 : wF.cell? ⟨w.heap.size, 1, none⟩ = some (.int .i64 0) := (cell_of gF).trans rfl
      have ff2 : wF.cell? ⟨w.heap.size, 2, none⟩ = some (.bool false) := (cell_of gF).trans rfl
      have ff3 : wF.cell? ⟨w.heap.size, 3, none⟩ = some (.int .i64 0) := (cell_of gF).trans rfl
      have ff4 : wF.cell? ⟨w.heap.size, 4, none⟩ = some (.int .i64 0) := (cell_of gF).trans rfl
      have ff5 : wF.cell? ⟨w.heap.size, 5, none⟩ = some (.string ⟨#[]⟩) := (cell_of gF).trans rfl
      exact bodyPost_ret (v := .tuple #[.agg #[.int .i64 0, .int .i64 0, .bool false, .int .i64 0, .int .i64 0, .string ⟨#[]⟩], .int .i64 E]) (by simp [results, Tryz.results16, go_sem, ff0, ff1, ff2, ff3, ff4, ff5]) rfl ⟨by rw [ra2_no hE0], bF⟩
set_option maxHeartbeats 1000000 in
set_option maxRecDepth 20000 in
theorem rrep_zz (s : ByteArray) (x k2 : Nat) (E : Nat) (w : World) (hs : s.size ≤ 9223372036854775807) (h0 : fx 1 s 0 0 = (0, 1, 0)) (h1 : fx 4 s 1 0 = (x, k2, 0)) (hR : wrap32 (x : Int) = 0) (hE : fl 6 (dq s k2 0) = E) :
    Calls Tryz.prog 16 #[.string s] w fun e w' => e = .returned (ra2 #[.int .i64 0, .int .i64 0, .bool false, .int .i64 0, .int .i64 0, .string ⟨#[]⟩] #[.int .i64 0, .int .i64 0, .bool false, .int .i64 0, .int .i64 0, .string ⟨#[]⟩] E) ∧ Below w.heap.size w w' := by
  have hk1 := fxle (Nat.zero_le _) h0
  have hk2 := fxle hk1 h1
  have g1 : (w.alloc (.cells #[.int .i64 0, .int .i64 0, .bool false, .int .i64 0, .int .i64 0, .string ⟨#[]⟩] 27)).heap[w.heap.size]? = some (.cells #[.int .i64 0, .int .i64 0, .bool false, .int .i64 0, .int .i64 0, .string ⟨#[]⟩] 27 (0, 0)) := heap_new _ _
  have b1 : Below w.heap.size w (w.alloc (.cells #[.int .i64 0, .int .i64 0, .bool false, .int .i64 0, .int .i64 0, .string ⟨#[]⟩] 27)) := (Below.refl _ _).alloc (Nat.le_refl _) _
  go_enter Tryz.func16, Tryz.ntmps16
  go_wp2_with fail
  generalize w.alloc (.cells #[.int .i64 0, .int .i64 0, .bool false, .int .i64 0, .int .i64 0, .string ⟨#[]⟩] 27) = w1 at *
  have hlt := lt_of_heap g1
  refine (rnew_any s w1).mono ?_
  rintro e w2 ⟨rfl, h2, b2⟩
  have hqz : w.heap.size < w1.heap.size + 1 ∧ w.heap.size < w1.heap.size := by omega
  generalize w1.heap.size + 1 = q at *
  have g2 : w2.heap[w.heap.size]? = _ := (b2.block _ hlt).trans g1
  have bb2 : Below w.heap.size w w2 := b1.trans (b2.mono (by omega))
  generalize w1.heap.size = b at *
  have G2 := hid g2
  have B2 := hid bb2
  clear g1 b1 g2 b2 bb2 hlt
  go_wp2_with fail
  refine (rkind_any q b 0 s 0 0 _ _ _ w2 h2 (Nat.zero_le _) hs h0).mono ?_
  rintro e w3 ⟨rfl, h3, hc3⟩
  have g3 : w3.heap[w.heap.size]? = _ := (hc3.block _ (lt_of_heap G2.out) (by omega)).trans G2.out
  have C3 : Hid (Ch (fun i => i = b ∨ i = q) w w3) := hid ((Ch.of_below (S := fun i => i = b ∨ i = q) (B2.out.mono (Nat.le_refl _))).trans hc3)
  have h4 : RS (w3.alloc (.cells #[.int .i64 0, .int .i64 0, .bool false, .int .i64 0, .int .i64 0, .string ⟨#[]⟩] 27)) q b s 1 0 0 := h3.below ((Below.refl _ _).alloc (Nat.le_refl _) _)
  have g4 : (w3.alloc (.cells #[.int .i64 0, .int .i64 0, .bool false, .int .i64 0, .int .i64 0, .string ⟨#[]⟩] 27)).heap[w.heap.size]? = some (.cells #[.int .i64 0, .int .i64 0, .bool false, .int .i64 0, .int .i64 0, .string ⟨#[]⟩] 27 (0, 0)) := heap_alloc_at g3
  have r4 : (w3.alloc (.cells #[.int .i64 0, .int .i64 0, .bool false, .int .i64 0, .int .i64 0, .string ⟨#[]⟩] 27)).heap[w3.heap.size]? = some (.cells #[.int .i64 0, .int .i64 0, .bool false, .int .i64 0, .int .i64 0, .string ⟨#[]⟩] 27 (0, 0)) := heap_new _ _
  have C4 : Hid (Ch (fun i => i = b ∨ i = q) w (w3.alloc (.cells #[.int .i64 0, .int .i64 0, .bool false, .int .i64 0, .int .i64 0, .string ⟨#[]⟩] 27))) := hid (C3.out.alloc _)
  have hG : w3.heap.size ≠ q ∧ w3.heap.size ≠ b := ⟨by have := h3.ltq; omega, by have := h3.ltb; omega⟩
  have hwG : w.heap.size < w3.heap.size := lt_of_heap g3
  clear hc3 g3 C3 G2 B2 h2 h3
  go_wp2_with fail
  generalize w3.alloc (.cells #[.int .i64 0, .int .i64 0, .bool false, .int .i64 0, .int .i64 0, .string ⟨#[]⟩] 27) = w4 at *
  generalize w3.heap.size = G at *
  have hlt := lt_of_heap r4
  have c0 : w4.cell? ⟨G, 0, none⟩ = some (.int .i64 0) := (cell_of r4).trans rfl
  have G4 := hid g4
  have R4 := hid r4
  have H4 := hid h4
  have HK : Hid (∀ y, Below w4.heap.size w4 y → y.cell? ⟨G, 0, none⟩ = some (.int .i64 0)) := hid (fun y hy => (hy.cell (p := ⟨G, 0, none⟩) hlt).trans c0)
  have M0 : Below w4.heap.size w4 w4 := Below.refl _ _
  clear g4 r4 h4
  go_cut [6, 7] (fun v6 v7 wc => ∃ L, v6 = .pointer (some ⟨L, 0, none⟩) ∧ v7 = .bool false ∧ Hid (Below w4.heap.size w4 wc) ∧ Hid (wc.heap[L]? = some (.cells #[.nilFunc, .nilFunc] 72 (0, 0))) ∧ Hid (w4.heap.size ≤ L))
  case first =>
    go_region_held3 (fun y => y.cell? ⟨G, 0, none⟩ = some (.int .i64 0)) (((with_reducible refine HK.out _ ?_); repeat (first | with_reducible exact M0 | with_reducible refine Below.drew ?_ | with_reducible refine Below.alloc ?_ (by simp <;> omega) _))) ((first | (go_at_call 29; refine (ptable_any _).mono ?_; rintro e w' ⟨rfl, rfl⟩) | (go_at_call 28; refine (pfind_no _ _ _ (by omega)).mono ?_; rintro e w' ⟨rfl, rfl⟩)))
    · go_wp2
      go_meet
      case rel =>
        refine ⟨_, rfl, rfl, ?_, hid (hd_drew (heap_new' _ _ _ (by simp))), hid (by omega)⟩
        refine hid ?_
        repeat (first | with_reducible exact M0 | with_reducible refine Below.drew ?_ | with_reducible refine Below.alloc ?_ (by simp <;> omega) _)
    · go_wp2
      go_meet
      case rel =>
        refine ⟨_, rfl, rfl, ?_, hid (hd_drew (heap_alloc_at (heap_new' _ _ _ (by simp)))), hid (by omega)⟩
        refine hid ?_
        repeat (first | with_reducible exact M0 | with_reducible refine Below.drew ?_ | with_reducible refine Below.alloc ?_ (by simp <;> omega) _)
    · go_wp2
      go_meet
      case rel =>
        refine ⟨_, rfl, rfl, ?_, hid (hd_drew (heap_alloc_at (heap_alloc_at (heap_alloc_at (heap_new _ _))))), hid (by omega)⟩
        refine hid ?_
        repeat (first | with_reducible exact M0 | with_reducible refine Below.drew ?_ | with_reducible refine Below.alloc ?_ (by simp <;> omega) _)
  case rest =>
    obtain ⟨L, rfl, rfl, HB, HL, HLE⟩ := hcut
    have hsz := HB.out.size
    have G5 : Hid (wc.heap[w.heap.size]? = some (.cells #[.int .i64 0, .int .i64 0, .bool false, .int .i64 0, .int .i64 0, .string ⟨#[]⟩] 27 (0, 0))) := hid ((HB.out.block _ (lt_of_heap G4.out)).trans G4.out)
    have r5 : wc.heap[G]? = some (.cells #[.int .i64 0, .int .i64 0, .bool false, .int .i64 0, .int .i64 0, .string ⟨#[]⟩] 27 (0, 0)) := (HB.out.block _ hlt).trans R4.out
    have h5 : RS wc q b s 1 0 0 := H4.out.below HB.out
    have C5 : Hid (Ch (fun i => i = b ∨ i = q) w wc) := hid (C4.out.trans (Ch.of_below HB.out))
    have hLq : L ≠ q ∧ L ≠ b ∧ L ≠ G := ⟨by have := H4.out.ltq; have := HLE.out; omega, by have := H4.out.ltb; have := HLE.out; omega, by have := HLE.out; omega⟩
    have hLw := lt_of_heap HL.out
    have k5 : wc.cell? ⟨G, 0, none⟩ = some (.int .i64 0) := (cell_of r5).trans rfl
    have R5 := hid r5
    clear r5 G4 R4 H4 C4 HB HK M0 c0 HLE
    go_wp2_with fail
    have CR := rrefuse_any q b 0 s 1 0 6 false wc h5
    rw [show rf false 6 0 0 = 0 from by exact rf_no _ _ _] at CR
    refine CR.mono ?_
    rintro e w6 ⟨rfl, h6, hc6⟩
    have G6 : Hid (w6.heap[w.heap.size]? = _) := hid ((hc6.block _ (lt_of_heap G5.out) (by omega)).trans G5.out)
    have R6 : Hid (w6.heap[G]? = _) := hid ((hc6.block _ (lt_of_heap R5.out) (by omega)).trans R5.out)
    have L6 : Hid (w6.heap[L]? = _) := hid ((hc6.block _ (lt_of_heap HL.out) (by omega)).trans HL.out)
    have C6 := hid (C5.out.trans hc6)
    clear hc6 h5 G5 R5 HL C5 CR k5
    go_wp2_with fail
    have CE := rerrno_any q b 0 s 1 0 x k2 0 w6 h6 hk1 hs h1
    rw [hR] at CE
    refine CE.mono ?_
    rintro e w7 ⟨rfl, h7, hc7⟩
    have G7 : Hid (w7.heap[w.heap.size]? = _) := hid ((hc7.block _ (lt_of_heap G6.out) (by omega)).trans G6.out)
    have r7 : w7.heap[G]? = _ := (hc7.block _ (lt_of_heap R6.out) (by omega)).trans R6.out
    have L7 : Hid (w7.heap[L]? = _) := hid ((hc7.block _ (lt_of_heap L6.out) (by omega)).trans L6.out)
    have d1 : w7.cell? ⟨G, 1, none⟩ = some (.int .i64 0) := (cell_of r7).trans rfl
    have z1 := froz_of (i := 1) r7
    have r8 : (w7.setCell ⟨G, 1, none⟩ (.int .i64 0)).heap[G]? = some (.cells #[.int .i64 0, .int .i64 0, .bool false, .int .i64 0, .int .i64 0, .string ⟨#[]⟩] 27 (0, 0)) := heap_set r7
    have G8 : Hid ((w7.setCell ⟨G, 1, none⟩ (.int .i64 0)).heap[w.heap.size]? = _) := hid (heap_set_far G7.out (by show w.heap.size ≠ G; omega))
    have L8 : Hid ((w7.setCell ⟨G, 1, none⟩ (.int .i64 0)).heap[L]? = _) := hid (heap_set_far L7.out (by show L ≠ G; omega))
    have h8 : RS (w7.setCell ⟨G, 1, none⟩ (.int .i64 0)) q b s k2 0 0 := rs_set h7 hG.1 hG.2
    have C8 : Hid (Ch (fun i => i = b ∨ i = q ∨ i = G) w (w7.setCell ⟨G, 1, none⟩ (.int .i64 0))) := hid ((ch3 (C6.out.trans hc7)).setCell _ _ (fun _ => Or.inr (Or.inr rfl)))
    have k8 : (w7.setCell ⟨G, 1, none⟩ (.int .i64 0)).cell? ⟨G, 1, none⟩ = some (.int .i64 0) := (cell_of r8).trans rfl
    have R8 := hid r8
    clear r7 r8 hc7 h7 h6 G6 R6 L6 C6 CE G7 L7
    go_wp2_with fail
    generalize w7.setCell ⟨G, 1, none⟩ (.int .i64 0) = w8 at *
    have CR := rrefuse_any q b 0 s k2 0 1 false w8 h8
    rw [show rf false 1 0 0 = 0 from by exact rf_no _ _ _] at CR
    refine CR.mono ?_
    rintro e w9 ⟨rfl, h9, hc9⟩
    have G9 : Hid (w9.heap[w.heap.size]? = _) := hid ((hc9.block _ (lt_of_heap G8.out) (by omega)).trans G8.out)
    have r9 : w9.heap[G]? = _ := (hc9.block _ (lt_of_heap R8.out) (by omega)).trans R8.out
    have L9 : Hid (w9.heap[L]? = _) := hid ((hc9.block _ (lt_of_heap L8.out) (by omega)).trans L8.out)
    have C9 := hid (C8.out.trans (ch3 hc9))
    have k9 : w9.cell? ⟨G, 0, none⟩ = some (.int .i64 0) := (cell_of r9).trans rfl
    have j9 : w9.cell? ⟨G, 1, none⟩ = some (.int .i64 0) := (cell_of r9).trans rfl
    have R9 := hid r9
    clear hc9 h8 G8 R8 L8 C8 CR k8 r9 d1 z1
    go_wp2_with fail
    have CR := rrefuse_any q b 0 s k2 0 6 true w9 h9
    rw [show rf true 6 0 0 = 6 from by decide] at CR
    refine CR.mono ?_
    rintro e w10 ⟨rfl, h10, hc10⟩
    have G10 : Hid (w10.heap[w.heap.size]? = _) := hid ((hc10.block _ (lt_of_heap G9.out) (by omega)).trans G9.out)
    have r10 : w10.heap[G]? = _ := (hc10.block _ (lt_of_heap R9.out) (by omega)).trans R9.out
    have L10 : Hid (w10.heap[L]? = _) := hid ((hc10.block _ (lt_of_heap L9.out) (by omega)).trans L9.out)
    have C10 := hid (C9.out.trans (ch3 hc10))
    have j10 : w10.cell? ⟨G, 1, none⟩ = some (.int .i64 0) := (cell_of r10).trans rfl
    have R10 := hid r10
    clear hc10 h9 G9 R9 L9 C9 CR k9 j9 r10
    go_wp2_with fail
    refine (rfailed_any q b 6 s k2 0 w10 h10).mono ?_
    rintro e w11 ⟨rfl, rfl⟩
    rw [show fl 6 0 = 6 from by first | rfl | decide | assumption]
    go_wp2_with fail
    have CD := hid (rdone17_any q b 6 s k2 0 w11 h10 hk2 hs)
    have G18 := G10
    have HR18 := R10
    have C18 := C10
    have h18 := h10
    clear G10 R10 C10 h10 L10 j10
    generalize w11 = w18 at *
    rw [hE] at CD
    refine CD.out.mono ?_
    rintro e w19 ⟨rfl, n1, rfl⟩
    have g19 : (w18.drewN n1).heap[w.heap.size]? = some (.cells #[.int .i64 0, .int .i64 0, .bool false, .int .i64 0, .int .i64 0, .string ⟨#[]⟩] 27 (0, 0)) := G18.out
    have r19 : (w18.drewN n1).heap[G]? = some (.cells #[.int .i64 0, .int .i64 0, .bool false, .int .i64 0, .int .i64 0, .string ⟨#[]⟩] 27 (0, 0)) := HR18.out
    have C19 : Hid (Ch (fun i => i = b ∨ i = q ∨ i = G) w (w18.drewN n1)) := hid (C18.out.drewN n1)
    clear CD h18 G18 HR18 C18
    generalize w18.drewN n1 = w19 at *
    have xx0 : w19.cell? ⟨w.heap.size, 0, none⟩ = some (.int .i64 0) := (cell_of g19).trans rfl
    have xx1 : w19.cell? ⟨w.heap.size, 1, none⟩ = some (.int .i64 0) := (cell_of g19).trans rfl
    have xx2 : w19.cell? ⟨w.heap.size, 2, none⟩ = some (.bool false) := (cell_of g19).trans rfl
    have xx3 : w19.cell? ⟨w.heap.size, 3, none⟩ = some (.int .i64 0) := (cell_of g19).trans rfl
    have xx4 : w19.cell? ⟨w.heap.size, 4, none⟩ = some (.int .i64 0) := (cell_of g19).trans rfl
    have xx5 : w19.cell? ⟨w.heap.size, 5, none⟩ = some (.string ⟨#[]⟩) := (cell_of g19).trans rfl
    have zz0 := froz_of (i := 0) g19
    have zz1 := froz_of (i := 1) g19
    have zz2 := froz_of (i := 2) g19
    have zz3 := froz_of (i := 3) g19
    have zz4 := froz_of (i := 4) g19
    have zz5 := froz_of (i := 5) g19
    have yy0 : w19.cell? ⟨G, 0, none⟩ = some (.int .i64 0) := (cell_of r19).trans rfl
    have yy1 : w19.cell? ⟨G, 1, none⟩ = some (.int .i64 0) := (cell_of r19).trans rfl
    have yy2 : w19.cell? ⟨G, 2, none⟩ = some (.bool false) := (cell_of r19).trans rfl
    have yy3 : w19.cell? ⟨G, 3, none⟩ = some (.int .i64 0) := (cell_of r19).trans rfl
    have yy4 : w19.cell? ⟨G, 4, none⟩ = some (.int .i64 0) := (cell_of r19).trans rfl
    have yy5 : w19.cell? ⟨G, 5, none⟩ = some (.string ⟨#[]⟩) := (cell_of r19).trans rfl
    have G19 := hid g19
    clear g19 r19
    have B19 : Below w.heap.size w w19 := C19.out.below (Nat.le_refl _) (fun i hi => by rintro (h | h | h) <;> omega)
    have hr19 := lt_of_heap G19.out
    clear C19
    by_cases hE0 : E = 0
    · subst hE0
      have gF : ((((((w19.setCell ⟨w.heap.size, 0, none⟩ (.int .i64 0)).setCell ⟨w.heap.size, 1, none⟩ (.int .i64 0)).setCell ⟨w.heap.size, 2, none⟩ (.bool false)).setCell ⟨w.heap.size, 3, none⟩ (.int .i64 0)).setCell ⟨w.heap.size, 4, none⟩ (.int .i64 0)).setCell ⟨w.heap.size, 5, none⟩ (.string ⟨#[]⟩)).heap[w.heap.size]? = some (.cells #[.int .i64 0, .int .i64 0, .bool false, .int .i64 0, .int .i64 0, .string ⟨#[]⟩] 27 (0, 0)) := (heap_set (heap_set (heap_set (heap_set (heap_set (heap_set G19.out))))))
      have bF : Below w.heap.size w ((((((w19.setCell ⟨w.heap.size, 0, none⟩ (.int .i64 0)).setCell ⟨w.heap.size, 1, none⟩ (.int .i64 0)).setCell ⟨w.heap.size, 2, none⟩ (.bool false)).setCell ⟨w.heap.size, 3, none⟩ (.int .i64 0)).setCell ⟨w.heap.size, 4, none⟩ (.int .i64 0)).setCell ⟨w.heap.size, 5, none⟩ (.string ⟨#[]⟩)) := ((((((B19.setCell (Nat.le_refl _) _).setCell (Nat.le_refl _) _).setCell (Nat.le_refl _) _).setCell (Nat.le_refl _) _).setCell (Nat.le_refl _) _).setCell (Nat.le_refl _) _)
      go_wp2_with fail
      generalize ((((((w19.setCell ⟨w.heap.size, 0, none⟩ (.int .i64 0)).setCell ⟨w.heap.size, 1, none⟩ (.int .i64 0)).setCell ⟨w.heap.size, 2, none⟩ (.bool false)).setCell ⟨w.heap.size, 3, none⟩ (.int .i64 0)).setCell ⟨w.heap.size, 4, none⟩ (.int .i64 0)).setCell ⟨w.heap.size, 5, none⟩ (.string ⟨#[]⟩)) = wF at *
      have ff0 : wF.cell? ⟨w.heap.size, 0, none⟩ = some (.int .i64 0) := (cell_of gF).trans rfl
      have ff1 : wF.cell? ⟨w.heap.size, 1, none⟩ = some (.int .i64 0) := (cell_of gF).trans rfl
      have ff2 : wF.cell? ⟨w.heap.size, 2, none⟩ = some (.bool false) := (cell_of gF).trans rfl
      have ff3 : wF.cell? ⟨w.heap.size, 3, none⟩ = some (.int .i64 0) := (cell_of gF).trans rfl
      have ff4 : wF.cell? ⟨w.heap.size, 4, none⟩ = some (.int .i64 0) := (cell_of gF).trans rfl
      have ff5 : wF.cell? ⟨w.heap.size, 5, none⟩ = some (.string ⟨#[]⟩) := (cell_of gF).trans rfl
      exact bodyPost_ret (v := .tuple #[.agg #[.int .i64 0, .int .i64 0, .bool false, .int .i64 0, .int .i64 0, .string ⟨#[]⟩], .int .i64 0]) (by simp [results, Tryz.results16, go_sem, ff0, ff1, ff2, ff3, ff4, ff5]) rfl ⟨rfl, bF⟩
    · have hne : ((E : Int) != 0) = true := by rw [bne_iff_ne]; omega
      have gF : ((((((w19.setCell ⟨w.heap.size, 0, none⟩ (.int .i64 0)).setCell ⟨w.heap.size, 1, none⟩ (.int .i64 0)).setCell ⟨w.heap.size, 2, none⟩ (.bool false)).setCell ⟨w.heap.size, 3, none⟩ (.int .i64 0)).setCell ⟨w.heap.size, 4, none⟩ (.int .i64 0)).setCell ⟨w.heap.size, 5, none⟩ (.string ⟨#[]⟩)).heap[w.heap.size]? = some (.cells #[.int .i64 0, .int .i64 0, .bool false, .int .i64 0, .int .i64 0, .string ⟨#[]⟩] 27 (0, 0)) := (heap_set (heap_set (heap_set (heap_set (heap_set (heap_set G19.out))))))
      have bF : Below w.heap.size w ((((((w19.setCell ⟨w.heap.size, 0, none⟩ (.int .i64 0)).setCell ⟨w.heap.size, 1, none⟩ (.int .i64 0)).setCell ⟨w.heap.size, 2, none⟩ (.bool false)).setCell ⟨w.heap.size, 3, none⟩ (.int .i64 0)).setCell ⟨w.heap.size, 4, none⟩ (.int .i64 0)).setCell ⟨w.heap.size, 5, none⟩ (.string ⟨#[]⟩)) := ((((((B19.setCell (Nat.le_refl _) _).setCell (Nat.le_refl _) _).setCell (Nat.le_refl _) _).setCell (Nat.le_refl _) _).setCell (Nat.le_refl _) _).setCell (Nat.le_refl _) _)
      go_wp2_with fail
      generalize ((((((w19.setCell ⟨w.heap.size, 0, none⟩ (.int .i64 0)).setCell ⟨w.heap.size, 1, none⟩ (.int .i64 0)).setCell ⟨w.heap.size, 2, none⟩ (.bool false)).setCell ⟨w.heap.size, 3, none⟩ (.int .i64 0)).setCell ⟨w.heap.size, 4, none⟩ (.int .i64 0)).setCell ⟨w.heap.size, 5, none⟩ (.string ⟨#[]⟩)) = wF at *
      have ff0 : wF.cell? ⟨w.heap.size, 0, none⟩ = some (.int .i64 0) := (cell_of gF).trans rfl
      have ff1 : wF.cell? ⟨w.heap.size, 1, none⟩ = some (.int .i64 0) := (cell_of gF).trans rfl
      have ff2 : wF.cell? ⟨w.heap.size, 2, none⟩ = some (.bool false) := (cell_of gF).trans rfl
      have ff3 : wF.cell? ⟨w.heap.size, 3, none⟩ = some (.int .i64 0) := (cell_of gF).trans rfl
      have ff4 : wF.cell? ⟨w.heap.size, 4, none⟩ = some (.int .i64 0) := (cell_of gF).trans rfl
      have ff5 : wF.cell? ⟨w.heap.size, 5, none⟩ = some (.string ⟨#[]⟩) := (cell_of gF).trans rfl
      exact bodyPost_ret (v := .tuple #[.agg #[.int .i64 0, .int .i64 0, .bool false, .int .i64 0, .int .i64 0, .string ⟨#[]⟩], .int .i64 E]) (by simp [results, Tryz.results16, go_sem, ff0, ff1, ff2, ff3, ff4, ff5]) rfl ⟨by rw [ra2_no hE0], bF⟩
set_option maxHeartbeats 1000000 in
set_option maxRecDepth 20000 in
theorem rrep_zcut (s : ByteArray) (x k2 e2 : Nat) (E : Nat) (w : World) (hs : s.size ≤ 9223372036854775807) (h0 : fx 1 s 0 0 = (0, 1, 0)) (h1 : fx 4 s 1 0 = (x, k2, e2)) (hR : wrap32 (x : Int) = 0) (he : e2 ≠ 0) (hE : fl 0 (dq s k2 e2) = E) :
    Calls Tryz.prog 16 #[.string s] w fun e w' => e = .returned (ra2 #[.int .i64 0, .int .i64 0, .bool false, .int .i64 0, .int .i64 0, .string ⟨#[]⟩] #[.int .i64 0, .int .i64 0, .bool false, .int .i64 0, .int .i64 0, .string ⟨#[]⟩] E) ∧ Below w.heap.size w w' := by
  have hk1 := fxle (Nat.zero_le _) h0
  have hk2 := fxle hk1 h1
  have heb : ((e2 : Int) == 0) = false := by rw [beq_eq_false_iff_ne]; omega
  have g1 : (w.alloc (.cells #[.int .i64 0, .int .i64 0, .bool false, .int .i64 0, .int .i64 0, .string ⟨#[]⟩] 27)).heap[w.heap.size]? = some (.cells #[.int .i64 0, .int .i64 0, .bool false, .int .i64 0, .int .i64 0, .string ⟨#[]⟩] 27 (0, 0)) := heap_new _ _
  have b1 : Below w.heap.size w (w.alloc (.cells #[.int .i64 0, .int .i64 0, .bool false, .int .i64 0, .int .i64 0, .string ⟨#[]⟩] 27)) := (Below.refl _ _).alloc (Nat.le_refl _) _
  go_enter Tryz.func16, Tryz.ntmps16
  go_wp2_with fail
  generalize w.alloc (.cells #[.int .i64 0, .int .i64 0, .bool false, .int .i64 0, .int .i64 0, .string ⟨#[]⟩] 27) = w1 at *
  have hlt := lt_of_heap g1
  refine (rnew_any s w1).mono ?_
  rintro e w2 ⟨rfl, h2, b2⟩
  have hqz : w.heap.size < w1.heap.size + 1 ∧ w.heap.size < w1.heap.size := by omega
  generalize w1.heap.size + 1 = q at *
  have g2 : w2.heap[w.heap.size]? = _ := (b2.block _ hlt).trans g1
  have bb2 : Below w.heap.size w w2 := b1.trans (b2.mono (by omega))
  generalize w1.heap.size = b at *
  have G2 := hid g2
  have B2 := hid bb2
  clear g1 b1 g2 b2 bb2 hlt
  go_wp2_with fail
  refine (rkind_any q b 0 s 0 0 _ _ _ w2 h2 (Nat.zero_le _) hs h0).mono ?_
  rintro e w3 ⟨rfl, h3, hc3⟩
  have g3 : w3.heap[w.heap.size]? = _ := (hc3.block _ (lt_of_heap G2.out) (by omega)).trans G2.out
  have C3 : Hid (Ch (fun i => i = b ∨ i = q) w w3) := hid ((Ch.of_below (S := fun i => i = b ∨ i = q) (B2.out.mono (Nat.le_refl _))).trans hc3)
  have h4 : RS (w3.alloc (.cells #[.int .i64 0, .int .i64 0, .bool false, .int .i64 0, .int .i64 0, .string ⟨#[]⟩] 27)) q b s 1 0 0 := h3.below ((Below.refl _ _).alloc (Nat.le_refl _) _)
  have g4 : (w3.alloc (.cells #[.int .i64 0, .int .i64 0, .bool false, .int .i64 0, .int .i64 0, .string ⟨#[]⟩] 27)).heap[w.heap.size]? = some (.cells #[.int .i64 0, .int .i64 0, .bool false, .int .i64 0, .int .i64 0, .string ⟨#[]⟩] 27 (0, 0)) := heap_alloc_at g3
  have r4 : (w3.alloc (.cells #[.int .i64 0, .int .i64 0, .bool false, .int .i64 0, .int .i64 0, .string ⟨#[]⟩] 27)).heap[w3.heap.size]? = some (.cells #[.int .i64 0, .int .i64 0, .bool false, .int .i64 0, .int .i64 0, .string ⟨#[]⟩] 27 (0, 0)) := heap_new _ _
  have C4 : Hid (Ch (fun i => i = b ∨ i = q) w (w3.alloc (.cells #[.int .i64 0, .int .i64 0, .bool false, .int .i64 0, .int .i64 0, .string ⟨#[]⟩] 27))) := hid (C3.out.alloc _)
  have hG : w3.heap.size ≠ q ∧ w3.heap.size ≠ b := ⟨by have := h3.ltq; omega, by have := h3.ltb; omega⟩
  have hwG : w.heap.size < w3.heap.size := lt_of_heap g3
  clear hc3 g3 C3 G2 B2 h2 h3
  go_wp2_with fail
  generalize w3.alloc (.cells #[.int .i64 0, .int .i64 0, .bool false, .int .i64 0, .int .i64 0, .string ⟨#[]⟩] 27) = w4 at *
  generalize w3.heap.size = G at *
  have hlt := lt_of_heap r4
  have c0 : w4.cell? ⟨G, 0, none⟩ = some (.int .i64 0) := (cell_of r4).trans rfl
  have G4 := hid g4
  have R4 := hid r4
  have H4 := hid h4
  have HK : Hid (∀ y, Below w4.heap.size w4 y → y.cell? ⟨G, 0, none⟩ = some (.int .i64 0)) := hid (fun y hy => (hy.cell (p := ⟨G, 0, none⟩) hlt).trans c0)
  have M0 : Below w4.heap.size w4 w4 := Below.refl _ _
  clear g4 r4 h4
  go_cut [6, 7] (fun v6 v7 wc => ∃ L, v6 = .pointer (some ⟨L, 0, none⟩) ∧ v7 = .bool false ∧ Hid (Below w4.heap.size w4 wc) ∧ Hid (wc.heap[L]? = some (.cells #[.nilFunc, .nilFunc] 72 (0, 0))) ∧ Hid (w4.heap.size ≤ L))
  case first =>
    go_region_held3 (fun y => y.cell? ⟨G, 0, none⟩ = some (.int .i64 0)) (((with_reducible refine HK.out _ ?_); repeat (first | with_reducible exact M0 | with_reducible refine Below.drew ?_ | with_reducible refine Below.alloc ?_ (by simp <;> omega) _))) ((first | (go_at_call 29; refine (ptable_any _).mono ?_; rintro e w' ⟨rfl, rfl⟩) | (go_at_call 28; refine (pfind_no _ _ _ (by omega)).mono ?_; rintro e w' ⟨rfl, rfl⟩)))
    · go_wp2
      go_meet
      case rel =>
        refine ⟨_, rfl, rfl, ?_, hid (hd_drew (heap_new' _ _ _ (by simp))), hid (by omega)⟩
        refine hid ?_
        repeat (first | with_reducible exact M0 | with_reducible refine Below.drew ?_ | with_reducible refine Below.alloc ?_ (by simp <;> omega) _)
    · go_wp2
      go_meet
      case rel =>
        refine ⟨_, rfl, rfl, ?_, hid (hd_drew (heap_alloc_at (heap_new' _ _ _ (by simp)))), hid (by omega)⟩
        refine hid ?_
        repeat (first | with_reducible exact M0 | with_reducible refine Below.drew ?_ | with_reducible refine Below.alloc ?_ (by simp <;> omega) _)
    · go_wp2
      go_meet
      case rel =>
        refine ⟨_, rfl, rfl, ?_, hid (hd_drew (heap_alloc_at (heap_alloc_at (heap_alloc_at (heap_new _ _))))), hid (by omega)⟩
        refine hid ?_
        repeat (first | with_reducible exact M0 | with_reducible refine Below.drew ?_ | with_reducible refine Below.alloc ?_ (by simp <;> omega) _)
  case rest =>
    obtain ⟨L, rfl, rfl, HB, HL, HLE⟩ := hcut
    have hsz := HB.out.size
    have G5 : Hid (wc.heap[w.heap.size]? = some (.cells #[.int .i64 0, .int .i64 0, .bool false, .int .i64 0, .int .i64 0, .string ⟨#[]⟩] 27 (0, 0))) := hid ((HB.out.block _ (lt_of_heap G4.out)).trans G4.out)
    have r5 : wc.heap[G]? = some (.cells #[.int .i64 0, .int .i64 0, .bool false, .int .i64 0, .int .i64 0, .string ⟨#[]⟩] 27 (0, 0)) := (HB.out.block _ hlt).trans R4.out
    have h5 : RS wc q b s 1 0 0 := H4.out.below HB.out
    have C5 : Hid (Ch (fun i => i = b ∨ i = q) w wc) := hid (C4.out.trans (Ch.of_below HB.out))
    have hLq : L ≠ q ∧ L ≠ b ∧ L ≠ G := ⟨by have := H4.out.ltq; have := HLE.out; omega, by have := H4.out.ltb; have := HLE.out; omega, by have := HLE.out; omega⟩
    have hLw := lt_of_heap HL.out
    have k5 : wc.cell? ⟨G, 0, none⟩ = some (.int .i64 0) := (cell_of r5).trans rfl
    have R5 := hid r5
    clear r5 G4 R4 H4 C4 HB HK M0 c0 HLE
    go_wp2_with fail
    have CR := rrefuse_any q b 0 s 1 0 6 false wc h5
    rw [show rf false 6 0 0 = 0 from by exact rf_no _ _ _] at CR
    refine CR.mono ?_
    rintro e w6 ⟨rfl, h6, hc6⟩
    have G6 : Hid (w6.heap[w.heap.size]? = _) := hid ((hc6.block _ (lt_of_heap G5.out) (by omega)).trans G5.out)
    have R6 : Hid (w6.heap[G]? = _) := hid ((hc6.block _ (lt_of_heap R5.out) (by omega)).trans R5.out)
    have L6 : Hid (w6.heap[L]? = _) := hid ((hc6.block _ (lt_of_heap HL.out) (by omega)).trans HL.out)
    have C6 := hid (C5.out.trans hc6)
    clear hc6 h5 G5 R5 HL C5 CR k5
    go_wp2_with fail
    have CE := rerrno_any q b 0 s 1 0 x k2 e2 w6 h6 hk1 hs h1
    rw [hR] at CE
    refine CE.mono ?_
    rintro e w7 ⟨rfl, h7, hc7⟩
    have G7 : Hid (w7.heap[w.heap.size]? = _) := hid ((hc7.block _ (lt_of_heap G6.out) (by omega)).trans G6.out)
    have r7 : w7.heap[G]? = _ := (hc7.block _ (lt_of_heap R6.out) (by omega)).trans R6.out
    have L7 : Hid (w7.heap[L]? = _) := hid ((hc7.block _ (lt_of_heap L6.out) (by omega)).trans L6.out)
    have d1 : w7.cell? ⟨G, 1, none⟩ = some (.int .i64 0) := (cell_of r7).trans rfl
    have z1 := froz_of (i := 1) r7
    have r8 : (w7.setCell ⟨G, 1, none⟩ (.int .i64 0)).heap[G]? = some (.cells #[.int .i64 0, .int .i64 0, .bool false, .int .i64 0, .int .i64 0, .string ⟨#[]⟩] 27 (0, 0)) := heap_set r7
    have G8 : Hid ((w7.setCell ⟨G, 1, none⟩ (.int .i64 0)).heap[w.heap.size]? = _) := hid (heap_set_far G7.out (by show w.heap.size ≠ G; omega))
    have L8 : Hid ((w7.setCell ⟨G, 1, none⟩ (.int .i64 0)).heap[L]? = _) := hid (heap_set_far L7.out (by show L ≠ G; omega))
    have h8 : RS (w7.setCell ⟨G, 1, none⟩ (.int .i64 0)) q b s k2 e2 0 := rs_set h7 hG.1 hG.2
    have C8 : Hid (Ch (fun i => i = b ∨ i = q ∨ i = G) w (w7.setCell ⟨G, 1, none⟩ (.int .i64 0))) := hid ((ch3 (C6.out.trans hc7)).setCell _ _ (fun _ => Or.inr (Or.inr rfl)))
    have k8 : (w7.setCell ⟨G, 1, none⟩ (.int .i64 0)).cell? ⟨G, 1, none⟩ = some (.int .i64 0) := (cell_of r8).trans rfl
    have R8 := hid r8
    clear r7 r8 hc7 h7 h6 G6 R6 L6 C6 CE G7 L7
    go_wp2_with fail
    generalize w7.setCell ⟨G, 1, none⟩ (.int .i64 0) = w8 at *
    have CR := rrefuse_any q b 0 s k2 e2 1 false w8 h8
    rw [show rf false 1 0 e2 = 0 from by exact rf_no _ _ _] at CR
    refine CR.mono ?_
    rintro e w9 ⟨rfl, h9, hc9⟩
    have G9 : Hid (w9.heap[w.heap.size]? = _) := hid ((hc9.block _ (lt_of_heap G8.out) (by omega)).trans G8.out)
    have r9 : w9.heap[G]? = _ := (hc9.block _ (lt_of_heap R8.out) (by omega)).trans R8.out
    have L9 : Hid (w9.heap[L]? = _) := hid ((hc9.block _ (lt_of_heap L8.out) (by omega)).trans L8.out)
    have C9 := hid (C8.out.trans (ch3 hc9))
    have k9 : w9.cell? ⟨G, 0, none⟩ = some (.int .i64 0) := (cell_of r9).trans rfl
    have j9 : w9.cell? ⟨G, 1, none⟩ = some (.int .i64 0) := (cell_of r9).trans rfl
    have R9 := hid r9
    clear hc9 h8 G8 R8 L8 C8 CR k8 r9 d1 z1
    go_wp2_with fail
    have CR := rrefuse_any q b 0 s k2 e2 6 true w9 h9
    rw [show rf true 6 0 e2 = 0 from by unfold rf fl; simp [he]] at CR
    refine CR.mono ?_
    rintro e w10 ⟨rfl, h10, hc10⟩
    have G10 : Hid (w10.heap[w.heap.size]? = _) := hid ((hc10.block _ (lt_of_heap G9.out) (by omega)).trans G9.out)
    have r10 : w10.heap[G]? = _ := (hc10.block _ (lt_of_heap R9.out) (by omega)).trans R9.out
    have L10 : Hid (w10.heap[L]? = _) := hid ((hc10.block _ (lt_of_heap L9.out) (by omega)).trans L9.out)
    have C10 := hid (C9.out.trans (ch3 hc10))
    have j10 : w10.cell? ⟨G, 1, none⟩ = some (.int .i64 0) := (cell_of r10).trans rfl
    have R10 := hid r10
    clear hc10 h9 G9 R9 L9 C9 CR k9 j9 r10
    go_wp2_with fail
    refine (rfailed_any q b 0 s k2 e2 w10 h10).mono ?_
    rintro e w11 ⟨rfl, rfl⟩
    rw [show fl 0 e2 = e2 from by first | rfl | decide | assumption]
    go_wp2_with fail
    have CD := hid (rdone17_any q b 0 s k2 e2 w11 h10 hk2 hs)
    have G18 := G10
    have HR18 := R10
    have C18 := C10
    have h18 := h10
    clear G10 R10 C10 h10 L10 j10
    generalize w11 = w18 at *
    rw [hE] at CD
    refine CD.out.mono ?_
    rintro e w19 ⟨rfl, n1, rfl⟩
    have g19 : (w18.drewN n1).heap[w.heap.size]? = some (.cells #[.int .i64 0, .int .i64 0, .bool false, .int .i64 0, .int .i64 0, .string ⟨#[]⟩] 27 (0, 0)) := G18.out
    have r19 : (w18.drewN n1).heap[G]? = some (.cells #[.int .i64 0, .int .i64 0, .bool false, .int .i64 0, .int .i64 0, .string ⟨#[]⟩] 27 (0, 0)) := HR18.out
    have C19 : Hid (Ch (fun i => i = b ∨ i = q ∨ i = G) w (w18.drewN n1)) := hid (C18.out.drewN n1)
    clear CD h18 G18 HR18 C18
    generalize w18.drewN n1 = w19 at *
    have xx0 : w19.cell? ⟨w.heap.size, 0, none⟩ = some (.int .i64 0) := (cell_of g19).trans rfl
    have xx1 : w19.cell? ⟨w.heap.size, 1, none⟩ = some (.int .i64 0) := (cell_of g19).trans rfl
    have xx2 : w19.cell? ⟨w.heap.size, 2, none⟩ = some (.bool false) := (cell_of g19).trans rfl
    have xx3 : w19.cell? ⟨w.heap.size, 3, none⟩ = some (.int .i64 0) := (cell_of g19).trans rfl
    have xx4 : w19.cell? ⟨w.heap.size, 4, none⟩ = some (.int .i64 0) := (cell_of g19).trans rfl
    have xx5 : w19.cell? ⟨w.heap.size, 5, none⟩ = some (.string ⟨#[]⟩) := (cell_of g19).trans rfl
    have zz0 := froz_of (i := 0) g19
    have zz1 := froz_of (i := 1) g19
    have zz2 := froz_of (i := 2) g19
    have zz3 := froz_of (i := 3) g19
    have zz4 := froz_of (i := 4) g19
    have zz5 := froz_of (i := 5) g19
    have yy0 : w19.cell? ⟨G, 0, none⟩ = some (.int .i64 0) := (cell_of r19).trans rfl
    have yy1 : w19.cell? ⟨G, 1, none⟩ = some (.int .i64 0) := (cell_of r19).trans rfl
    have yy2 : w19.cell? ⟨G, 2, none⟩ = some (.bool false) := (cell_of r19).trans rfl
    have yy3 : w19.cell? ⟨G, 3, none⟩ = some (.int .i64 0) := (cell_of r19).trans rfl
    have yy4 : w19.cell? ⟨G, 4, none⟩ = some (.int .i64 0) := (cell_of r19).trans rfl
    have yy5 : w19.cell? ⟨G, 5, none⟩ = some (.string ⟨#[]⟩) := (cell_of r19).trans rfl
    have G19 := hid g19
    clear g19 r19
    have B19 : Below w.heap.size w w19 := C19.out.below (Nat.le_refl _) (fun i hi => by rintro (h | h | h) <;> omega)
    have hr19 := lt_of_heap G19.out
    clear C19
    by_cases hE0 : E = 0
    · subst hE0
      have gF : ((((((w19.setCell ⟨w.heap.size, 0, none⟩ (.int .i64 0)).setCell ⟨w.heap.size, 1, none⟩ (.int .i64 0)).setCell ⟨w.heap.size, 2, none⟩ (.bool false)).setCell ⟨w.heap.size, 3, none⟩ (.int .i64 0)).setCell ⟨w.heap.size, 4, none⟩ (.int .i64 0)).setCell ⟨w.heap.size, 5, none⟩ (.string ⟨#[]⟩)).heap[w.heap.size]? = some (.cells #[.int .i64 0, .int .i64 0, .bool false, .int .i64 0, .int .i64 0, .string ⟨#[]⟩] 27 (0, 0)) := (heap_set (heap_set (heap_set (heap_set (heap_set (heap_set G19.out))))))
      have bF : Below w.heap.size w ((((((w19.setCell ⟨w.heap.size, 0, none⟩ (.int .i64 0)).setCell ⟨w.heap.size, 1, none⟩ (.int .i64 0)).setCell ⟨w.heap.size, 2, none⟩ (.bool false)).setCell ⟨w.heap.size, 3, none⟩ (.int .i64 0)).setCell ⟨w.heap.size, 4, none⟩ (.int .i64 0)).setCell ⟨w.heap.size, 5, none⟩ (.string ⟨#[]⟩)) := ((((((B19.setCell (Nat.le_refl _) _).setCell (Nat.le_refl _) _).setCell (Nat.le_refl _) _).setCell (Nat.le_refl _) _).setCell (Nat.le_refl _) _).setCell (Nat.le_refl _) _)
      go_wp2_with fail
      generalize ((((((w19.setCell ⟨w.heap.size, 0, none⟩ (.int .i64 0)).setCell ⟨w.heap.size, 1, none⟩ (.int .i64 0)).setCell ⟨w.heap.size, 2, none⟩ (.bool false)).setCell ⟨w.heap.size, 3, none⟩ (.int .i64 0)).setCell ⟨w.heap.size, 4, none⟩ (.int .i64 0)).setCell ⟨w.heap.size, 5, none⟩ (.string ⟨#[]⟩)) = wF at *
      have ff0 : wF.cell? ⟨w.heap.size, 0, none⟩ = some (.int .i64 0) := (cell_of gF).trans rfl
      have ff1 : wF.cell? ⟨w.heap.size, 1, none⟩ = some (.int .i64 0) := (cell_of gF).trans rfl
      have ff2 : wF.cell? ⟨w.heap.size, 2, none⟩ = some (.bool false) := (cell_of gF).trans rfl
      have ff3 : wF.cell? ⟨w.heap.size, 3, none⟩ = some (.int .i64 0) := (cell_of gF).trans rfl
      have ff4 : wF.cell? ⟨w.heap.size, 4, none⟩ = some (.int .i64 0) := (cell_of gF).trans rfl
      have ff5 : wF.cell? ⟨w.heap.size, 5, none⟩ = some (.string ⟨#[]⟩) := (cell_of gF).trans rfl
      exact bodyPost_ret (v := .tuple #[.agg #[.int .i64 0, .int .i64 0, .bool false, .int .i64 0, .int .i64 0, .string ⟨#[]⟩], .int .i64 0]) (by simp [results, Tryz.results16, go_sem, ff0, ff1, ff2, ff3, ff4, ff5]) rfl ⟨rfl, bF⟩
    · have hne : ((E : Int) != 0) = true := by rw [bne_iff_ne]; omega
      have gF : ((((((w19.setCell ⟨w.heap.size, 0, none⟩ (.int .i64 0)).setCell ⟨w.heap.size, 1, none⟩ (.int .i64 0)).setCell ⟨w.heap.size, 2, none⟩ (.bool false)).setCell ⟨w.heap.size, 3, none⟩ (.int .i64 0)).setCell ⟨w.heap.size, 4, none⟩ (.int .i64 0)).setCell ⟨w.heap.size, 5, none⟩ (.string ⟨#[]⟩)).heap[w.heap.size]? = some (.cells #[.int .i64 0, .int .i64 0, .bool false, .int .i64 0, .int .i64 0, .string ⟨#[]⟩] 27 (0, 0)) := (heap_set (heap_set (heap_set (heap_set (heap_set (heap_set G19.out))))))
      have bF : Below w.heap.size w ((((((w19.setCell ⟨w.heap.size, 0, none⟩ (.int .i64 0)).setCell ⟨w.heap.size, 1, none⟩ (.int .i64 0)).setCell ⟨w.heap.size, 2, none⟩ (.bool false)).setCell ⟨w.heap.size, 3, none⟩ (.int .i64 0)).setCell ⟨w.heap.size, 4, none⟩ (.int .i64 0)).setCell ⟨w.heap.size, 5, none⟩ (.string ⟨#[]⟩)) := ((((((B19.setCell (Nat.le_refl _) _).setCell (Nat.le_refl _) _).setCell (Nat.le_refl _) _).setCell (Nat.le_refl _) _).setCell (Nat.le_refl _) _).setCell (Nat.le_refl _) _)
      go_wp2_with fail
      generalize ((((((w19.setCell ⟨w.heap.size, 0, none⟩ (.int .i64 0)).setCell ⟨w.heap.size, 1, none⟩ (.int .i64 0)).setCell ⟨w.heap.size, 2, none⟩ (.bool false)).setCell ⟨w.heap.size, 3, none⟩ (.int .i64 0)).setCell ⟨w.heap.size, 4, none⟩ (.int .i64 0)).setCell ⟨w.heap.size, 5, none⟩ (.string ⟨#[]⟩)) = wF at *
      have ff0 : wF.cell? ⟨w.heap.size, 0, none⟩ = some (.int .i64 0) := (cell_of gF).trans rfl
      have ff1 : wF.cell? ⟨w.heap.size, 1, none⟩ = some (.int .i64 0) := (cell_of gF).trans rfl
      have ff2 : wF.cell? ⟨w.heap.size, 2, none⟩ = some (.bool false) := (cell_of gF).trans rfl
      have ff3 : wF.cell? ⟨w.heap.size, 3, none⟩ = some (.int .i64 0) := (cell_of gF).trans rfl
      have ff4 : wF.cell? ⟨w.heap.size, 4, none⟩ = some (.int .i64 0) := (cell_of gF).trans rfl
      have ff5 : wF.cell? ⟨w.heap.size, 5, none⟩ = some (.string ⟨#[]⟩) := (cell_of gF).trans rfl
      exact bodyPost_ret (v := .tuple #[.agg #[.int .i64 0, .int .i64 0, .bool false, .int .i64 0, .int .i64 0, .string ⟨#[]⟩], .int .i64 E]) (by simp [results, Tryz.results16, go_sem, ff0, ff1, ff2, ff3, ff4, ff5]) rfl ⟨by rw [ra2_no hE0], bF⟩
set_option maxHeartbeats 1000000 in
set_option maxRecDepth 20000 in
theorem rrep_empty (s : ByteArray) (x k2 : Nat) (E : Nat) (w : World) (hs : s.size ≤ 9223372036854775807) (h0 : fx 1 s 0 0 = (0, 0, 20)) (h1 : fx 4 s 0 20 = (x, k2, 20)) (hR : wrap32 (x : Int) = 0) (hE : fl 0 (dq s k2 20) = E) :
    Calls Tryz.prog 16 #[.string s] w fun e w' => e = .returned (ra2 #[.int .i64 0, .int .i64 0, .bool false, .int .i64 0, .int .i64 0, .string ⟨#[]⟩] #[.int .i64 0, .int .i64 0, .bool false, .int .i64 0, .int .i64 0, .string ⟨#[]⟩] E) ∧ Below w.heap.size w w' := by
  have hk1 := fxle (Nat.zero_le _) h0
  have hk2 := fxle hk1 h1
  have g1 : (w.alloc (.cells #[.int .i64 0, .int .i64 0, .bool false, .int .i64 0, .int .i64 0, .string ⟨#[]⟩] 27)).heap[w.heap.size]? = some (.cells #[.int .i64 0, .int .i64 0, .bool false, .int .i64 0, .int .i64 0, .string ⟨#[]⟩] 27 (0, 0)) := heap_new _ _
  have b1 : Below w.heap.size w (w.alloc (.cells #[.int .i64 0, .int .i64 0, .bool false, .int .i64 0, .int .i64 0, .string ⟨#[]⟩] 27)) := (Below.refl _ _).alloc (Nat.le_refl _) _
  go_enter Tryz.func16, Tryz.ntmps16
  go_wp2_with fail
  generalize w.alloc (.cells #[.int .i64 0, .int .i64 0, .bool false, .int .i64 0, .int .i64 0, .string ⟨#[]⟩] 27) = w1 at *
  have hlt := lt_of_heap g1
  refine (rnew_any s w1).mono ?_
  rintro e w2 ⟨rfl, h2, b2⟩
  have hqz : w.heap.size < w1.heap.size + 1 ∧ w.heap.size < w1.heap.size := by omega
  generalize w1.heap.size + 1 = q at *
  have g2 : w2.heap[w.heap.size]? = _ := (b2.block _ hlt).trans g1
  have bb2 : Below w.heap.size w w2 := b1.trans (b2.mono (by omega))
  generalize w1.heap.size = b at *
  have G2 := hid g2
  have B2 := hid bb2
  clear g1 b1 g2 b2 bb2 hlt
  go_wp2_with fail
  refine (rkind_any q b 0 s 0 0 _ _ _ w2 h2 (Nat.zero_le _) hs h0).mono ?_
  rintro e w3 ⟨rfl, h3, hc3⟩
  have g3 : w3.heap[w.heap.size]? = _ := (hc3.block _ (lt_of_heap G2.out) (by omega)).trans G2.out
  have C3 : Hid (Ch (fun i => i = b ∨ i = q) w w3) := hid ((Ch.of_below (S := fun i => i = b ∨ i = q) (B2.out.mono (Nat.le_refl _))).trans hc3)
  have h4 : RS (w3.alloc (.cells #[.int .i64 0, .int .i64 0, .bool false, .int .i64 0, .int .i64 0, .string ⟨#[]⟩] 27)) q b s 0 20 0 := h3.below ((Below.refl _ _).alloc (Nat.le_refl _) _)
  have g4 : (w3.alloc (.cells #[.int .i64 0, .int .i64 0, .bool false, .int .i64 0, .int .i64 0, .string ⟨#[]⟩] 27)).heap[w.heap.size]? = some (.cells #[.int .i64 0, .int .i64 0, .bool false, .int .i64 0, .int .i64 0, .string ⟨#[]⟩] 27 (0, 0)) := heap_alloc_at g3
  have r4 : (w3.alloc (.cells #[.int .i64 0, .int .i64 0, .bool false, .int .i64 0, .int .i64 0, .string ⟨#[]⟩] 27)).heap[w3.heap.size]? = some (.cells #[.int .i64 0, .int .i64 0, .bool false, .int .i64 0, .int .i64 0, .string ⟨#[]⟩] 27 (0, 0)) := heap_new _ _
  have C4 : Hid (Ch (fun i => i = b ∨ i = q) w (w3.alloc (.cells #[.int .i64 0, .int .i64 0, .bool false, .int .i64 0, .int .i64 0, .string ⟨#[]⟩] 27))) := hid (C3.out.alloc _)
  have hG : w3.heap.size ≠ q ∧ w3.heap.size ≠ b := ⟨by have := h3.ltq; omega, by have := h3.ltb; omega⟩
  have hwG : w.heap.size < w3.heap.size := lt_of_heap g3
  clear hc3 g3 C3 G2 B2 h2 h3
  go_wp2_with fail
  generalize w3.alloc (.cells #[.int .i64 0, .int .i64 0, .bool false, .int .i64 0, .int .i64 0, .string ⟨#[]⟩] 27) = w4 at *
  generalize w3.heap.size = G at *
  have hlt := lt_of_heap r4
  have c0 : w4.cell? ⟨G, 0, none⟩ = some (.int .i64 0) := (cell_of r4).trans rfl
  have G4 := hid g4
  have R4 := hid r4
  have H4 := hid h4
  have HK : Hid (∀ y, Below w4.heap.size w4 y → y.cell? ⟨G, 0, none⟩ = some (.int .i64 0)) := hid (fun y hy => (hy.cell (p := ⟨G, 0, none⟩) hlt).trans c0)
  have M0 : Below w4.heap.size w4 w4 := Below.refl _ _
  clear g4 r4 h4
  go_cut [6, 7] (fun v6 v7 wc => ∃ L, v6 = .pointer (some ⟨L, 0, none⟩) ∧ v7 = .bool false ∧ Hid (Below w4.heap.size w4 wc) ∧ Hid (wc.heap[L]? = some (.cells #[.nilFunc, .nilFunc] 72 (0, 0))) ∧ Hid (w4.heap.size ≤ L))
  case first =>
    go_region_held3 (fun y => y.cell? ⟨G, 0, none⟩ = some (.int .i64 0)) (((with_reducible refine HK.out _ ?_); repeat (first | with_reducible exact M0 | with_reducible refine Below.drew ?_ | with_reducible refine Below.alloc ?_ (by simp <;> omega) _))) ((first | (go_at_call 29; refine (ptable_any _).mono ?_; rintro e w' ⟨rfl, rfl⟩) | (go_at_call 28; refine (pfind_no _ _ _ (by omega)).mono ?_; rintro e w' ⟨rfl, rfl⟩)))
    · go_wp2
      go_meet
      case rel =>
        refine ⟨_, rfl, rfl, ?_, hid (hd_drew (heap_new' _ _ _ (by simp))), hid (by omega)⟩
        refine hid ?_
        repeat (first | with_reducible exact M0 | with_reducible refine Below.drew ?_ | with_reducible refine Below.alloc ?_ (by simp <;> omega) _)
    · go_wp2
      go_meet
      case rel =>
        refine ⟨_, rfl, rfl, ?_, hid (hd_drew (heap_alloc_at (heap_new' _ _ _ (by simp)))), hid (by omega)⟩
        refine hid ?_
        repeat (first | with_reducible exact M0 | with_reducible refine Below.drew ?_ | with_reducible refine Below.alloc ?_ (by simp <;> omega) _)
    · go_wp2
      go_meet
      case rel =>
        refine ⟨_, rfl, rfl, ?_, hid (hd_drew (heap_alloc_at (heap_alloc_at (heap_alloc_at (heap_new _ _))))), hid (by omega)⟩
        refine hid ?_
        repeat (first | with_reducible exact M0 | with_reducible refine Below.drew ?_ | with_reducible refine Below.alloc ?_ (by simp <;> omega) _)
  case rest =>
    obtain ⟨L, rfl, rfl, HB, HL, HLE⟩ := hcut
    have hsz := HB.out.size
    have G5 : Hid (wc.heap[w.heap.size]? = some (.cells #[.int .i64 0, .int .i64 0, .bool false, .int .i64 0, .int .i64 0, .string ⟨#[]⟩] 27 (0, 0))) := hid ((HB.out.block _ (lt_of_heap G4.out)).trans G4.out)
    have r5 : wc.heap[G]? = some (.cells #[.int .i64 0, .int .i64 0, .bool false, .int .i64 0, .int .i64 0, .string ⟨#[]⟩] 27 (0, 0)) := (HB.out.block _ hlt).trans R4.out
    have h5 : RS wc q b s 0 20 0 := H4.out.below HB.out
    have C5 : Hid (Ch (fun i => i = b ∨ i = q) w wc) := hid (C4.out.trans (Ch.of_below HB.out))
    have hLq : L ≠ q ∧ L ≠ b ∧ L ≠ G := ⟨by have := H4.out.ltq; have := HLE.out; omega, by have := H4.out.ltb; have := HLE.out; omega, by have := HLE.out; omega⟩
    have hLw := lt_of_heap HL.out
    have k5 : wc.cell? ⟨G, 0, none⟩ = some (.int .i64 0) := (cell_of r5).trans rfl
    have R5 := hid r5
    clear r5 G4 R4 H4 C4 HB HK M0 c0 HLE
    go_wp2_with fail
    have CR := rrefuse_any q b 0 s 0 20 6 false wc h5
    rw [show rf false 6 0 20 = 0 from by exact rf_no _ _ _] at CR
    refine CR.mono ?_
    rintro e w6 ⟨rfl, h6, hc6⟩
    have G6 : Hid (w6.heap[w.heap.size]? = _) := hid ((hc6.block _ (lt_of_heap G5.out) (by omega)).trans G5.out)
    have R6 : Hid (w6.heap[G]? = _) := hid ((hc6.block _ (lt_of_heap R5.out) (by omega)).trans R5.out)
    have L6 : Hid (w6.heap[L]? = _) := hid ((hc6.block _ (lt_of_heap HL.out) (by omega)).trans HL.out)
    have C6 := hid (C5.out.trans hc6)
    clear hc6 h5 G5 R5 HL C5 CR k5
    go_wp2_with fail
    have CE := rerrno_any q b 0 s 0 20 x k2 20 w6 h6 hk1 hs h1
    rw [hR] at CE
    refine CE.mono ?_
    rintro e w7 ⟨rfl, h7, hc7⟩
    have G7 : Hid (w7.heap[w.heap.size]? = _) := hid ((hc7.block _ (lt_of_heap G6.out) (by omega)).trans G6.out)
    have r7 : w7.heap[G]? = _ := (hc7.block _ (lt_of_heap R6.out) (by omega)).trans R6.out
    have L7 : Hid (w7.heap[L]? = _) := hid ((hc7.block _ (lt_of_heap L6.out) (by omega)).trans L6.out)
    have d1 : w7.cell? ⟨G, 1, none⟩ = some (.int .i64 0) := (cell_of r7).trans rfl
    have z1 := froz_of (i := 1) r7
    have r8 : (w7.setCell ⟨G, 1, none⟩ (.int .i64 0)).heap[G]? = some (.cells #[.int .i64 0, .int .i64 0, .bool false, .int .i64 0, .int .i64 0, .string ⟨#[]⟩] 27 (0, 0)) := heap_set r7
    have G8 : Hid ((w7.setCell ⟨G, 1, none⟩ (.int .i64 0)).heap[w.heap.size]? = _) := hid (heap_set_far G7.out (by show w.heap.size ≠ G; omega))
    have L8 : Hid ((w7.setCell ⟨G, 1, none⟩ (.int .i64 0)).heap[L]? = _) := hid (heap_set_far L7.out (by show L ≠ G; omega))
    have h8 : RS (w7.setCell ⟨G, 1, none⟩ (.int .i64 0)) q b s k2 20 0 := rs_set h7 hG.1 hG.2
    have C8 : Hid (Ch (fun i => i = b ∨ i = q ∨ i = G) w (w7.setCell ⟨G, 1, none⟩ (.int .i64 0))) := hid ((ch3 (C6.out.trans hc7)).setCell _ _ (fun _ => Or.inr (Or.inr rfl)))
    have k8 : (w7.setCell ⟨G, 1, none⟩ (.int .i64 0)).cell? ⟨G, 1, none⟩ = some (.int .i64 0) := (cell_of r8).trans rfl
    have R8 := hid r8
    clear r7 r8 hc7 h7 h6 G6 R6 L6 C6 CE G7 L7
    go_wp2_with fail
    generalize w7.setCell ⟨G, 1, none⟩ (.int .i64 0) = w8 at *
    have CR := rrefuse_any q b 0 s k2 20 1 false w8 h8
    rw [show rf false 1 0 20 = 0 from by exact rf_no _ _ _] at CR
    refine CR.mono ?_
    rintro e w9 ⟨rfl, h9, hc9⟩
    have G9 : Hid (w9.heap[w.heap.size]? = _) := hid ((hc9.block _ (lt_of_heap G8.out) (by omega)).trans G8.out)
    have r9 : w9.heap[G]? = _ := (hc9.block _ (lt_of_heap R8.out) (by omega)).trans R8.out
    have L9 : Hid (w9.heap[L]? = _) := hid ((hc9.block _ (lt_of_heap L8.out) (by omega)).trans L8.out)
    have C9 := hid (C8.out.trans (ch3 hc9))
    have k9 : w9.cell? ⟨G, 0, none⟩ = some (.int .i64 0) := (cell_of r9).trans rfl
    have j9 : w9.cell? ⟨G, 1, none⟩ = some (.int .i64 0) := (cell_of r9).trans rfl
    have R9 := hid r9
    clear hc9 h8 G8 R8 L8 C8 CR k8 r9 d1 z1
    go_wp2_with fail
    have CR := rrefuse_any q b 0 s k2 20 6 true w9 h9
    rw [show rf true 6 0 20 = 0 from by decide] at CR
    refine CR.mono ?_
    rintro e w10 ⟨rfl, h10, hc10⟩
    have G10 : Hid (w10.heap[w.heap.size]? = _) := hid ((hc10.block _ (lt_of_heap G9.out) (by omega)).trans G9.out)
    have r10 : w10.heap[G]? = _ := (hc10.block _ (lt_of_heap R9.out) (by omega)).trans R9.out
    have L10 : Hid (w10.heap[L]? = _) := hid ((hc10.block _ (lt_of_heap L9.out) (by omega)).trans L9.out)
    have C10 := hid (C9.out.trans (ch3 hc10))
    have j10 : w10.cell? ⟨G, 1, none⟩ = some (.int .i64 0) := (cell_of r10).trans rfl
    have R10 := hid r10
    clear hc10 h9 G9 R9 L9 C9 CR k9 j9 r10
    go_wp2_with fail
    refine (rfailed_any q b 0 s k2 20 w10 h10).mono ?_
    rintro e w11 ⟨rfl, rfl⟩
    rw [show fl 0 20 = 20 from by first | rfl | decide | assumption]
    go_wp2_with fail
    have CD := hid (rdone17_any q b 0 s k2 20 w11 h10 hk2 hs)
    have G18 := G10
    have HR18 := R10
    have C18 := C10
    have h18 := h10
    clear G10 R10 C10 h10 L10 j10
    generalize w11 = w18 at *
    rw [hE] at CD
    refine CD.out.mono ?_
    rintro e w19 ⟨rfl, n1, rfl⟩
    have g19 : (w18.drewN n1).heap[w.heap.size]? = some (.cells #[.int .i64 0, .int .i64 0, .bool false, .int .i64 0, .int .i64 0, .string ⟨#[]⟩] 27 (0, 0)) := G18.out
    have r19 : (w18.drewN n1).heap[G]? = some (.cells #[.int .i64 0, .int .i64 0, .bool false, .int .i64 0, .int .i64 0, .string ⟨#[]⟩] 27 (0, 0)) := HR18.out
    have C19 : Hid (Ch (fun i => i = b ∨ i = q ∨ i = G) w (w18.drewN n1)) := hid (C18.out.drewN n1)
    clear CD h18 G18 HR18 C18
    generalize w18.drewN n1 = w19 at *
    have xx0 : w19.cell? ⟨w.heap.size, 0, none⟩ = some (.int .i64 0) := (cell_of g19).trans rfl
    have xx1 : w19.cell? ⟨w.heap.size, 1, none⟩ = some (.int .i64 0) := (cell_of g19).trans rfl
    have xx2 : w19.cell? ⟨w.heap.size, 2, none⟩ = some (.bool false) := (cell_of g19).trans rfl
    have xx3 : w19.cell? ⟨w.heap.size, 3, none⟩ = some (.int .i64 0) := (cell_of g19).trans rfl
    have xx4 : w19.cell? ⟨w.heap.size, 4, none⟩ = some (.int .i64 0) := (cell_of g19).trans rfl
    have xx5 : w19.cell? ⟨w.heap.size, 5, none⟩ = some (.string ⟨#[]⟩) := (cell_of g19).trans rfl
    have zz0 := froz_of (i := 0) g19
    have zz1 := froz_of (i := 1) g19
    have zz2 := froz_of (i := 2) g19
    have zz3 := froz_of (i := 3) g19
    have zz4 := froz_of (i := 4) g19
    have zz5 := froz_of (i := 5) g19
    have yy0 : w19.cell? ⟨G, 0, none⟩ = some (.int .i64 0) := (cell_of r19).trans rfl
    have yy1 : w19.cell? ⟨G, 1, none⟩ = some (.int .i64 0) := (cell_of r19).trans rfl
    have yy2 : w19.cell? ⟨G, 2, none⟩ = some (.bool false) := (cell_of r19).trans rfl
    have yy3 : w19.cell? ⟨G, 3, none⟩ = some (.int .i64 0) := (cell_of r19).trans rfl
    have yy4 : w19.cell? ⟨G, 4, none⟩ = some (.int .i64 0) := (cell_of r19).trans rfl
    have yy5 : w19.cell? ⟨G, 5, none⟩ = some (.string ⟨#[]⟩) := (cell_of r19).trans rfl
    have G19 := hid g19
    clear g19 r19
    have B19 : Below w.heap.size w w19 := C19.out.below (Nat.le_refl _) (fun i hi => by rintro (h | h | h) <;> omega)
    have hr19 := lt_of_heap G19.out
    clear C19
    by_cases hE0 : E = 0
    · subst hE0
      have gF : ((((((w19.setCell ⟨w.heap.size, 0, none⟩ (.int .i64 0)).setCell ⟨w.heap.size, 1, none⟩ (.int .i64 0)).setCell ⟨w.heap.size, 2, none⟩ (.bool false)).setCell ⟨w.heap.size, 3, none⟩ (.int .i64 0)).setCell ⟨w.heap.size, 4, none⟩ (.int .i64 0)).setCell ⟨w.heap.size, 5, none⟩ (.string ⟨#[]⟩)).heap[w.heap.size]? = some (.cells #[.int .i64 0, .int .i64 0, .bool false, .int .i64 0, .int .i64 0, .string ⟨#[]⟩] 27 (0, 0)) := (heap_set (heap_set (heap_set (heap_set (heap_set (heap_set G19.out))))))
      have bF : Below w.heap.size w ((((((w19.setCell ⟨w.heap.size, 0, none⟩ (.int .i64 0)).setCell ⟨w.heap.size, 1, none⟩ (.int .i64 0)).setCell ⟨w.heap.size, 2, none⟩ (.bool false)).setCell ⟨w.heap.size, 3, none⟩ (.int .i64 0)).setCell ⟨w.heap.size, 4, none⟩ (.int .i64 0)).setCell ⟨w.heap.size, 5, none⟩ (.string ⟨#[]⟩)) := ((((((B19.setCell (Nat.le_refl _) _).setCell (Nat.le_refl _) _).setCell (Nat.le_refl _) _).setCell (Nat.le_refl _) _).setCell (Nat.le_refl _) _).setCell (Nat.le_refl _) _)
      go_wp2_with fail
      generalize ((((((w19.setCell ⟨w.heap.size, 0, none⟩ (.int .i64 0)).setCell ⟨w.heap.size, 1, none⟩ (.int .i64 0)).setCell ⟨w.heap.size, 2, none⟩ (.bool false)).setCell ⟨w.heap.size, 3, none⟩ (.int .i64 0)).setCell ⟨w.heap.size, 4, none⟩ (.int .i64 0)).setCell ⟨w.heap.size, 5, none⟩ (.string ⟨#[]⟩)) = wF at *
      have ff0 : wF.cell? ⟨w.heap.size, 0, none⟩ = some (.int .i64 0) := (cell_of gF).trans rfl
      have ff1 : wF.cell? ⟨w.heap.size, 1, none⟩ = some (.int .i64 0) := (cell_of gF).trans rfl
      have ff2 : wF.cell? ⟨w.heap.size, 2, none⟩ = some (.bool false) := (cell_of gF).trans rfl
      have ff3 : wF.cell? ⟨w.heap.size, 3, none⟩ = some (.int .i64 0) := (cell_of gF).trans rfl
      have ff4 : wF.cell? ⟨w.heap.size, 4, none⟩ = some (.int .i64 0) := (cell_of gF).trans rfl
      have ff5 : wF.cell? ⟨w.heap.size, 5, none⟩ = some (.string ⟨#[]⟩) := (cell_of gF).trans rfl
      exact bodyPost_ret (v := .tuple #[.agg #[.int .i64 0, .int .i64 0, .bool false, .int .i64 0, .int .i64 0, .string ⟨#[]⟩], .int .i64 0]) (by simp [results, Tryz.results16, go_sem, ff0, ff1, ff2, ff3, ff4, ff5]) rfl ⟨rfl, bF⟩
    · have hne : ((E : Int) != 0) = true := by rw [bne_iff_ne]; omega
      have gF : ((((((w19.setCell ⟨w.heap.size, 0, none⟩ (.int .i64 0)).setCell ⟨w.heap.size, 1, none⟩ (.int .i64 0)).setCell ⟨w.heap.size, 2, none⟩ (.bool false)).setCell ⟨w.heap.size, 3, none⟩ (.int .i64 0)).setCell ⟨w.heap.size, 4, none⟩ (.int .i64 0)).setCell ⟨w.heap.size, 5, none⟩ (.string ⟨#[]⟩)).heap[w.heap.size]? = some (.cells #[.int .i64 0, .int .i64 0, .bool false, .int .i64 0, .int .i64 0, .string ⟨#[]⟩] 27 (0, 0)) := (heap_set (heap_set (heap_set (heap_set (heap_set (heap_set G19.out))))))
      have bF : Below w.heap.size w ((((((w19.setCell ⟨w.heap.size, 0, none⟩ (.int .i64 0)).setCell ⟨w.heap.size, 1, none⟩ (.int .i64 0)).setCell ⟨w.heap.size, 2, none⟩ (.bool false)).setCell ⟨w.heap.size, 3, none⟩ (.int .i64 0)).setCell ⟨w.heap.size, 4, none⟩ (.int .i64 0)).setCell ⟨w.heap.size, 5, none⟩ (.string ⟨#[]⟩)) := ((((((B19.setCell (Nat.le_refl _) _).setCell (Nat.le_refl _) _).setCell (Nat.le_refl _) _).setCell (Nat.le_refl _) _).setCell (Nat.le_refl _) _).setCell (Nat.le_refl _) _)
      go_wp2_with fail
      generalize ((((((w19.setCell ⟨w.heap.size, 0, none⟩ (.int .i64 0)).setCell ⟨w.heap.size, 1, none⟩ (.int .i64 0)).setCell ⟨w.heap.size, 2, none⟩ (.bool false)).setCell ⟨w.heap.size, 3, none⟩ (.int .i64 0)).setCell ⟨w.heap.size, 4, none⟩ (.int .i64 0)).setCell ⟨w.heap.size, 5, none⟩ (.string ⟨#[]⟩)) = wF at *
      have ff0 : wF.cell? ⟨w.heap.size, 0, none⟩ = some (.int .i64 0) := (cell_of gF).trans rfl
      have ff1 : wF.cell? ⟨w.heap.size, 1, none⟩ = some (.int .i64 0) := (cell_of gF).trans rfl
      have ff2 : wF.cell? ⟨w.heap.size, 2, none⟩ = some (.bool false) := (cell_of gF).trans rfl
      have ff3 : wF.cell? ⟨w.heap.size, 3, none⟩ = some (.int .i64 0) := (cell_of gF).trans rfl
      have ff4 : wF.cell? ⟨w.heap.size, 4, none⟩ = some (.int .i64 0) := (cell_of gF).trans rfl
      have ff5 : wF.cell? ⟨w.heap.size, 5, none⟩ = some (.string ⟨#[]⟩) := (cell_of gF).trans rfl
      exact bodyPost_ret (v := .tuple #[.agg #[.int .i64 0, .int .i64 0, .bool false, .int .i64 0, .int .i64 0, .string ⟨#[]⟩], .int .i64 E]) (by simp [results, Tryz.results16, go_sem, ff0, ff1, ff2, ff3, ff4, ff5]) rfl ⟨by rw [ra2_no hE0], bF⟩
end Go.Proofs.YtgdaaohlongmlaaGreat
