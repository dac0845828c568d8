/- Fields that a kind doesn't use are passed over in writing, and zero in what is read. -/
import Derived.Test.YtgdaaohlongmlaaPun
import Derived.Deep.CutBlock
namespace Go.Proofs.Ytgdaaohlongmlaa
open Go.RowKit
set_option maxHeartbeats 2000000 in
set_option maxRecDepth 20000 in
theorem unused_walk (k : Int) (d : ByteArray) (o t m : Int) (pk pr : Int) (pb : Bool) (po pn : Int) (pd : ByteArray) (w : World) (ho : I64 o) (ht : I64 t) (hm : I64 m) (hpo : I64 po) (hpn : I64 pn) :
    Calls Try.prog 5 #[.agg #[.int .i64 k, .string d, .int .i64 o, .int .i64 t, .int .i64 m], .agg #[.int .i64 pk, .int .i64 pr, .bool pb, .int .i64 po, .int .i64 pn, .string pd]] w fun e w' => e = .returned (.bool true) ∧ Below w.heap.size w w' := by
  have CS := hid (fun w1 => speaks_any w1)
  obtain ⟨N, hN⟩ : ∃ N, nrm ⟨k, d, o, t, m⟩ = N := ⟨_, rfl⟩
  obtain ⟨M, hM⟩ : ∃ M, nrmP ⟨pk, pr, pb, po, pn, pd⟩ = M := ⟨_, rfl⟩
  have CA := hid (fun w1 => ask_any ⟨k, d, o, t, m⟩ w1)
  have CN := hid (fun w1 => ask_any N w1)
  rw [← hN, asV_nrm, hN] at CN
  have CP := hid (fun w1 => reply_any ⟨pk, pr, pb, po, pn, pd⟩ w1)
  have CM := hid (fun w1 => reply_any M w1)
  rw [← hM, rsV_nrm, hM] at CM
  have CR := hid (fun w1 => readask_any (askS ⟨k, d, o, t, m⟩) w1 (askS_size _))
  have CV := hid (fun w1 => readreply_any (repS ⟨pk, pr, pb, po, pn, pd⟩) w1 (repS_size _))
  have RQ : askE ⟨k, d, o, t, m⟩ = 0 → raQ (askS ⟨k, d, o, t, m⟩) = (N, 0) := fun h => by rw [← hN]; exact ra_ask h ho ht hm
  have RP : repE ⟨pk, pr, pb, po, pn, pd⟩ = 0 → rrQ (repS ⟨pk, pr, pb, po, pn, pd⟩) = (M, 0) := fun h => by rw [← hM]; exact ra_rep h hpo hpn
  have RQH := hid RQ
  have RPH := hid RP
  have HN := hid hN
  have HM := hid hM
  clear hN hM ho ht hm hpo hpn RQ RP
  unfold asV at CA CN
  unfold rsV at CP CM
  generalize askS ⟨k, d, o, t, m⟩ = S at *
  generalize askE ⟨k, d, o, t, m⟩ = E at *
  generalize repS ⟨pk, pr, pb, po, pn, pd⟩ = V at *
  generalize repE ⟨pk, pr, pb, po, pn, pd⟩ = F at *
  obtain ⟨nk, nd, no, nt, nm⟩ := N
  obtain ⟨mk, mr, mb, mo, mn, md⟩ := M
  have hQ := fun w => q_neq nk nd no nt nm w
  have hP := fun w => p_eql mk mr mb mo mn md w
  have g0 : ((w.alloc (.cells #[.int .i64 k, .string d, .int .i64 o, .int .i64 t, .int .i64 m] 24)).alloc (.cells #[.int .i64 pk, .int .i64 pr, .bool pb, .int .i64 po, .int .i64 pn, .string pd] 27)).heap[w.heap.size]? = some (.cells #[.int .i64 k, .string d, .int .i64 o, .int .i64 t, .int .i64 m] 24 (0, 0)) := heap_alloc_at (heap_new _ _)
  have g1 : ((w.alloc (.cells #[.int .i64 k, .string d, .int .i64 o, .int .i64 t, .int .i64 m] 24)).alloc (.cells #[.int .i64 pk, .int .i64 pr, .bool pb, .int .i64 po, .int .i64 pn, .string pd] 27)).heap[w.heap.size + 1]? = some (.cells #[.int .i64 pk, .int .i64 pr, .bool pb, .int .i64 po, .int .i64 pn, .string pd] 27 (0, 0)) := heap_new' _ _ _ (by simp)
  have b0 : Below w.heap.size w ((w.alloc (.cells #[.int .i64 k, .string d, .int .i64 o, .int .i64 t, .int .i64 m] 24)).alloc (.cells #[.int .i64 pk, .int .i64 pr, .bool pb, .int .i64 po, .int .i64 pn, .string pd] 27)) := ((Below.refl _ _).alloc (Nat.le_refl _) _).alloc (by simp) _
  go_enter Try.func5, Try.ntmps5
  go_wp2_with fail
  generalize (w.alloc (.cells #[.int .i64 k, .string d, .int .i64 o, .int .i64 t, .int .i64 m] 24)).alloc (.cells #[.int .i64 pk, .int .i64 pr, .bool pb, .int .i64 po, .int .i64 pn, .string pd] 27) = w0 at *
  refine (CS.out w0).mono ?_
  rintro e w1 ⟨rfl, b1⟩
  have G0 := hid ((b1.block _ (lt_of_heap g0)).trans g0)
  have G1 := hid ((b1.block _ (lt_of_heap g1)).trans g1)
  have B1 := hid (b0.trans (b1.mono b0.size))
  have hl1 := lt_of_heap G1.out
  have hl0 : w.heap.size < w1.heap.size := by omega
  clear g0 g1 b0 b1 CS
  have c0 : w1.cell? ⟨w.heap.size, 0, none⟩ = some (.int .i64 k) := (cell_of G0.out).trans rfl
  go_upto_block 0 with fail
  have G0' : Hid ((w1.alloc (.cells #[.int .i64 k, .string ⟨#[]⟩, .int .i64 0, .int .i64 0, .int .i64 0] 24)).heap[w.heap.size]? = some (.cells #[.int .i64 k, .string d, .int .i64 o, .int .i64 t, .int .i64 m] 24 (0, 0))) := hid (heap_alloc_at G0.out)
  have G1' : Hid ((w1.alloc (.cells #[.int .i64 k, .string ⟨#[]⟩, .int .i64 0, .int .i64 0, .int .i64 0] 24)).heap[w.heap.size + 1]? = some (.cells #[.int .i64 pk, .int .i64 pr, .bool pb, .int .i64 po, .int .i64 pn, .string pd] 27 (0, 0))) := hid (heap_alloc_at G1.out)
  have P1 : Hid ((w1.alloc (.cells #[.int .i64 k, .string ⟨#[]⟩, .int .i64 0, .int .i64 0, .int .i64 0] 24)).heap[w1.heap.size]? = some (.cells #[.int .i64 k, .string ⟨#[]⟩, .int .i64 0, .int .i64 0, .int .i64 0] 24 (0, 0))) := hid (heap_new _ _)
  have B1' : Hid (Below w.heap.size w (w1.alloc (.cells #[.int .i64 k, .string ⟨#[]⟩, .int .i64 0, .int .i64 0, .int .i64 0] 24))) := hid (B1.out.alloc B1.out.size _)
  clear c0
  have hLP : w.heap.size < w1.heap.size ∧ w.heap.size + 1 < w1.heap.size := by omega
  generalize w1.alloc (.cells #[.int .i64 k, .string ⟨#[]⟩, .int .i64 0, .int .i64 0, .int .i64 0] 24) = w2 at *
  generalize w1.heap.size = P at *
  clear G0 G1 B1 hl1 hl0
  go_cut [21, 26, 34, 39] (fun v21 v26 v34 v39 wc => Hid (wc.heap[w.heap.size]? = some (.cells #[.int .i64 k, .string d, .int .i64 o, .int .i64 t, .int .i64 m] 24 (0, 0))) ∧ Hid (wc.heap[w.heap.size + 1]? = some (.cells #[.int .i64 pk, .int .i64 pr, .bool pb, .int .i64 po, .int .i64 pn, .string pd] 27 (0, 0))) ∧ Hid (wc.heap[P]? = some (.cells #[.int .i64 nk, .string nd, .int .i64 no, .int .i64 nt, .int .i64 nm] 24 (0, 0))) ∧ Hid (Below w.heap.size w wc))
  case first =>
    have HNO := HN.out
    unfold nrm at HNO
    simp only [Rq.mk.injEq] at HNO
    obtain ⟨n0, n1, n2, n3, n4⟩ := HNO
    subst n0
    by_cases hk1 : k = 1
    · subst hk1
      simp at n1 n2 n3 n4
      subst n1 n2 n3 n4
      have c0 : w2.cell? ⟨w.heap.size, 0, none⟩ = some (.int .i64 1) := (cell_of G0'.out).trans rfl
      have c1 : w2.cell? ⟨w.heap.size, 1, none⟩ = some (.string d) := (cell_of G0'.out).trans rfl
      have c2 : w2.cell? ⟨w.heap.size, 2, none⟩ = some (.int .i64 o) := (cell_of G0'.out).trans rfl
      have c3 : w2.cell? ⟨w.heap.size, 3, none⟩ = some (.int .i64 t) := (cell_of G0'.out).trans rfl
      have c4 : w2.cell? ⟨w.heap.size, 4, none⟩ = some (.int .i64 m) := (cell_of G0'.out).trans rfl
      have d0 : w2.cell? ⟨P, 0, none⟩ = some (.int .i64 1) := (cell_of P1.out).trans rfl
      have d1 : w2.cell? ⟨P, 1, none⟩ = some (.string ⟨#[]⟩) := (cell_of P1.out).trans rfl
      have d2 : w2.cell? ⟨P, 2, none⟩ = some (.int .i64 0) := (cell_of P1.out).trans rfl
      have d3 : w2.cell? ⟨P, 3, none⟩ = some (.int .i64 0) := (cell_of P1.out).trans rfl
      have d4 : w2.cell? ⟨P, 4, none⟩ = some (.int .i64 0) := (cell_of P1.out).trans rfl
      have z1 := froz_of (i := 1) P1.out
      go_wp2_with fail
      go_meet
      case rel => exact ⟨hid (heap_set_far G0'.out (by show w.heap.size ≠ P; omega)), hid (heap_set_far G1'.out (by show w.heap.size + 1 ≠ P; omega)), hid (heap_set P1.out), hid (B1'.out.setCell (by show w.heap.size ≤ P; omega) _)⟩
    by_cases hk2 : k = 2
    · subst hk2
      simp at n1 n2 n3 n4
      subst n1 n2 n3 n4
      have c0 : w2.cell? ⟨w.heap.size, 0, none⟩ = some (.int .i64 2) := (cell_of G0'.out).trans rfl
      have c1 : w2.cell? ⟨w.heap.size, 1, none⟩ = some (.string d) := (cell_of G0'.out).trans rfl
      have c2 : w2.cell? ⟨w.heap.size, 2, none⟩ = some (.int .i64 o) := (cell_of G0'.out).trans rfl
      have c3 : w2.cell? ⟨w.heap.size, 3, none⟩ = some (.int .i64 t) := (cell_of G0'.out).trans rfl
      have c4 : w2.cell? ⟨w.heap.size, 4, none⟩ = some (.int .i64 m) := (cell_of G0'.out).trans rfl
      have d0 : w2.cell? ⟨P, 0, none⟩ = some (.int .i64 2) := (cell_of P1.out).trans rfl
      have d1 : w2.cell? ⟨P, 1, none⟩ = some (.string ⟨#[]⟩) := (cell_of P1.out).trans rfl
      have d2 : w2.cell? ⟨P, 2, none⟩ = some (.int .i64 0) := (cell_of P1.out).trans rfl
      have d3 : w2.cell? ⟨P, 3, none⟩ = some (.int .i64 0) := (cell_of P1.out).trans rfl
      have d4 : w2.cell? ⟨P, 4, none⟩ = some (.int .i64 0) := (cell_of P1.out).trans rfl
      have z2 := froz_of (i := 2) P1.out
      have z4 := froz_of (i := 4) P1.out
      go_wp2_with fail
      go_region
      all_goals
        go_wp2_with fail
        go_meet
        case rel => exact ⟨hid (hd_drew (heap_set_far (heap_set_far G0'.out (by show w.heap.size ≠ P; omega)) (by show w.heap.size ≠ P; omega))), hid (hd_drew (heap_set_far (heap_set_far G1'.out (by show w.heap.size + 1 ≠ P; omega)) (by show w.heap.size + 1 ≠ P; omega))), hid (hd_drew (heap_set (heap_set P1.out))), hid (Below.drew ((B1'.out.setCell (by show w.heap.size ≤ P; omega) _).setCell (by show w.heap.size ≤ P; omega) _))⟩
    by_cases hk3 : k = 3
    · subst hk3
      simp at n1 n2 n3 n4
      subst n1 n2 n3 n4
      have c0 : w2.cell? ⟨w.heap.size, 0, none⟩ = some (.int .i64 3) := (cell_of G0'.out).trans rfl
      have c1 : w2.cell? ⟨w.heap.size, 1, none⟩ = some (.string d) := (cell_of G0'.out).trans rfl
      have c2 : w2.cell? ⟨w.heap.size, 2, none⟩ = some (.int .i64 o) := (cell_of G0'.out).trans rfl
      have c3 : w2.cell? ⟨w.heap.size, 3, none⟩ = some (.int .i64 t) := (cell_of G0'.out).trans rfl
      have c4 : w2.cell? ⟨w.heap.size, 4, none⟩ = some (.int .i64 m) := (cell_of G0'.out).trans rfl
      have d0 : w2.cell? ⟨P, 0, none⟩ = some (.int .i64 3) := (cell_of P1.out).trans rfl
      have d1 : w2.cell? ⟨P, 1, none⟩ = some (.string ⟨#[]⟩) := (cell_of P1.out).trans rfl
      have d2 : w2.cell? ⟨P, 2, none⟩ = some (.int .i64 0) := (cell_of P1.out).trans rfl
      have d3 : w2.cell? ⟨P, 3, none⟩ = some (.int .i64 0) := (cell_of P1.out).trans rfl
      have d4 : w2.cell? ⟨P, 4, none⟩ = some (.int .i64 0) := (cell_of P1.out).trans rfl
      have z3 := froz_of (i := 3) P1.out
      go_wp2_with fail
      go_meet
      case rel => exact ⟨hid (heap_set_far G0'.out (by show w.heap.size ≠ P; omega)), hid (heap_set_far G1'.out (by show w.heap.size + 1 ≠ P; omega)), hid (heap_set P1.out), hid (B1'.out.setCell (by show w.heap.size ≤ P; omega) _)⟩
    by_cases hk5 : k = 5
    · subst hk5
      simp at n1 n2 n3 n4
      subst n1 n2 n3 n4
      have c0 : w2.cell? ⟨w.heap.size, 0, none⟩ = some (.int .i64 5) := (cell_of G0'.out).trans rfl
      have c1 : w2.cell? ⟨w.heap.size, 1, none⟩ = some (.string d) := (cell_of G0'.out).trans rfl
      have c2 : w2.cell? ⟨w.heap.size, 2, none⟩ = some (.int .i64 o) := (cell_of G0'.out).trans rfl
      have c3 : w2.cell? ⟨w.heap.size, 3, none⟩ = some (.int .i64 t) := (cell_of G0'.out).trans rfl
      have c4 : w2.cell? ⟨w.heap.size, 4, none⟩ = some (.int .i64 m) := (cell_of G0'.out).trans rfl
      have d0 : w2.cell? ⟨P, 0, none⟩ = some (.int .i64 5) := (cell_of P1.out).trans rfl
      have d1 : w2.cell? ⟨P, 1, none⟩ = some (.string ⟨#[]⟩) := (cell_of P1.out).trans rfl
      have d2 : w2.cell? ⟨P, 2, none⟩ = some (.int .i64 0) := (cell_of P1.out).trans rfl
      have d3 : w2.cell? ⟨P, 3, none⟩ = some (.int .i64 0) := (cell_of P1.out).trans rfl
      have d4 : w2.cell? ⟨P, 4, none⟩ = some (.int .i64 0) := (cell_of P1.out).trans rfl
      have z2 := froz_of (i := 2) P1.out
      go_wp2_with fail
      go_meet
      case rel => exact ⟨hid (heap_set_far G0'.out (by show w.heap.size ≠ P; omega)), hid (heap_set_far G1'.out (by show w.heap.size + 1 ≠ P; omega)), hid (heap_set P1.out), hid (B1'.out.setCell (by show w.heap.size ≤ P; omega) _)⟩
    have e1 : (k == 1) = false := by rw [beq_eq_false_iff_ne]; exact hk1
    have e2 : (k == 2) = false := by rw [beq_eq_false_iff_ne]; exact hk2
    have e3 : (k == 3) = false := by rw [beq_eq_false_iff_ne]; exact hk3
    have e5 : (k == 5) = false := by rw [beq_eq_false_iff_ne]; exact hk5
    simp [hk1, hk2, hk3, hk5] at n1 n2 n3 n4
    subst n1 n2 n3 n4
    have c0 : w2.cell? ⟨w.heap.size, 0, none⟩ = some (.int .i64 k) := (cell_of G0'.out).trans rfl
    have c1 : w2.cell? ⟨w.heap.size, 1, none⟩ = some (.string d) := (cell_of G0'.out).trans rfl
    have c2 : w2.cell? ⟨w.heap.size, 2, none⟩ = some (.int .i64 o) := (cell_of G0'.out).trans rfl
    have c3 : w2.cell? ⟨w.heap.size, 3, none⟩ = some (.int .i64 t) := (cell_of G0'.out).trans rfl
    have c4 : w2.cell? ⟨w.heap.size, 4, none⟩ = some (.int .i64 m) := (cell_of G0'.out).trans rfl
    have d0 : w2.cell? ⟨P, 0, none⟩ = some (.int .i64 k) := (cell_of P1.out).trans rfl
    have d1 : w2.cell? ⟨P, 1, none⟩ = some (.string ⟨#[]⟩) := (cell_of P1.out).trans rfl
    have d2 : w2.cell? ⟨P, 2, none⟩ = some (.int .i64 0) := (cell_of P1.out).trans rfl
    have d3 : w2.cell? ⟨P, 3, none⟩ = some (.int .i64 0) := (cell_of P1.out).trans rfl
    have d4 : w2.cell? ⟨P, 4, none⟩ = some (.int .i64 0) := (cell_of P1.out).trans rfl
    go_wp2_with fail
    go_meet
    case rel => exact ⟨hid G0'.out, hid G1'.out, hid P1.out, hid B1'.out⟩
  case rest =>
    obtain ⟨G2, G3, P3, B3⟩ := hcut
    clear G0' G1' P1 B1' HN
    have c0 : wc.cell? ⟨w.heap.size, 0, none⟩ = some (.int .i64 k) := (cell_of G2.out).trans rfl
    have c1 : wc.cell? ⟨w.heap.size, 1, none⟩ = some (.string d) := (cell_of G2.out).trans rfl
    have c2 : wc.cell? ⟨w.heap.size, 2, none⟩ = some (.int .i64 o) := (cell_of G2.out).trans rfl
    have c3 : wc.cell? ⟨w.heap.size, 3, none⟩ = some (.int .i64 t) := (cell_of G2.out).trans rfl
    have c4 : wc.cell? ⟨w.heap.size, 4, none⟩ = some (.int .i64 m) := (cell_of G2.out).trans rfl
    go_wp2_with fail
    refine (CA.out wc).mono ?_
    rintro e w3 ⟨rfl, b3⟩
    have P4 := hid ((b3.block _ (lt_of_heap P3.out)).trans P3.out)
    have G4 := hid ((b3.block _ (lt_of_heap G3.out)).trans G3.out)
    have B4 := hid (B3.out.trans (b3.mono B3.out.size))
    clear P3 G3 G2 B3 b3 CA c0 c1 c2 c3 c4
    have c0 : w3.cell? ⟨P, 0, none⟩ = some (.int .i64 nk) := (cell_of P4.out).trans rfl
    have c1 : w3.cell? ⟨P, 1, none⟩ = some (.string nd) := (cell_of P4.out).trans rfl
    have c2 : w3.cell? ⟨P, 2, none⟩ = some (.int .i64 no) := (cell_of P4.out).trans rfl
    have c3 : w3.cell? ⟨P, 3, none⟩ = some (.int .i64 nt) := (cell_of P4.out).trans rfl
    have c4 : w3.cell? ⟨P, 4, none⟩ = some (.int .i64 nm) := (cell_of P4.out).trans rfl
    go_wp2_with fail
    refine (CN.out w3).mono ?_
    rintro e w4 ⟨rfl, b4⟩
    have P5 := hid ((b4.block _ (lt_of_heap P4.out)).trans P4.out)
    have G5 := hid ((b4.block _ (lt_of_heap G4.out)).trans G4.out)
    have B5 := hid (B4.out.trans (b4.mono B4.out.size))
    clear P4 G4 B4 b4 CN c0 c1 c2 c3 c4
    go_wp2_with fail
    refine (CR.out w4).mono ?_
    rintro e w5 ⟨rfl, b5⟩
    have P6 := hid ((b5.block _ (lt_of_heap P5.out)).trans P5.out)
    have G6 := hid ((b5.block _ (lt_of_heap G5.out)).trans G5.out)
    have B6 := hid (B5.out.trans (b5.mono B5.out.size))
    clear P5 G5 B5 b5 CR
    have hlp := lt_of_heap P6.out
    have hlg := lt_of_heap G6.out
    by_cases hE : E = 0
    · subst hE
      rw [RQH.out rfl, show rqV (⟨nk, nd, no, nt, nm⟩, 0) = .tuple #[.agg #[.int .i64 nk, .string nd, .int .i64 no, .int .i64 nt, .int .i64 nm], .int .i64 0] from rfl]
      have c0 : w5.cell? ⟨P, 0, none⟩ = some (.int .i64 nk) := (cell_of P6.out).trans rfl
      have c1 : w5.cell? ⟨P, 1, none⟩ = some (.string nd) := (cell_of P6.out).trans rfl
      have c2 : w5.cell? ⟨P, 2, none⟩ = some (.int .i64 no) := (cell_of P6.out).trans rfl
      have c3 : w5.cell? ⟨P, 3, none⟩ = some (.int .i64 nt) := (cell_of P6.out).trans rfl
      have c4 : w5.cell? ⟨P, 4, none⟩ = some (.int .i64 nm) := (cell_of P6.out).trans rfl
      have p0 : w5.cell? ⟨w.heap.size + 1, 0, none⟩ = some (.int .i64 pk) := (cell_of G6.out).trans rfl
      have p1 : w5.cell? ⟨w.heap.size + 1, 1, none⟩ = some (.int .i64 pr) := (cell_of G6.out).trans rfl
      have p2 : w5.cell? ⟨w.heap.size + 1, 2, none⟩ = some (.bool pb) := (cell_of G6.out).trans rfl
      have p3 : w5.cell? ⟨w.heap.size + 1, 3, none⟩ = some (.int .i64 po) := (cell_of G6.out).trans rfl
      have p4 : w5.cell? ⟨w.heap.size + 1, 4, none⟩ = some (.int .i64 pn) := (cell_of G6.out).trans rfl
      have p5 : w5.cell? ⟨w.heap.size + 1, 5, none⟩ = some (.string pd) := (cell_of G6.out).trans rfl
      go_upto_region 21 with fail
      clear c0 c1 c2 c3 c4 p0 p1 p2 p3 p4 p5
      have G7 : Hid (((w5.alloc (.cells #[.int .i64 nk, .string nd, .int .i64 no, .int .i64 nt, .int .i64 nm] 24)).alloc (.cells #[.int .i64 pk, .int .i64 pr, .bool false, .int .i64 0, .int .i64 0, .string ⟨#[]⟩] 27)).heap[w.heap.size + 1]? = _) := hid (heap_alloc_at (heap_alloc_at G6.out))
      have T7 : Hid (((w5.alloc (.cells #[.int .i64 nk, .string nd, .int .i64 no, .int .i64 nt, .int .i64 nm] 24)).alloc (.cells #[.int .i64 pk, .int .i64 pr, .bool false, .int .i64 0, .int .i64 0, .string ⟨#[]⟩] 27)).heap[w5.heap.size + 1]? = some (.cells #[.int .i64 pk, .int .i64 pr, .bool false, .int .i64 0, .int .i64 0, .string ⟨#[]⟩] 27 (0, 0))) := hid (heap_new' _ _ _ (by simp))
      have B7 : Hid (Below w.heap.size w ((w5.alloc (.cells #[.int .i64 nk, .string nd, .int .i64 no, .int .i64 nt, .int .i64 nm] 24)).alloc (.cells #[.int .i64 pk, .int .i64 pr, .bool false, .int .i64 0, .int .i64 0, .string ⟨#[]⟩] 27))) := hid ((B6.out.alloc B6.out.size _).alloc (by have := B6.out.size; simp; omega) _)
      generalize (w5.alloc (.cells #[.int .i64 nk, .string nd, .int .i64 no, .int .i64 nt, .int .i64 nm] 24)).alloc (.cells #[.int .i64 pk, .int .i64 pr, .bool false, .int .i64 0, .int .i64 0, .string ⟨#[]⟩] 27) = w6 at *
      have hTT : w.heap.size + 1 < w5.heap.size + 1 := by omega
      generalize w5.heap.size + 1 = T at *
      clear G6 B6 P6
      have g0 : w6.cell? ⟨w.heap.size + 1, 0, none⟩ = some (.int .i64 pk) := (cell_of G7.out).trans rfl
      have g1 : w6.cell? ⟨w.heap.size + 1, 1, none⟩ = some (.int .i64 pr) := (cell_of G7.out).trans rfl
      have g2 : w6.cell? ⟨w.heap.size + 1, 2, none⟩ = some (.bool pb) := (cell_of G7.out).trans rfl
      have g3 : w6.cell? ⟨w.heap.size + 1, 3, none⟩ = some (.int .i64 po) := (cell_of G7.out).trans rfl
      have g4 : w6.cell? ⟨w.heap.size + 1, 4, none⟩ = some (.int .i64 pn) := (cell_of G7.out).trans rfl
      have g5 : w6.cell? ⟨w.heap.size + 1, 5, none⟩ = some (.string pd) := (cell_of G7.out).trans rfl
      go_upto_if 85 with fail
      clear g0 g1 g2 g3 g4 g5
      go_cut [85, 88, 96, 104, 110, 115] (fun v1 v2 v3 v4 v5 v6 wc => Hid (wc.heap[w.heap.size + 1]? = some (.cells #[.int .i64 pk, .int .i64 pr, .bool pb, .int .i64 po, .int .i64 pn, .string pd] 27 (0, 0))) ∧ Hid (wc.heap[T]? = some (.cells #[.int .i64 mk, .int .i64 mr, .bool mb, .int .i64 mo, .int .i64 mn, .string md] 27 (0, 0))) ∧ Hid (Below w.heap.size w wc))
      case first =>
        have HMO := HM.out
        unfold nrmP at HMO
        simp only [Rp.mk.injEq] at HMO
        obtain ⟨n0, n1, n2, n3, n4, n5⟩ := HMO
        subst n0 n1
        by_cases hr : pr = 0
        · subst hr
          by_cases hp1 : pk = 1
          · subst hp1
            simp at n2 n3 n4 n5
            subst n2 n3 n4 n5
            have c0 : w6.cell? ⟨w.heap.size + 1, 0, none⟩ = some (.int .i64 1) := (cell_of G7.out).trans rfl
            have c1 : w6.cell? ⟨w.heap.size + 1, 1, none⟩ = some (.int .i64 0) := (cell_of G7.out).trans rfl
            have c2 : w6.cell? ⟨w.heap.size + 1, 2, none⟩ = some (.bool pb) := (cell_of G7.out).trans rfl
            have c3 : w6.cell? ⟨w.heap.size + 1, 3, none⟩ = some (.int .i64 po) := (cell_of G7.out).trans rfl
            have c4 : w6.cell? ⟨w.heap.size + 1, 4, none⟩ = some (.int .i64 pn) := (cell_of G7.out).trans rfl
            have c5 : w6.cell? ⟨w.heap.size + 1, 5, none⟩ = some (.string pd) := (cell_of G7.out).trans rfl
            have d0 : w6.cell? ⟨T, 0, none⟩ = some (.int .i64 1) := (cell_of T7.out).trans rfl
            have d1 : w6.cell? ⟨T, 1, none⟩ = some (.int .i64 0) := (cell_of T7.out).trans rfl
            have d2 : w6.cell? ⟨T, 2, none⟩ = some (.bool false) := (cell_of T7.out).trans rfl
            have d3 : w6.cell? ⟨T, 3, none⟩ = some (.int .i64 0) := (cell_of T7.out).trans rfl
            have d4 : w6.cell? ⟨T, 4, none⟩ = some (.int .i64 0) := (cell_of T7.out).trans rfl
            have d5 : w6.cell? ⟨T, 5, none⟩ = some (.string ⟨#[]⟩) := (cell_of T7.out).trans rfl
            have z2 := froz_of (i := 2) T7.out
            have z3 := froz_of (i := 3) T7.out
            go_wp2_with fail
            go_region
            all_goals
              go_wp2_with fail
              go_meet
              case rel => exact ⟨hid (hd_drew (heap_set_far (heap_set_far G7.out (by show w.heap.size + 1 ≠ T; omega)) (by show w.heap.size + 1 ≠ T; omega))), hid (hd_drew (heap_set (heap_set T7.out))), hid (Below.drew ((B7.out.setCell (by show w.heap.size ≤ T; omega) _).setCell (by show w.heap.size ≤ T; omega) _))⟩
          by_cases hp2 : pk = 2
          · subst hp2
            simp at n2 n3 n4 n5
            subst n2 n3 n4 n5
            have c0 : w6.cell? ⟨w.heap.size + 1, 0, none⟩ = some (.int .i64 2) := (cell_of G7.out).trans rfl
            have c1 : w6.cell? ⟨w.heap.size + 1, 1, none⟩ = some (.int .i64 0) := (cell_of G7.out).trans rfl
            have c2 : w6.cell? ⟨w.heap.size + 1, 2, none⟩ = some (.bool pb) := (cell_of G7.out).trans rfl
            have c3 : w6.cell? ⟨w.heap.size + 1, 3, none⟩ = some (.int .i64 po) := (cell_of G7.out).trans rfl
            have c4 : w6.cell? ⟨w.heap.size + 1, 4, none⟩ = some (.int .i64 pn) := (cell_of G7.out).trans rfl
            have c5 : w6.cell? ⟨w.heap.size + 1, 5, none⟩ = some (.string pd) := (cell_of G7.out).trans rfl
            have d0 : w6.cell? ⟨T, 0, none⟩ = some (.int .i64 2) := (cell_of T7.out).trans rfl
            have d1 : w6.cell? ⟨T, 1, none⟩ = some (.int .i64 0) := (cell_of T7.out).trans rfl
            have d2 : w6.cell? ⟨T, 2, none⟩ = some (.bool false) := (cell_of T7.out).trans rfl
            have d3 : w6.cell? ⟨T, 3, none⟩ = some (.int .i64 0) := (cell_of T7.out).trans rfl
            have d4 : w6.cell? ⟨T, 4, none⟩ = some (.int .i64 0) := (cell_of T7.out).trans rfl
            have d5 : w6.cell? ⟨T, 5, none⟩ = some (.string ⟨#[]⟩) := (cell_of T7.out).trans rfl
            have z4 := froz_of (i := 4) T7.out
            have z5 := froz_of (i := 5) T7.out
            go_wp2_with fail
            go_region
            all_goals
              go_wp2_with fail
              go_meet
              case rel => exact ⟨hid (hd_drew (heap_set_far (heap_set_far G7.out (by show w.heap.size + 1 ≠ T; omega)) (by show w.heap.size + 1 ≠ T; omega))), hid (hd_drew (heap_set (heap_set T7.out))), hid (Below.drew ((B7.out.setCell (by show w.heap.size ≤ T; omega) _).setCell (by show w.heap.size ≤ T; omega) _))⟩
          by_cases hp3 : pk = 3
          · subst hp3
            simp at n2 n3 n4 n5
            subst n2 n3 n4 n5
            have c0 : w6.cell? ⟨w.heap.size + 1, 0, none⟩ = some (.int .i64 3) := (cell_of G7.out).trans rfl
            have c1 : w6.cell? ⟨w.heap.size + 1, 1, none⟩ = some (.int .i64 0) := (cell_of G7.out).trans rfl
            have c2 : w6.cell? ⟨w.heap.size + 1, 2, none⟩ = some (.bool pb) := (cell_of G7.out).trans rfl
            have c3 : w6.cell? ⟨w.heap.size + 1, 3, none⟩ = some (.int .i64 po) := (cell_of G7.out).trans rfl
            have c4 : w6.cell? ⟨w.heap.size + 1, 4, none⟩ = some (.int .i64 pn) := (cell_of G7.out).trans rfl
            have c5 : w6.cell? ⟨w.heap.size + 1, 5, none⟩ = some (.string pd) := (cell_of G7.out).trans rfl
            have d0 : w6.cell? ⟨T, 0, none⟩ = some (.int .i64 3) := (cell_of T7.out).trans rfl
            have d1 : w6.cell? ⟨T, 1, none⟩ = some (.int .i64 0) := (cell_of T7.out).trans rfl
            have d2 : w6.cell? ⟨T, 2, none⟩ = some (.bool false) := (cell_of T7.out).trans rfl
            have d3 : w6.cell? ⟨T, 3, none⟩ = some (.int .i64 0) := (cell_of T7.out).trans rfl
            have d4 : w6.cell? ⟨T, 4, none⟩ = some (.int .i64 0) := (cell_of T7.out).trans rfl
            have d5 : w6.cell? ⟨T, 5, none⟩ = some (.string ⟨#[]⟩) := (cell_of T7.out).trans rfl
            have z3 := froz_of (i := 3) T7.out
            go_wp2_with fail
            go_meet
            case rel => exact ⟨hid (heap_set_far G7.out (by show w.heap.size + 1 ≠ T; omega)), hid (heap_set T7.out), hid (B7.out.setCell (by show w.heap.size ≤ T; omega) _)⟩
          by_cases hp4 : pk = 4
          · subst hp4
            simp at n2 n3 n4 n5
            subst n2 n3 n4 n5
            have c0 : w6.cell? ⟨w.heap.size + 1, 0, none⟩ = some (.int .i64 4) := (cell_of G7.out).trans rfl
            have c1 : w6.cell? ⟨w.heap.size + 1, 1, none⟩ = some (.int .i64 0) := (cell_of G7.out).trans rfl
            have c2 : w6.cell? ⟨w.heap.size + 1, 2, none⟩ = some (.bool pb) := (cell_of G7.out).trans rfl
            have c3 : w6.cell? ⟨w.heap.size + 1, 3, none⟩ = some (.int .i64 po) := (cell_of G7.out).trans rfl
            have c4 : w6.cell? ⟨w.heap.size + 1, 4, none⟩ = some (.int .i64 pn) := (cell_of G7.out).trans rfl
            have c5 : w6.cell? ⟨w.heap.size + 1, 5, none⟩ = some (.string pd) := (cell_of G7.out).trans rfl
            have d0 : w6.cell? ⟨T, 0, none⟩ = some (.int .i64 4) := (cell_of T7.out).trans rfl
            have d1 : w6.cell? ⟨T, 1, none⟩ = some (.int .i64 0) := (cell_of T7.out).trans rfl
            have d2 : w6.cell? ⟨T, 2, none⟩ = some (.bool false) := (cell_of T7.out).trans rfl
            have d3 : w6.cell? ⟨T, 3, none⟩ = some (.int .i64 0) := (cell_of T7.out).trans rfl
            have d4 : w6.cell? ⟨T, 4, none⟩ = some (.int .i64 0) := (cell_of T7.out).trans rfl
            have d5 : w6.cell? ⟨T, 5, none⟩ = some (.string ⟨#[]⟩) := (cell_of T7.out).trans rfl
            have z4 := froz_of (i := 4) T7.out
            go_wp2_with fail
            go_meet
            case rel => exact ⟨hid (heap_set_far G7.out (by show w.heap.size + 1 ≠ T; omega)), hid (heap_set T7.out), hid (B7.out.setCell (by show w.heap.size ≤ T; omega) _)⟩
          by_cases hp5 : pk = 5
          · subst hp5
            simp at n2 n3 n4 n5
            subst n2 n3 n4 n5
            have c0 : w6.cell? ⟨w.heap.size + 1, 0, none⟩ = some (.int .i64 5) := (cell_of G7.out).trans rfl
            have c1 : w6.cell? ⟨w.heap.size + 1, 1, none⟩ = some (.int .i64 0) := (cell_of G7.out).trans rfl
            have c2 : w6.cell? ⟨w.heap.size + 1, 2, none⟩ = some (.bool pb) := (cell_of G7.out).trans rfl
            have c3 : w6.cell? ⟨w.heap.size + 1, 3, none⟩ = some (.int .i64 po) := (cell_of G7.out).trans rfl
            have c4 : w6.cell? ⟨w.heap.size + 1, 4, none⟩ = some (.int .i64 pn) := (cell_of G7.out).trans rfl
            have c5 : w6.cell? ⟨w.heap.size + 1, 5, none⟩ = some (.string pd) := (cell_of G7.out).trans rfl
            have d0 : w6.cell? ⟨T, 0, none⟩ = some (.int .i64 5) := (cell_of T7.out).trans rfl
            have d1 : w6.cell? ⟨T, 1, none⟩ = some (.int .i64 0) := (cell_of T7.out).trans rfl
            have d2 : w6.cell? ⟨T, 2, none⟩ = some (.bool false) := (cell_of T7.out).trans rfl
            have d3 : w6.cell? ⟨T, 3, none⟩ = some (.int .i64 0) := (cell_of T7.out).trans rfl
            have d4 : w6.cell? ⟨T, 4, none⟩ = some (.int .i64 0) := (cell_of T7.out).trans rfl
            have d5 : w6.cell? ⟨T, 5, none⟩ = some (.string ⟨#[]⟩) := (cell_of T7.out).trans rfl
            have z3 := froz_of (i := 3) T7.out
            go_wp2_with fail
            go_meet
            case rel => exact ⟨hid (heap_set_far G7.out (by show w.heap.size + 1 ≠ T; omega)), hid (heap_set T7.out), hid (B7.out.setCell (by show w.heap.size ≤ T; omega) _)⟩
          by_cases hp6 : pk = 6
          · subst hp6
            simp at n2 n3 n4 n5
            subst n2 n3 n4 n5
            have c0 : w6.cell? ⟨w.heap.size + 1, 0, none⟩ = some (.int .i64 6) := (cell_of G7.out).trans rfl
            have c1 : w6.cell? ⟨w.heap.size + 1, 1, none⟩ = some (.int .i64 0) := (cell_of G7.out).trans rfl
            have c2 : w6.cell? ⟨w.heap.size + 1, 2, none⟩ = some (.bool pb) := (cell_of G7.out).trans rfl
            have c3 : w6.cell? ⟨w.heap.size + 1, 3, none⟩ = some (.int .i64 po) := (cell_of G7.out).trans rfl
            have c4 : w6.cell? ⟨w.heap.size + 1, 4, none⟩ = some (.int .i64 pn) := (cell_of G7.out).trans rfl
            have c5 : w6.cell? ⟨w.heap.size + 1, 5, none⟩ = some (.string pd) := (cell_of G7.out).trans rfl
            have d0 : w6.cell? ⟨T, 0, none⟩ = some (.int .i64 6) := (cell_of T7.out).trans rfl
            have d1 : w6.cell? ⟨T, 1, none⟩ = some (.int .i64 0) := (cell_of T7.out).trans rfl
            have d2 : w6.cell? ⟨T, 2, none⟩ = some (.bool false) := (cell_of T7.out).trans rfl
            have d3 : w6.cell? ⟨T, 3, none⟩ = some (.int .i64 0) := (cell_of T7.out).trans rfl
            have d4 : w6.cell? ⟨T, 4, none⟩ = some (.int .i64 0) := (cell_of T7.out).trans rfl
            have d5 : w6.cell? ⟨T, 5, none⟩ = some (.string ⟨#[]⟩) := (cell_of T7.out).trans rfl
            have z3 := froz_of (i := 3) T7.out
            have z4 := froz_of (i := 4) T7.out
            go_wp2_with fail
            go_region
            all_goals
              go_wp2_with fail
              go_meet
              case rel => exact ⟨hid (hd_drew (heap_set_far (heap_set_far G7.out (by show w.heap.size + 1 ≠ T; omega)) (by show w.heap.size + 1 ≠ T; omega))), hid (hd_drew (heap_set (heap_set T7.out))), hid (Below.drew ((B7.out.setCell (by show w.heap.size ≤ T; omega) _).setCell (by show w.heap.size ≤ T; omega) _))⟩
          have e1 : (pk == 1) = false := by rw [beq_eq_false_iff_ne]; exact hp1
          have e2 : (pk == 2) = false := by rw [beq_eq_false_iff_ne]; exact hp2
          have e3 : (pk == 3) = false := by rw [beq_eq_false_iff_ne]; exact hp3
          have e4 : (pk == 4) = false := by rw [beq_eq_false_iff_ne]; exact hp4
          have e5 : (pk == 5) = false := by rw [beq_eq_false_iff_ne]; exact hp5
          have e6 : (pk == 6) = false := by rw [beq_eq_false_iff_ne]; exact hp6
          simp [hp1, hp2, hp3, hp4, hp5, hp6] at n2 n3 n4 n5
          subst n2 n3 n4 n5
          have c0 : w6.cell? ⟨w.heap.size + 1, 0, none⟩ = some (.int .i64 pk) := (cell_of G7.out).trans rfl
          have c1 : w6.cell? ⟨w.heap.size + 1, 1, none⟩ = some (.int .i64 0) := (cell_of G7.out).trans rfl
          have c2 : w6.cell? ⟨w.heap.size + 1, 2, none⟩ = some (.bool pb) := (cell_of G7.out).trans rfl
          have c3 : w6.cell? ⟨w.heap.size + 1, 3, none⟩ = some (.int .i64 po) := (cell_of G7.out).trans rfl
          have c4 : w6.cell? ⟨w.heap.size + 1, 4, none⟩ = some (.int .i64 pn) := (cell_of G7.out).trans rfl
          have c5 : w6.cell? ⟨w.heap.size + 1, 5, none⟩ = some (.string pd) := (cell_of G7.out).trans rfl
          have d0 : w6.cell? ⟨T, 0, none⟩ = some (.int .i64 pk) := (cell_of T7.out).trans rfl
          have d1 : w6.cell? ⟨T, 1, none⟩ = some (.int .i64 0) := (cell_of T7.out).trans rfl
          have d2 : w6.cell? ⟨T, 2, none⟩ = some (.bool false) := (cell_of T7.out).trans rfl
          have d3 : w6.cell? ⟨T, 3, none⟩ = some (.int .i64 0) := (cell_of T7.out).trans rfl
          have d4 : w6.cell? ⟨T, 4, none⟩ = some (.int .i64 0) := (cell_of T7.out).trans rfl
          have d5 : w6.cell? ⟨T, 5, none⟩ = some (.string ⟨#[]⟩) := (cell_of T7.out).trans rfl
          go_wp2_with fail
          go_meet
          case rel => exact ⟨hid G7.out, hid T7.out, hid B7.out⟩
        · have er : (pr == 0) = false := by rw [beq_eq_false_iff_ne]; exact hr
          simp [hr] at n2 n3 n4 n5
          subst n2 n3 n4 n5
          have c0 : w6.cell? ⟨w.heap.size + 1, 0, none⟩ = some (.int .i64 pk) := (cell_of G7.out).trans rfl
          have c1 : w6.cell? ⟨w.heap.size + 1, 1, none⟩ = some (.int .i64 pr) := (cell_of G7.out).trans rfl
          have c2 : w6.cell? ⟨w.heap.size + 1, 2, none⟩ = some (.bool pb) := (cell_of G7.out).trans rfl
          have c3 : w6.cell? ⟨w.heap.size + 1, 3, none⟩ = some (.int .i64 po) := (cell_of G7.out).trans rfl
          have c4 : w6.cell? ⟨w.heap.size + 1, 4, none⟩ = some (.int .i64 pn) := (cell_of G7.out).trans rfl
          have c5 : w6.cell? ⟨w.heap.size + 1, 5, none⟩ = some (.string pd) := (cell_of G7.out).trans rfl
          have d0 : w6.cell? ⟨T, 0, none⟩ = some (.int .i64 pk) := (cell_of T7.out).trans rfl
          have d1 : w6.cell? ⟨T, 1, none⟩ = some (.int .i64 pr) := (cell_of T7.out).trans rfl
          have d2 : w6.cell? ⟨T, 2, none⟩ = some (.bool false) := (cell_of T7.out).trans rfl
          have d3 : w6.cell? ⟨T, 3, none⟩ = some (.int .i64 0) := (cell_of T7.out).trans rfl
          have d4 : w6.cell? ⟨T, 4, none⟩ = some (.int .i64 0) := (cell_of T7.out).trans rfl
          have d5 : w6.cell? ⟨T, 5, none⟩ = some (.string ⟨#[]⟩) := (cell_of T7.out).trans rfl
          go_wp2_with fail
          go_meet
          case rel => exact ⟨hid G7.out, hid T7.out, hid B7.out⟩
      case rest =>
        obtain ⟨G8, T8, B8⟩ := hcut
        clear G7 T7 B7 HM
        have c0 : wc.cell? ⟨w.heap.size + 1, 0, none⟩ = some (.int .i64 pk) := (cell_of G8.out).trans rfl
        have c1 : wc.cell? ⟨w.heap.size + 1, 1, none⟩ = some (.int .i64 pr) := (cell_of G8.out).trans rfl
        have c2 : wc.cell? ⟨w.heap.size + 1, 2, none⟩ = some (.bool pb) := (cell_of G8.out).trans rfl
        have c3 : wc.cell? ⟨w.heap.size + 1, 3, none⟩ = some (.int .i64 po) := (cell_of G8.out).trans rfl
        have c4 : wc.cell? ⟨w.heap.size + 1, 4, none⟩ = some (.int .i64 pn) := (cell_of G8.out).trans rfl
        have c5 : wc.cell? ⟨w.heap.size + 1, 5, none⟩ = some (.string pd) := (cell_of G8.out).trans rfl
        go_wp2_with fail
        refine (CP.out wc).mono ?_
        rintro e w7 ⟨rfl, b7⟩
        have T9 := hid ((b7.block _ (lt_of_heap T8.out)).trans T8.out)
        have B9 := hid (B8.out.trans (b7.mono B8.out.size))
        clear G8 T8 B8 b7 CP c0 c1 c2 c3 c4 c5
        have c0 : w7.cell? ⟨T, 0, none⟩ = some (.int .i64 mk) := (cell_of T9.out).trans rfl
        have c1 : w7.cell? ⟨T, 1, none⟩ = some (.int .i64 mr) := (cell_of T9.out).trans rfl
        have c2 : w7.cell? ⟨T, 2, none⟩ = some (.bool mb) := (cell_of T9.out).trans rfl
        have c3 : w7.cell? ⟨T, 3, none⟩ = some (.int .i64 mo) := (cell_of T9.out).trans rfl
        have c4 : w7.cell? ⟨T, 4, none⟩ = some (.int .i64 mn) := (cell_of T9.out).trans rfl
        have c5 : w7.cell? ⟨T, 5, none⟩ = some (.string md) := (cell_of T9.out).trans rfl
        go_wp2_with fail
        refine (CM.out w7).mono ?_
        rintro e w8 ⟨rfl, b8⟩
        have T10 := hid ((b8.block _ (lt_of_heap T9.out)).trans T9.out)
        have B10 := hid (B9.out.trans (b8.mono B9.out.size))
        clear T9 B9 b8 CM c0 c1 c2 c3 c4 c5
        go_wp2_with fail
        refine (CV.out w8).mono ?_
        rintro e w9 ⟨rfl, b9⟩
        have T11 := hid ((b9.block _ (lt_of_heap T10.out)).trans T10.out)
        have B11 := hid (B10.out.trans (b9.mono B10.out.size))
        have hlt := lt_of_heap T11.out
        clear T10 B10 b9 CV
        have c0 : w9.cell? ⟨T, 0, none⟩ = some (.int .i64 mk) := (cell_of T11.out).trans rfl
        have c1 : w9.cell? ⟨T, 1, none⟩ = some (.int .i64 mr) := (cell_of T11.out).trans rfl
        have c2 : w9.cell? ⟨T, 2, none⟩ = some (.bool mb) := (cell_of T11.out).trans rfl
        have c3 : w9.cell? ⟨T, 3, none⟩ = some (.int .i64 mo) := (cell_of T11.out).trans rfl
        have c4 : w9.cell? ⟨T, 4, none⟩ = some (.int .i64 mn) := (cell_of T11.out).trans rfl
        have c5 : w9.cell? ⟨T, 5, none⟩ = some (.string md) := (cell_of T11.out).trans rfl
        by_cases hF : F = 0
        · subst hF
          rw [RPH.out rfl, show rpV (⟨mk, mr, mb, mo, mn, md⟩, 0) = .tuple #[.agg #[.int .i64 mk, .int .i64 mr, .bool mb, .int .i64 mo, .int .i64 mn, .string md], .int .i64 0] from rfl]
          go_wp2_with fail
          go_ret
          exact ⟨rfl, B11.out.alloc B11.out.size _⟩
        · have hFn : ((F : Int) != 0) = true := by rw [bne_iff_ne]; omega
          obtain ⟨⟨xk, xr, xb, xo, xn, xd⟩, xe⟩ := rrQ V
          rw [show rpV (⟨xk, xr, xb, xo, xn, xd⟩, xe) = .tuple #[.agg #[.int .i64 xk, .int .i64 xr, .bool xb, .int .i64 xo, .int .i64 xn, .string xd], .int .i64 xe] from rfl]
          go_wp2_with fail
          go_ret
          exact ⟨rfl, B11.out.alloc B11.out.size _⟩
    · have hEn : ((E : Int) == 0) = false := by rw [beq_eq_false_iff_ne]; omega
      obtain ⟨⟨xk, xd, xo, xt, xm⟩, xe⟩ := raQ S
      rw [show rqV (⟨xk, xd, xo, xt, xm⟩, xe) = .tuple #[.agg #[.int .i64 xk, .string xd, .int .i64 xo, .int .i64 xt, .int .i64 xm], .int .i64 xe] from rfl]
      have p0 : w5.cell? ⟨w.heap.size + 1, 0, none⟩ = some (.int .i64 pk) := (cell_of G6.out).trans rfl
      have p1 : w5.cell? ⟨w.heap.size + 1, 1, none⟩ = some (.int .i64 pr) := (cell_of G6.out).trans rfl
      have p2 : w5.cell? ⟨w.heap.size + 1, 2, none⟩ = some (.bool pb) := (cell_of G6.out).trans rfl
      have p3 : w5.cell? ⟨w.heap.size + 1, 3, none⟩ = some (.int .i64 po) := (cell_of G6.out).trans rfl
      have p4 : w5.cell? ⟨w.heap.size + 1, 4, none⟩ = some (.int .i64 pn) := (cell_of G6.out).trans rfl
      have p5 : w5.cell? ⟨w.heap.size + 1, 5, none⟩ = some (.string pd) := (cell_of G6.out).trans rfl
      go_upto_region 21 with fail
      clear p0 p1 p2 p3 p4 p5
      have G7 : Hid (((w5.alloc (.cells #[.int .i64 xk, .string xd, .int .i64 xo, .int .i64 xt, .int .i64 xm] 24)).alloc (.cells #[.int .i64 pk, .int .i64 pr, .bool false, .int .i64 0, .int .i64 0, .string ⟨#[]⟩] 27)).heap[w.heap.size + 1]? = _) := hid (heap_alloc_at (heap_alloc_at G6.out))
      have T7 : Hid (((w5.alloc (.cells #[.int .i64 xk, .string xd, .int .i64 xo, .int .i64 xt, .int .i64 xm] 24)).alloc (.cells #[.int .i64 pk, .int .i64 pr, .bool false, .int .i64 0, .int .i64 0, .string ⟨#[]⟩] 27)).heap[w5.heap.size + 1]? = some (.cells #[.int .i64 pk, .int .i64 pr, .bool false, .int .i64 0, .int .i64 0, .string ⟨#[]⟩] 27 (0, 0))) := hid (heap_new' _ _ _ (by simp))
      have B7 : Hid (Below w.heap.size w ((w5.alloc (.cells #[.int .i64 xk, .string xd, .int .i64 xo, .int .i64 xt, .int .i64 xm] 24)).alloc (.cells #[.int .i64 pk, .int .i64 pr, .bool false, .int .i64 0, .int .i64 0, .string ⟨#[]⟩] 27))) := hid ((B6.out.alloc B6.out.size _).alloc (by have := B6.out.size; simp; omega) _)
      generalize (w5.alloc (.cells #[.int .i64 xk, .string xd, .int .i64 xo, .int .i64 xt, .int .i64 xm] 24)).alloc (.cells #[.int .i64 pk, .int .i64 pr, .bool false, .int .i64 0, .int .i64 0, .string ⟨#[]⟩] 27) = w6 at *
      have hTT : w.heap.size + 1 < w5.heap.size + 1 := by omega
      generalize w5.heap.size + 1 = T at *
      clear G6 B6 P6
      have g0 : w6.cell? ⟨w.heap.size + 1, 0, none⟩ = some (.int .i64 pk) := (cell_of G7.out).trans rfl
      have g1 : w6.cell? ⟨w.heap.size + 1, 1, none⟩ = some (.int .i64 pr) := (cell_of G7.out).trans rfl
      have g2 : w6.cell? ⟨w.heap.size + 1, 2, none⟩ = some (.bool pb) := (cell_of G7.out).trans rfl
      have g3 : w6.cell? ⟨w.heap.size + 1, 3, none⟩ = some (.int .i64 po) := (cell_of G7.out).trans rfl
      have g4 : w6.cell? ⟨w.heap.size + 1, 4, none⟩ = some (.int .i64 pn) := (cell_of G7.out).trans rfl
      have g5 : w6.cell? ⟨w.heap.size + 1, 5, none⟩ = some (.string pd) := (cell_of G7.out).trans rfl
      go_upto_if 85 with fail
      clear g0 g1 g2 g3 g4 g5
      go_cut [85, 88, 96, 104, 110, 115] (fun v1 v2 v3 v4 v5 v6 wc => Hid (wc.heap[w.heap.size + 1]? = some (.cells #[.int .i64 pk, .int .i64 pr, .bool pb, .int .i64 po, .int .i64 pn, .string pd] 27 (0, 0))) ∧ Hid (wc.heap[T]? = some (.cells #[.int .i64 mk, .int .i64 mr, .bool mb, .int .i64 mo, .int .i64 mn, .string md] 27 (0, 0))) ∧ Hid (Below w.heap.size w wc))
      case first =>
        have HMO := HM.out
        unfold nrmP at HMO
        simp only [Rp.mk.injEq] at HMO
        obtain ⟨n0, n1, n2, n3, n4, n5⟩ := HMO
        subst n0 n1
        by_cases hr : pr = 0
        · subst hr
          by_cases hp1 : pk = 1
          · subst hp1
            simp at n2 n3 n4 n5
            subst n2 n3 n4 n5
            have c0 : w6.cell? ⟨w.heap.size + 1, 0, none⟩ = some (.int .i64 1) := (cell_of G7.out).trans rfl
            have c1 : w6.cell? ⟨w.heap.size + 1, 1, none⟩ = some (.int .i64 0) := (cell_of G7.out).trans rfl
            have c2 : w6.cell? ⟨w.heap.size + 1, 2, none⟩ = some (.bool pb) := (cell_of G7.out).trans rfl
            have c3 : w6.cell? ⟨w.heap.size + 1, 3, none⟩ = some (.int .i64 po) := (cell_of G7.out).trans rfl
            have c4 : w6.cell? ⟨w.heap.size + 1, 4, none⟩ = some (.int .i64 pn) := (cell_of G7.out).trans rfl
            have c5 : w6.cell? ⟨w.heap.size + 1, 5, none⟩ = some (.string pd) := (cell_of G7.out).trans rfl
            have d0 : w6.cell? ⟨T, 0, none⟩ = some (.int .i64 1) := (cell_of T7.out).trans rfl
            have d1 : w6.cell? ⟨T, 1, none⟩ = some (.int .i64 0) := (cell_of T7.out).trans rfl
            have d2 : w6.cell? ⟨T, 2, none⟩ = some (.bool false) := (cell_of T7.out).trans rfl
            have d3 : w6.cell? ⟨T, 3, none⟩ = some (.int .i64 0) := (cell_of T7.out).trans rfl
            have d4 : w6.cell? ⟨T, 4, none⟩ = some (.int .i64 0) := (cell_of T7.out).trans rfl
            have d5 : w6.cell? ⟨T, 5, none⟩ = some (.string ⟨#[]⟩) := (cell_of T7.out).trans rfl
            have z2 := froz_of (i := 2) T7.out
            have z3 := froz_of (i := 3) T7.out
            go_wp2_with fail
            go_region
            all_goals
              go_wp2_with fail
              go_meet
              case rel => exact ⟨hid (hd_drew (heap_set_far (heap_set_far G7.out (by show w.heap.size + 1 ≠ T; omega)) (by show w.heap.size + 1 ≠ T; omega))), hid (hd_drew (heap_set (heap_set T7.out))), hid (Below.drew ((B7.out.setCell (by show w.heap.size ≤ T; omega) _).setCell (by show w.heap.size ≤ T; omega) _))⟩
          by_cases hp2 : pk = 2
          · subst hp2
            simp at n2 n3 n4 n5
            subst n2 n3 n4 n5
            have c0 : w6.cell? ⟨w.heap.size + 1, 0, none⟩ = some (.int .i64 2) := (cell_of G7.out).trans rfl
            have c1 : w6.cell? ⟨w.heap.size + 1, 1, none⟩ = some (.int .i64 0) := (cell_of G7.out).trans rfl
            have c2 : w6.cell? ⟨w.heap.size + 1, 2, none⟩ = some (.bool pb) := (cell_of G7.out).trans rfl
            have c3 : w6.cell? ⟨w.heap.size + 1, 3, none⟩ = some (.int .i64 po) := (cell_of G7.out).trans rfl
            have c4 : w6.cell? ⟨w.heap.size + 1, 4, none⟩ = some (.int .i64 pn) := (cell_of G7.out).trans rfl
            have c5 : w6.cell? ⟨w.heap.size + 1, 5, none⟩ = some (.string pd) := (cell_of G7.out).trans rfl
            have d0 : w6.cell? ⟨T, 0, none⟩ = some (.int .i64 2) := (cell_of T7.out).trans rfl
            have d1 : w6.cell? ⟨T, 1, none⟩ = some (.int .i64 0) := (cell_of T7.out).trans rfl
            have d2 : w6.cell? ⟨T, 2, none⟩ = some (.bool false) := (cell_of T7.out).trans rfl
            have d3 : w6.cell? ⟨T, 3, none⟩ = some (.int .i64 0) := (cell_of T7.out).trans rfl
            have d4 : w6.cell? ⟨T, 4, none⟩ = some (.int .i64 0) := (cell_of T7.out).trans rfl
            have d5 : w6.cell? ⟨T, 5, none⟩ = some (.string ⟨#[]⟩) := (cell_of T7.out).trans rfl
            have z4 := froz_of (i := 4) T7.out
            have z5 := froz_of (i := 5) T7.out
            go_wp2_with fail
            go_region
            all_goals
              go_wp2_with fail
              go_meet
              case rel => exact ⟨hid (hd_drew (heap_set_far (heap_set_far G7.out (by show w.heap.size + 1 ≠ T; omega)) (by show w.heap.size + 1 ≠ T; omega))), hid (hd_drew (heap_set (heap_set T7.out))), hid (Below.drew ((B7.out.setCell (by show w.heap.size ≤ T; omega) _).setCell (by show w.heap.size ≤ T; omega) _))⟩
          by_cases hp3 : pk = 3
          · subst hp3
            simp at n2 n3 n4 n5
            subst n2 n3 n4 n5
            have c0 : w6.cell? ⟨w.heap.size + 1, 0, none⟩ = some (.int .i64 3) := (cell_of G7.out).trans rfl
            have c1 : w6.cell? ⟨w.heap.size + 1, 1, none⟩ = some (.int .i64 0) := (cell_of G7.out).trans rfl
            have c2 : w6.cell? ⟨w.heap.size + 1, 2, none⟩ = some (.bool pb) := (cell_of G7.out).trans rfl
            have c3 : w6.cell? ⟨w.heap.size + 1, 3, none⟩ = some (.int .i64 po) := (cell_of G7.out).trans rfl
            have c4 : w6.cell? ⟨w.heap.size + 1, 4, none⟩ = some (.int .i64 pn) := (cell_of G7.out).trans rfl
            have c5 : w6.cell? ⟨w.heap.size + 1, 5, none⟩ = some (.string pd) := (cell_of G7.out).trans rfl
            have d0 : w6.cell? ⟨T, 0, none⟩ = some (.int .i64 3) := (cell_of T7.out).trans rfl
            have d1 : w6.cell? ⟨T, 1, none⟩ = some (.int .i64 0) := (cell_of T7.out).trans rfl
            have d2 : w6.cell? ⟨T, 2, none⟩ = some (.bool false) := (cell_of T7.out).trans rfl
            have d3 : w6.cell? ⟨T, 3, none⟩ = some (.int .i64 0) := (cell_of T7.out).trans rfl
            have d4 : w6.cell? ⟨T, 4, none⟩ = some (.int .i64 0) := (cell_of T7.out).trans rfl
            have d5 : w6.cell? ⟨T, 5, none⟩ = some (.string ⟨#[]⟩) := (cell_of T7.out).trans rfl
            have z3 := froz_of (i := 3) T7.out
            go_wp2_with fail
            go_meet
            case rel => exact ⟨hid (heap_set_far G7.out (by show w.heap.size + 1 ≠ T; omega)), hid (heap_set T7.out), hid (B7.out.setCell (by show w.heap.size ≤ T; omega) _)⟩
          by_cases hp4 : pk = 4
          · subst hp4
            simp at n2 n3 n4 n5
            subst n2 n3 n4 n5
            have c0 : w6.cell? ⟨w.heap.size + 1, 0, none⟩ = some (.int .i64 4) := (cell_of G7.out).trans rfl
            have c1 : w6.cell? ⟨w.heap.size + 1, 1, none⟩ = some (.int .i64 0) := (cell_of G7.out).trans rfl
            have c2 : w6.cell? ⟨w.heap.size + 1, 2, none⟩ = some (.bool pb) := (cell_of G7.out).trans rfl
            have c3 : w6.cell? ⟨w.heap.size + 1, 3, none⟩ = some (.int .i64 po) := (cell_of G7.out).trans rfl
            have c4 : w6.cell? ⟨w.heap.size + 1, 4, none⟩ = some (.int .i64 pn) := (cell_of G7.out).trans rfl
            have c5 : w6.cell? ⟨w.heap.size + 1, 5, none⟩ = some (.string pd) := (cell_of G7.out).trans rfl
            have d0 : w6.cell? ⟨T, 0, none⟩ = some (.int .i64 4) := (cell_of T7.out).trans rfl
            have d1 : w6.cell? ⟨T, 1, none⟩ = some (.int .i64 0) := (cell_of T7.out).trans rfl
            have d2 : w6.cell? ⟨T, 2, none⟩ = some (.bool false) := (cell_of T7.out).trans rfl
            have d3 : w6.cell? ⟨T, 3, none⟩ = some (.int .i64 0) := (cell_of T7.out).trans rfl
            have d4 : w6.cell? ⟨T, 4, none⟩ = some (.int .i64 0) := (cell_of T7.out).trans rfl
            have d5 : w6.cell? ⟨T, 5, none⟩ = some (.string ⟨#[]⟩) := (cell_of T7.out).trans rfl
            have z4 := froz_of (i := 4) T7.out
            go_wp2_with fail
            go_meet
            case rel => exact ⟨hid (heap_set_far G7.out (by show w.heap.size + 1 ≠ T; omega)), hid (heap_set T7.out), hid (B7.out.setCell (by show w.heap.size ≤ T; omega) _)⟩
          by_cases hp5 : pk = 5
          · subst hp5
            simp at n2 n3 n4 n5
            subst n2 n3 n4 n5
            have c0 : w6.cell? ⟨w.heap.size + 1, 0, none⟩ = some (.int .i64 5) := (cell_of G7.out).trans rfl
            have c1 : w6.cell? ⟨w.heap.size + 1, 1, none⟩ = some (.int .i64 0) := (cell_of G7.out).trans rfl
            have c2 : w6.cell? ⟨w.heap.size + 1, 2, none⟩ = some (.bool pb) := (cell_of G7.out).trans rfl
            have c3 : w6.cell? ⟨w.heap.size + 1, 3, none⟩ = some (.int .i64 po) := (cell_of G7.out).trans rfl
            have c4 : w6.cell? ⟨w.heap.size + 1, 4, none⟩ = some (.int .i64 pn) := (cell_of G7.out).trans rfl
            have c5 : w6.cell? ⟨w.heap.size + 1, 5, none⟩ = some (.string pd) := (cell_of G7.out).trans rfl
            have d0 : w6.cell? ⟨T, 0, none⟩ = some (.int .i64 5) := (cell_of T7.out).trans rfl
            have d1 : w6.cell? ⟨T, 1, none⟩ = some (.int .i64 0) := (cell_of T7.out).trans rfl
            have d2 : w6.cell? ⟨T, 2, none⟩ = some (.bool false) := (cell_of T7.out).trans rfl
            have d3 : w6.cell? ⟨T, 3, none⟩ = some (.int .i64 0) := (cell_of T7.out).trans rfl
            have d4 : w6.cell? ⟨T, 4, none⟩ = some (.int .i64 0) := (cell_of T7.out).trans rfl
            have d5 : w6.cell? ⟨T, 5, none⟩ = some (.string ⟨#[]⟩) := (cell_of T7.out).trans rfl
            have z3 := froz_of (i := 3) T7.out
            go_wp2_with fail
            go_meet
            case rel => exact ⟨hid (heap_set_far G7.out (by show w.heap.size + 1 ≠ T; omega)), hid (heap_set T7.out), hid (B7.out.setCell (by show w.heap.size ≤ T; omega) _)⟩
          by_cases hp6 : pk = 6
          · subst hp6
            simp at n2 n3 n4 n5
            subst n2 n3 n4 n5
            have c0 : w6.cell? ⟨w.heap.size + 1, 0, none⟩ = some (.int .i64 6) := (cell_of G7.out).trans rfl
            have c1 : w6.cell? ⟨w.heap.size + 1, 1, none⟩ = some (.int .i64 0) := (cell_of G7.out).trans rfl
            have c2 : w6.cell? ⟨w.heap.size + 1, 2, none⟩ = some (.bool pb) := (cell_of G7.out).trans rfl
            have c3 : w6.cell? ⟨w.heap.size + 1, 3, none⟩ = some (.int .i64 po) := (cell_of G7.out).trans rfl
            have c4 : w6.cell? ⟨w.heap.size + 1, 4, none⟩ = some (.int .i64 pn) := (cell_of G7.out).trans rfl
            have c5 : w6.cell? ⟨w.heap.size + 1, 5, none⟩ = some (.string pd) := (cell_of G7.out).trans rfl
            have d0 : w6.cell? ⟨T, 0, none⟩ = some (.int .i64 6) := (cell_of T7.out).trans rfl
            have d1 : w6.cell? ⟨T, 1, none⟩ = some (.int .i64 0) := (cell_of T7.out).trans rfl
            have d2 : w6.cell? ⟨T, 2, none⟩ = some (.bool false) := (cell_of T7.out).trans rfl
            have d3 : w6.cell? ⟨T, 3, none⟩ = some (.int .i64 0) := (cell_of T7.out).trans rfl
            have d4 : w6.cell? ⟨T, 4, none⟩ = some (.int .i64 0) := (cell_of T7.out).trans rfl
            have d5 : w6.cell? ⟨T, 5, none⟩ = some (.string ⟨#[]⟩) := (cell_of T7.out).trans rfl
            have z3 := froz_of (i := 3) T7.out
            have z4 := froz_of (i := 4) T7.out
            go_wp2_with fail
            go_region
            all_goals
              go_wp2_with fail
              go_meet
              case rel => exact ⟨hid (hd_drew (heap_set_far (heap_set_far G7.out (by show w.heap.size + 1 ≠ T; omega)) (by show w.heap.size + 1 ≠ T; omega))), hid (hd_drew (heap_set (heap_set T7.out))), hid (Below.drew ((B7.out.setCell (by show w.heap.size ≤ T; omega) _).setCell (by show w.heap.size ≤ T; omega) _))⟩
          have e1 : (pk == 1) = false := by rw [beq_eq_false_iff_ne]; exact hp1
          have e2 : (pk == 2) = false := by rw [beq_eq_false_iff_ne]; exact hp2
          have e3 : (pk == 3) = false := by rw [beq_eq_false_iff_ne]; exact hp3
          have e4 : (pk == 4) = false := by rw [beq_eq_false_iff_ne]; exact hp4
          have e5 : (pk == 5) = false := by rw [beq_eq_false_iff_ne]; exact hp5
          have e6 : (pk == 6) = false := by rw [beq_eq_false_iff_ne]; exact hp6
          simp [hp1, hp2, hp3, hp4, hp5, hp6] at n2 n3 n4 n5
          subst n2 n3 n4 n5
          have c0 : w6.cell? ⟨w.heap.size + 1, 0, none⟩ = some (.int .i64 pk) := (cell_of G7.out).trans rfl
          have c1 : w6.cell? ⟨w.heap.size + 1, 1, none⟩ = some (.int .i64 0) := (cell_of G7.out).trans rfl
          have c2 : w6.cell? ⟨w.heap.size + 1, 2, none⟩ = some (.bool pb) := (cell_of G7.out).trans rfl
          have c3 : w6.cell? ⟨w.heap.size + 1, 3, none⟩ = some (.int .i64 po) := (cell_of G7.out).trans rfl
          have c4 : w6.cell? ⟨w.heap.size + 1, 4, none⟩ = some (.int .i64 pn) := (cell_of G7.out).trans rfl
          have c5 : w6.cell? ⟨w.heap.size + 1, 5, none⟩ = some (.string pd) := (cell_of G7.out).trans rfl
          have d0 : w6.cell? ⟨T, 0, none⟩ = some (.int .i64 pk) := (cell_of T7.out).trans rfl
          have d1 : w6.cell? ⟨T, 1, none⟩ = some (.int .i64 0) := (cell_of T7.out).trans rfl
          have d2 : w6.cell? ⟨T, 2, none⟩ = some (.bool false) := (cell_of T7.out).trans rfl
          have d3 : w6.cell? ⟨T, 3, none⟩ = some (.int .i64 0) := (cell_of T7.out).trans rfl
          have d4 : w6.cell? ⟨T, 4, none⟩ = some (.int .i64 0) := (cell_of T7.out).trans rfl
          have d5 : w6.cell? ⟨T, 5, none⟩ = some (.string ⟨#[]⟩) := (cell_of T7.out).trans rfl
          go_wp2_with fail
          go_meet
          case rel => exact ⟨hid G7.out, hid T7.out, hid B7.out⟩
        · have er : (pr == 0) = false := by rw [beq_eq_false_iff_ne]; exact hr
          simp [hr] at n2 n3 n4 n5
          subst n2 n3 n4 n5
          have c0 : w6.cell? ⟨w.heap.size + 1, 0, none⟩ = some (.int .i64 pk) := (cell_of G7.out).trans rfl
          have c1 : w6.cell? ⟨w.heap.size + 1, 1, none⟩ = some (.int .i64 pr) := (cell_of G7.out).trans rfl
          have c2 : w6.cell? ⟨w.heap.size + 1, 2, none⟩ = some (.bool pb) := (cell_of G7.out).trans rfl
          have c3 : w6.cell? ⟨w.heap.size + 1, 3, none⟩ = some (.int .i64 po) := (cell_of G7.out).trans rfl
          have c4 : w6.cell? ⟨w.heap.size + 1, 4, none⟩ = some (.int .i64 pn) := (cell_of G7.out).trans rfl
          have c5 : w6.cell? ⟨w.heap.size + 1, 5, none⟩ = some (.string pd) := (cell_of G7.out).trans rfl
          have d0 : w6.cell? ⟨T, 0, none⟩ = some (.int .i64 pk) := (cell_of T7.out).trans rfl
          have d1 : w6.cell? ⟨T, 1, none⟩ = some (.int .i64 pr) := (cell_of T7.out).trans rfl
          have d2 : w6.cell? ⟨T, 2, none⟩ = some (.bool false) := (cell_of T7.out).trans rfl
          have d3 : w6.cell? ⟨T, 3, none⟩ = some (.int .i64 0) := (cell_of T7.out).trans rfl
          have d4 : w6.cell? ⟨T, 4, none⟩ = some (.int .i64 0) := (cell_of T7.out).trans rfl
          have d5 : w6.cell? ⟨T, 5, none⟩ = some (.string ⟨#[]⟩) := (cell_of T7.out).trans rfl
          go_wp2_with fail
          go_meet
          case rel => exact ⟨hid G7.out, hid T7.out, hid B7.out⟩
      case rest =>
        obtain ⟨G8, T8, B8⟩ := hcut
        clear G7 T7 B7 HM
        have c0 : wc.cell? ⟨w.heap.size + 1, 0, none⟩ = some (.int .i64 pk) := (cell_of G8.out).trans rfl
        have c1 : wc.cell? ⟨w.heap.size + 1, 1, none⟩ = some (.int .i64 pr) := (cell_of G8.out).trans rfl
        have c2 : wc.cell? ⟨w.heap.size + 1, 2, none⟩ = some (.bool pb) := (cell_of G8.out).trans rfl
        have c3 : wc.cell? ⟨w.heap.size + 1, 3, none⟩ = some (.int .i64 po) := (cell_of G8.out).trans rfl
        have c4 : wc.cell? ⟨w.heap.size + 1, 4, none⟩ = some (.int .i64 pn) := (cell_of G8.out).trans rfl
        have c5 : wc.cell? ⟨w.heap.size + 1, 5, none⟩ = some (.string pd) := (cell_of G8.out).trans rfl
        go_wp2_with fail
        refine (CP.out wc).mono ?_
        rintro e w7 ⟨rfl, b7⟩
        have T9 := hid ((b7.block _ (lt_of_heap T8.out)).trans T8.out)
        have B9 := hid (B8.out.trans (b7.mono B8.out.size))
        clear G8 T8 B8 b7 CP c0 c1 c2 c3 c4 c5
        have c0 : w7.cell? ⟨T, 0, none⟩ = some (.int .i64 mk) := (cell_of T9.out).trans rfl
        have c1 : w7.cell? ⟨T, 1, none⟩ = some (.int .i64 mr) := (cell_of T9.out).trans rfl
        have c2 : w7.cell? ⟨T, 2, none⟩ = some (.bool mb) := (cell_of T9.out).trans rfl
        have c3 : w7.cell? ⟨T, 3, none⟩ = some (.int .i64 mo) := (cell_of T9.out).trans rfl
        have c4 : w7.cell? ⟨T, 4, none⟩ = some (.int .i64 mn) := (cell_of T9.out).trans rfl
        have c5 : w7.cell? ⟨T, 5, none⟩ = some (.string md) := (cell_of T9.out).trans rfl
        go_wp2_with fail
        refine (CM.out w7).mono ?_
        rintro e w8 ⟨rfl, b8⟩
        have T10 := hid ((b8.block _ (lt_of_heap T9.out)).trans T9.out)
        have B10 := hid (B9.out.trans (b8.mono B9.out.size))
        clear T9 B9 b8 CM c0 c1 c2 c3 c4 c5
        go_wp2_with fail
        refine (CV.out w8).mono ?_
        rintro e w9 ⟨rfl, b9⟩
        have T11 := hid ((b9.block _ (lt_of_heap T10.out)).trans T10.out)
        have B11 := hid (B10.out.trans (b9.mono B10.out.size))
        have hlt := lt_of_heap T11.out
        clear T10 B10 b9 CV
        have c0 : w9.cell? ⟨T, 0, none⟩ = some (.int .i64 mk) := (cell_of T11.out).trans rfl
        have c1 : w9.cell? ⟨T, 1, none⟩ = some (.int .i64 mr) := (cell_of T11.out).trans rfl
        have c2 : w9.cell? ⟨T, 2, none⟩ = some (.bool mb) := (cell_of T11.out).trans rfl
        have c3 : w9.cell? ⟨T, 3, none⟩ = some (.int .i64 mo) := (cell_of T11.out).trans rfl
        have c4 : w9.cell? ⟨T, 4, none⟩ = some (.int .i64 mn) := (cell_of T11.out).trans rfl
        have c5 : w9.cell? ⟨T, 5, none⟩ = some (.string md) := (cell_of T11.out).trans rfl
        by_cases hF : F = 0
        · subst hF
          rw [RPH.out rfl, show rpV (⟨mk, mr, mb, mo, mn, md⟩, 0) = .tuple #[.agg #[.int .i64 mk, .int .i64 mr, .bool mb, .int .i64 mo, .int .i64 mn, .string md], .int .i64 0] from rfl]
          go_wp2_with fail
          go_ret
          exact ⟨rfl, B11.out.alloc B11.out.size _⟩
        · have hFn : ((F : Int) != 0) = true := by rw [bne_iff_ne]; omega
          obtain ⟨⟨xk, xr, xb, xo, xn, xd⟩, xe⟩ := rrQ V
          rw [show rpV (⟨xk, xr, xb, xo, xn, xd⟩, xe) = .tuple #[.agg #[.int .i64 xk, .int .i64 xr, .bool xb, .int .i64 xo, .int .i64 xn, .string xd], .int .i64 xe] from rfl]
          go_wp2_with fail
          go_ret
          exact ⟨rfl, B11.out.alloc B11.out.size _⟩
end Go.Proofs.Ytgdaaohlongmlaa
