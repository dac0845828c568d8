/- Same of two records that say the same: true; nothing that was there before is turned. -/
import Derived.Test.YtoohmbkgdmmghaaRecOpen
import Derived.Laws.StructEq
namespace Go.Proofs.Ytoohmbkgdmmghaa
open Go.RowKit
/-- What a text that may be null says. -/
def bd (h : Bool) (d : ByteArray) : ByteArray := if h then d else ⟨#[]⟩
set_option maxHeartbeats 1000000 in
set_option maxRecDepth 20000 in
theorem bare_any (h : Bool) (d : ByteArray) (w : World) :
    Calls Try.prog 15 #[.agg #[.bool h, .string d]] w fun e w' => e = .returned (.agg #[.bool h, .string (bd h d)]) ∧ Below w.heap.size w w' := by
  cases h with
  | false =>
    go_enter Try.func15, Try.ntmps15
    go_wp2_with fail
    exact bodyPost_ret (v := .agg #[.bool false, .string ⟨#[]⟩]) (by simp [results, Try.results15, go_sem]) rfl ⟨rfl, ((Below.refl _ w).alloc (Nat.le_refl _) _).alloc (by simp) _⟩
  | true =>
    go_enter Try.func15, Try.ntmps15
    go_wp2_with fail
    exact bodyPost_ret (v := .agg #[.bool true, .string d]) (by simp [results, Try.results15, go_sem]) rfl ⟨rfl, ((Below.refl _ w).alloc (Nat.le_refl _) _).alloc (by simp) _⟩
theorem bareB (h : Bool) (d : ByteArray) (B : Nat) (w0 w : World) (hB : B ≤ w0.heap.size) (hb : Below B w0 w) :
    Calls Try.prog 15 #[.agg #[.bool h, .string d]] w fun e w' => e = .returned (.agg #[.bool h, .string (bd h d)]) ∧ Below B w0 w' :=
  (bare_any h d w).mono fun _ _ h => ⟨h.1, bel_next hb hB h.2⟩
theorem Try.optStruct : Try.prog.underlying 23 = some (.struct (Try.prog.fieldsOf 23)) := by kernel_rfl
theorem Try.optHeld : Try.prog.stoodInHeld 23 = false := by kernel_rfl
theorem Try.optGuard : Try.prog.eqGuardType Try.prog.depth 23 = false := by kernel_rfl
set_option maxRecDepth 20000 in
theorem neq_opt (b : Bool) (d : ByteArray) (w : World) : (binOp .neq 23 (.agg #[.bool b, .string d]) (.agg #[.bool b, .string d])).run Try.prog w = .ok (.bool false) w := by
  rw [run_neq_struct, run_equalIn_agg w 9999 _ _ _ Try.optStruct Try.optHeld]
  have hf : (Try.prog.fieldsOf 23) = (match Try.prog.underlying 23 with | some (.struct fs) => fs | _ => #[]) := rfl
  rw [hf, Try.underlying23]
  simp [go_sem, Op.eqFields, Try.underlying9, Try.underlying4]
theorem Try.hdrStruct : Try.prog.underlying 33 = some (.struct (Try.prog.fieldsOf 33)) := by kernel_rfl
theorem Try.hdrHeld : Try.prog.stoodInHeld 33 = false := by kernel_rfl
theorem Try.hdrGuard : Try.prog.eqGuardType Try.prog.depth 33 = false := by kernel_rfl
set_option maxRecDepth 20000 in
theorem neq_hdr (k : ByteArray) (b : Bool) (d : ByteArray) (w : World) : (binOp .neq 33 (.agg #[.string k, .bool b, .string d]) (.agg #[.string k, .bool b, .string d])).run Try.prog w = .ok (.bool false) w := by
  rw [run_neq_struct, run_equalIn_agg w 9999 _ _ _ Try.hdrStruct Try.hdrHeld]
  have hf : (Try.prog.fieldsOf 33) = (match Try.prog.underlying 33 with | some (.struct fs) => fs | _ => #[]) := rfl
  rw [hf, Try.underlying33]
  simp [go_sem, Op.eqFields, Try.underlying9, Try.underlying4, Try.underlying23]
theorem store3 {x : World} {A R : Nat} {o : Obj} {v0 v1 v2 : Value} (h : x.heap[A]? = some o) (hne : A ≠ R) :
    (((x.setCell ⟨R, 0, none⟩ v0).setCell ⟨R, 1, none⟩ v1).setCell ⟨R, 2, none⟩ v2).heap[A]? = some o :=
  heap_set_far (heap_set_far (heap_set_far h hne) hne) hne
set_option maxHeartbeats 800000 in
set_option maxRecDepth 20000 in
theorem bareh_any (k : ByteArray) (h : Bool) (d : ByteArray) (w : World) :
    Calls Try.prog 16 #[.agg #[.string k, .bool h, .string d]] w fun e w' => e = .returned (.agg #[.string k, .bool h, .string (bd h d)]) ∧ Below w.heap.size w w' := by
  go_enter Try.func16, Try.ntmps16
  go_wp2_with fail
  have h1 : ((w.alloc (.cells #[.string k, .bool h, .string d] 33)).alloc (.cells #[.string ⟨#[]⟩, .bool false, .string ⟨#[]⟩] 33)).heap[w.heap.size]? = some (.cells #[.string k, .bool h, .string d] 33 (0, 0)) := heap_alloc_at (heap_new _ _)
  have h2 : ((w.alloc (.cells #[.string k, .bool h, .string d] 33)).alloc (.cells #[.string ⟨#[]⟩, .bool false, .string ⟨#[]⟩] 33)).heap[w.heap.size + 1]? = some (.cells #[.string ⟨#[]⟩, .bool false, .string ⟨#[]⟩] 33 (0, 0)) := heap_new' _ _ _ (by simp)
  have hb1 : Below w.heap.size w ((w.alloc (.cells #[.string k, .bool h, .string d] 33)).alloc (.cells #[.string ⟨#[]⟩, .bool false, .string ⟨#[]⟩] 33)) := ((Below.refl _ w).alloc (Nat.le_refl _) _).alloc (by simp) _
  have hs1 : ((w.alloc (.cells #[.string k, .bool h, .string d] 33)).alloc (.cells #[.string ⟨#[]⟩, .bool false, .string ⟨#[]⟩] 33)).heap.size = w.heap.size + 2 := by simp
  generalize (w.alloc (.cells #[.string k, .bool h, .string d] 33)).alloc (.cells #[.string ⟨#[]⟩, .bool false, .string ⟨#[]⟩] 33) = W2 at *
  have hB : w.heap.size + 2 ≤ W2.heap.size := by omega
  have C1 : Hid (∀ x, Below (w.heap.size + 2) W2 x → Calls Try.prog 15 #[.agg #[.bool h, .string d]] x fun e w' => e = .returned (.agg #[.bool h, .string (bd h d)]) ∧ Hid (Below (w.heap.size + 2) W2 w') ∧ w'.heap[w.heap.size]? = some (.cells #[.string k, .bool h, .string d] 33 (0, 0)) ∧ Hid (w'.heap[w.heap.size + 1]? = some (.cells #[.string ⟨#[]⟩, .bool false, .string ⟨#[]⟩] 33 (0, 0))) ∧ w'.cell? ⟨w.heap.size + 1, 0, none⟩ = some (.string ⟨#[]⟩) ∧ w'.cell? ⟨w.heap.size + 1, 1, none⟩ = some (.bool false) ∧ w'.cell? ⟨w.heap.size + 1, 2, none⟩ = some (.string ⟨#[]⟩) ∧ w'.frozen? ⟨w.heap.size + 1, 0, none⟩ = false ∧ w'.frozen? ⟨w.heap.size + 1, 1, none⟩ = false ∧ w'.frozen? ⟨w.heap.size + 1, 2, none⟩ = false) := by
    intro x hx
    refine (bareB h d (w.heap.size + 2) W2 x hB hx).mono ?_
    rintro e w' ⟨rfl, hb⟩
    have r1 := (hb.block (w.heap.size + 1) (by omega)).trans h2
    have m := cells3 r1
    exact ⟨rfl, hb, (hb.block w.heap.size (by omega)).trans h1, r1, m.1, m.2.1, m.2.2, froz_of r1, froz_of r1, froz_of r1⟩
  have HB1 := hid hb1
  have h0 : Below (w.heap.size + 2) W2 W2 := Below.refl _ _
  have h0' : Below (w.heap.size + 2) W2 W2.drew := h0.drew
  have H1 := hid h1
  have H1' : Hid (W2.drew.heap[w.heap.size]? = some (.cells #[.string k, .bool h, .string d] 33 (0, 0))) := h1
  have y1 : w.heap.size ≠ w.heap.size + 1 := by omega
  clear h1 h2 hb1
  go_region_held3 (fun x => x.cell? ⟨w.heap.size, 0, none⟩ = some (.string k) ∧ x.cell? ⟨w.heap.size, 1, none⟩ = some (.bool h) ∧ x.cell? ⟨w.heap.size, 2, none⟩ = some (.string d)) (first | with_reducible exact cells3 H1.out | with_reducible exact cells3 H1'.out | with_reducible exact cells3 g1 | with_reducible exact cells3 (store3 g1 y1)) (first | (go_at_call 15; refine (C1.out _ (by assumption)).mono ?_; rintro e w' ⟨rfl, hbel, g1, r1, m0, m1, m2, n0, n1, n2⟩))
  have f11 : (((w'.setCell ⟨w.heap.size + 1, 0, none⟩ (.string k)).setCell ⟨w.heap.size + 1, 1, none⟩ (.bool h)).setCell ⟨w.heap.size + 1, 2, none⟩ (.string (bd h d))).heap[w.heap.size + 1]? = some (.cells #[.string k, .bool h, .string (bd h d)] 33 (0, 0)) := heap_set (heap_set (heap_set r1.out))
  obtain ⟨j0, j1, j2⟩ := cells3 f11
  clear f11 m0 m1 m2 n0 n1 n2
  have HF : Hid (Below w.heap.size w (((w'.setCell ⟨w.heap.size + 1, 0, none⟩ (.string k)).setCell ⟨w.heap.size + 1, 1, none⟩ (.bool h)).setCell ⟨w.heap.size + 1, 2, none⟩ (.string (bd h d)))) := (((HB1.out.trans (hbel.out.mono (by omega))).setCell (by show w.heap.size ≤ w.heap.size + 1; omega) _).setCell (by show w.heap.size ≤ w.heap.size + 1; omega) _).setCell (by show w.heap.size ≤ w.heap.size + 1; omega) _
  go_wp2_with fail
  exact bodyPost_ret (v := .agg #[.string k, .bool h, .string (bd h d)]) (by simp [results, Try.results16, go_sem, j0, j1, j2]) rfl ⟨rfl, HF.out⟩
theorem barehB (k : ByteArray) (h : Bool) (d : ByteArray) (B : Nat) (w0 w : World) (hB : B ≤ w0.heap.size) (hb : Below B w0 w) :
    Calls Try.prog 16 #[.agg #[.string k, .bool h, .string d]] w fun e w' => e = .returned (.agg #[.string k, .bool h, .string (bd h d)]) ∧ Below B w0 w' :=
  (bareh_any k h d w).mono fun _ _ h => ⟨h.1, bel_next hb hB h.2⟩
theorem held12 {w0 x : World} {B P Q : Nat} {T : TypeId} {v0 v1 v2 v3 v4 v5 u0 u1 u2 u3 u4 u5 : Value} (h : w0.heap[P]? = some (.cells #[v0, v1, v2, v3, v4, v5] T (0, 0))) (k : w0.heap[Q]? = some (.cells #[u0, u1, u2, u3, u4, u5] T (0, 0))) (hP : P < B) (hQ : Q < B) (hb : Below B w0 x) :
    ((x.cell? ⟨P, 0, none⟩ = some v0 ∧ x.cell? ⟨P, 1, none⟩ = some v1 ∧ x.cell? ⟨P, 2, none⟩ = some v2 ∧ x.cell? ⟨P, 3, none⟩ = some v3 ∧ x.cell? ⟨P, 4, none⟩ = some v4 ∧ x.cell? ⟨P, 5, none⟩ = some v5) ∧ (x.cell? ⟨Q, 0, none⟩ = some u0 ∧ x.cell? ⟨Q, 1, none⟩ = some u1 ∧ x.cell? ⟨Q, 2, none⟩ = some u2 ∧ x.cell? ⟨Q, 3, none⟩ = some u3 ∧ x.cell? ⟨Q, 4, none⟩ = some u4 ∧ x.cell? ⟨Q, 5, none⟩ = some u5)) ∧ Below B w0 x :=
  ⟨⟨cells6 ((hb.block P hP).trans h), cells6 ((hb.block Q hQ).trans k)⟩, hb⟩
set_option maxHeartbeats 800000 in
set_option maxRecDepth 20000 in
theorem same_yes (t : Int) (kh vh : Bool) (kd kd2 vd vd2 : ByteArray) (hs hs2 : List Hdr) (a1 a2 : Option Addr) (cap1 cap2 : Nat) (w : World) (V1 : Hds w a1 hs) (V2 : Hds w a2 hs2) (hz : hs.length ≤ 9223372036854775807) (hK : bd kh kd2 = bd kh kd) (hV : bd vh vd2 = bd vh vd) (hl2 : hs2.length = hs.length)
    (hH : ∀ j, j < hs.length → (hs2.getD j df).1 = (hs.getD j df).1 ∧ (hs2.getD j df).2.1 = (hs.getD j df).2.1 ∧ bd (hs2.getD j df).2.1 (hs2.getD j df).2.2 = bd (hs.getD j df).2.1 (hs.getD j df).2.2) :
    Calls Try.prog 6 #[.agg #[.int .i64 t, .bool kh, .string kd, .bool vh, .string vd, .slice a1 hs.length cap1], .agg #[.int .i64 t, .bool kh, .string kd2, .bool vh, .string vd2, .slice a2 hs.length cap2]] w fun e w' => e = .returned (.bool true) ∧ Below w.heap.size w w' := by
  have n1 : ∀ w, (binOp .neq 23 (.agg #[.bool kh, .string (bd kh kd)]) (.agg #[.bool kh, .string (bd kh kd2)])).run Try.prog w = .ok (.bool false) w := fun w => by rw [hK]; exact neq_opt _ _ w
  have n2 : ∀ w, (binOp .neq 23 (.agg #[.bool vh, .string (bd vh vd)]) (.agg #[.bool vh, .string (bd vh vd2)])).run Try.prog w = .ok (.bool false) w := fun w => by rw [hV]; exact neq_opt _ _ w
  have g1 := fun x y w => run_eqGuard_agg (P := Try.prog) w BinOp.neq 23 x y #[.bool kh, .string (bd kh kd)] #[.bool kh, .string (bd kh kd2)] Try.optGuard
  have g2 := fun x y w => run_eqGuard_agg (P := Try.prog) w BinOp.neq 23 x y #[.bool vh, .string (bd vh vd)] #[.bool vh, .string (bd vh vd2)] Try.optGuard
  have HH := hid hH
  have HV1 := hid V1
  have HV2 := hid V2
  have HL2 := hid hl2
  clear hH V1 V2 hK hV hl2
  go_enter Try.func6, Try.ntmps6
  go_wp2_with fail
  have h1 : ((w.alloc (.cells #[.int .i64 t, .bool kh, .string kd, .bool vh, .string vd, .slice a1 hs.length cap1] 26)).alloc (.cells #[.int .i64 t, .bool kh, .string kd2, .bool vh, .string vd2, .slice a2 hs.length cap2] 26)).heap[w.heap.size]? = some (.cells #[.int .i64 t, .bool kh, .string kd, .bool vh, .string vd, .slice a1 hs.length cap1] 26 (0, 0)) := heap_alloc_at (heap_new _ _)
  have h2 : ((w.alloc (.cells #[.int .i64 t, .bool kh, .string kd, .bool vh, .string vd, .slice a1 hs.length cap1] 26)).alloc (.cells #[.int .i64 t, .bool kh, .string kd2, .bool vh, .string vd2, .slice a2 hs.length cap2] 26)).heap[w.heap.size + 1]? = some (.cells #[.int .i64 t, .bool kh, .string kd2, .bool vh, .string vd2, .slice a2 hs.length cap2] 26 (0, 0)) := heap_new' _ _ _ (by simp)
  have hb1 : Below w.heap.size w ((w.alloc (.cells #[.int .i64 t, .bool kh, .string kd, .bool vh, .string vd, .slice a1 hs.length cap1] 26)).alloc (.cells #[.int .i64 t, .bool kh, .string kd2, .bool vh, .string vd2, .slice a2 hs.length cap2] 26)) := ((Below.refl _ w).alloc (Nat.le_refl _) _).alloc (by simp) _
  have hs1 : ((w.alloc (.cells #[.int .i64 t, .bool kh, .string kd, .bool vh, .string vd, .slice a1 hs.length cap1] 26)).alloc (.cells #[.int .i64 t, .bool kh, .string kd2, .bool vh, .string vd2, .slice a2 hs.length cap2] 26)).heap.size = w.heap.size + 2 := by simp
  generalize (w.alloc (.cells #[.int .i64 t, .bool kh, .string kd, .bool vh, .string vd, .slice a1 hs.length cap1] 26)).alloc (.cells #[.int .i64 t, .bool kh, .string kd2, .bool vh, .string vd2, .slice a2 hs.length cap2] 26) = W2 at *
  have hB : w.heap.size + 2 ≤ W2.heap.size := by omega
  have HB1 := hid hb1
  have h0 : Below (w.heap.size + 2) W2 W2 := Below.refl _ _
  have H1 := hid h1
  have H2 := hid h2
  have y1 : w.heap.size < w.heap.size + 2 := by omega
  have y2 : w.heap.size + 1 < w.heap.size + 2 := by omega
  clear h1 h2 hb1
  go_region_held3 (fun x => ((x.cell? ⟨w.heap.size, 0, none⟩ = some (.int .i64 t) ∧ x.cell? ⟨w.heap.size, 1, none⟩ = some (.bool kh) ∧ x.cell? ⟨w.heap.size, 2, none⟩ = some (.string kd) ∧ x.cell? ⟨w.heap.size, 3, none⟩ = some (.bool vh) ∧ x.cell? ⟨w.heap.size, 4, none⟩ = some (.string vd) ∧ x.cell? ⟨w.heap.size, 5, none⟩ = some (.slice a1 hs.length cap1)) ∧ (x.cell? ⟨w.heap.size + 1, 0, none⟩ = some (.int .i64 t) ∧ x.cell? ⟨w.heap.size + 1, 1, none⟩ = some (.bool kh) ∧ x.cell? ⟨w.heap.size + 1, 2, none⟩ = some (.string kd2) ∧ x.cell? ⟨w.heap.size + 1, 3, none⟩ = some (.bool vh) ∧ x.cell? ⟨w.heap.size + 1, 4, none⟩ = some (.string vd2) ∧ x.cell? ⟨w.heap.size + 1, 5, none⟩ = some (.slice a2 hs.length cap2))) ∧ Below (w.heap.size + 2) W2 x) (first | with_reducible exact held12 H1.out H2.out y1 y2 (by assumption) | with_reducible exact held12 H1.out H2.out y1 y2 (Below.drew (by assumption))) (first | (go_at_call 15; refine (bareB _ _ (w.heap.size + 2) W2 _ hB ?_).mono ?_; (first | assumption | exact Below.drew (by assumption)); rintro e w' ⟨rfl, hbel⟩))
  rename_i hHeld
  obtain ⟨⟨⟨_, _, _, _, _, c5⟩, ⟨_, _, _, _, _, d5⟩⟩, hbx⟩ := hHeld
  clear n1 n2 g1 g2
  go_wp2_with fail
  go_loopg [5, 42] hs.length (fun k _ i wr => ∃ j : Nat, j + k = hs.length ∧ i = .int .i64 j ∧ Hid (Below (w.heap.size + 2) W2 wr))
  case atStart => exact ⟨0, by omega, rfl, hbx⟩
  case round =>
    obtain ⟨j, hk, rfl, HB⟩ := hrel
    by_cases hlt : j < hs.length
    · obtain ⟨k, rfl⟩ : ∃ k, gk = k + 1 := ⟨gk - 1, by omega⟩
      obtain ⟨e1, e2, e3⟩ := HH.out j hlt
      rcases HV1.out with h | ⟨b, off, rfl, hbl, hc⟩
      · rw [h] at hlt; simp at hlt
      rcases HV2.out with h | ⟨b2, off2, rfl, hbl2, hc2⟩
      · have := HL2.out; rw [h] at this; simp at this; omega
      obtain ⟨q0, q1, q2⟩ := hc j hlt
      obtain ⟨p0, p1, p2⟩ := hc2 j (by have := HL2.out; omega)
      have hcw : ∀ b o, b < w.heap.size → wr.cell? ⟨b, o, none⟩ = w.cell? ⟨b, o, none⟩ := fun b o h => (HB.out.cell (p := ⟨b, o, none⟩) (by show b < _; omega)).trans (HB1.out.cell (p := ⟨b, o, none⟩) h)
      generalize hs.getD j df = x at *
      generalize hs2.getD j df = z at *
      obtain ⟨xk, xh, xd⟩ := x
      obtain ⟨zk, zh, zd⟩ := z
      simp only at q0 q1 q2 p0 p1 p2 e1 e2 e3
      subst e1 e2
      have l0 := (hcw b (off + j * 3) hbl).trans q0
      have l1 := (hcw b (off + j * 3 + 1) hbl).trans q1
      have l2 := (hcw b (off + j * 3 + 2) hbl).trans q2
      have o0 := (hcw b2 (off2 + j * 3) hbl2).trans p0
      have o1 := (hcw b2 (off2 + j * 3 + 1) hbl2).trans p1
      have o2 := (hcw b2 (off2 + j * 3 + 2) hbl2).trans p2
      have o5 : wr.cell? ⟨w.heap.size + 1, 5, none⟩ = some (.slice (some ⟨b2, off2, none⟩) hs.length cap2) := held_at H2.out y2 rfl HB.out
      have hbw := HB.out.size
      have i1 : (0 : Int) ≤ (j : Int) := by omega
      have i2 : (j : Int) < hs.length := by omega
      clear hcw q0 q1 q2 p0 p1 p2 hc hc2
      go_wp2_with fail
      have f1 : (wr.alloc (.cells #[.string zk, .bool zh, .string xd] 33)).heap[wr.heap.size]? = some (.cells #[.string zk, .bool zh, .string xd] 33 (0, 0)) := heap_new _ _
      have fb : Below wr.heap.size wr (wr.alloc (.cells #[.string zk, .bool zh, .string xd] 33)) := (Below.refl _ _).alloc (Nat.le_refl _) _
      have fs : (wr.alloc (.cells #[.string zk, .bool zh, .string xd] 33)).heap.size = wr.heap.size + 1 := by simp
      generalize wr.alloc (.cells #[.string zk, .bool zh, .string xd] 33) = W3 at *
      have hB3 : wr.heap.size + 1 ≤ W3.heap.size := by omega
      have z0 := (fb.cell (p := ⟨b2, off2 + j * 3, none⟩) (by show b2 < _; omega)).trans o0
      have z1 := (fb.cell (p := ⟨b2, off2 + j * 3 + 1, none⟩) (by show b2 < _; omega)).trans o1
      have z2 := (fb.cell (p := ⟨b2, off2 + j * 3 + 2, none⟩) (by show b2 < _; omega)).trans o2
      have z5 := (fb.cell (p := ⟨w.heap.size + 1, 5, none⟩) (by show w.heap.size + 1 < _; omega)).trans o5
      have HS : Hid (∀ x, Below (wr.heap.size + 1) W3 x → ((x.cell? ⟨wr.heap.size, 0, none⟩ = some (.string zk) ∧ x.cell? ⟨wr.heap.size, 1, none⟩ = some (.bool zh) ∧ x.cell? ⟨wr.heap.size, 2, none⟩ = some (.string xd)) ∧ x.cell? ⟨w.heap.size + 1, 5, none⟩ = some (.slice (some ⟨b2, off2, none⟩) hs.length cap2) ∧ (x.cell? ⟨b2, off2 + j * 3, none⟩ = some (.string zk) ∧ x.cell? ⟨b2, off2 + j * 3 + 1, none⟩ = some (.bool zh) ∧ x.cell? ⟨b2, off2 + j * 3 + 2, none⟩ = some (.string zd))) ∧ Below (wr.heap.size + 1) W3 x) := fun x hx =>
        ⟨⟨cells3 ((hx.block _ (Nat.lt_succ_self _)).trans f1), (hx.cell (p := ⟨w.heap.size + 1, 5, none⟩) (by show w.heap.size + 1 < _; omega)).trans z5, (hx.cell (p := ⟨b2, off2 + j * 3, none⟩) (by show b2 < _; omega)).trans z0, (hx.cell (p := ⟨b2, off2 + j * 3 + 1, none⟩) (by show b2 < _; omega)).trans z1, (hx.cell (p := ⟨b2, off2 + j * 3 + 2, none⟩) (by show b2 < _; omega)).trans z2⟩, hx⟩
      have n3 : ∀ w, (binOp .neq 33 (.agg #[.string zk, .bool zh, .string (bd zh xd)]) (.agg #[.string zk, .bool zh, .string (bd zh zd)])).run Try.prog w = .ok (.bool false) w := fun w => by rw [e3]; exact neq_hdr _ _ _ w
      have g3 := fun x y w => run_eqGuard_agg (P := Try.prog) w BinOp.neq 33 x y #[.string zk, .bool zh, .string (bd zh xd)] #[.string zk, .bool zh, .string (bd zh zd)] Try.hdrGuard
      have h03 : Below (wr.heap.size + 1) W3 W3 := Below.refl _ _
      have HBB := hid (HB.out.trans (fb.mono (by omega)))
      clear l0 l1 l2 o0 o1 o2 o5 z0 z1 z2 z5 f1 fb e3
      go_region_held3 (fun x => ((x.cell? ⟨wr.heap.size, 0, none⟩ = some (.string zk) ∧ x.cell? ⟨wr.heap.size, 1, none⟩ = some (.bool zh) ∧ x.cell? ⟨wr.heap.size, 2, none⟩ = some (.string xd)) ∧ x.cell? ⟨w.heap.size + 1, 5, none⟩ = some (.slice (some ⟨b2, off2, none⟩) hs.length cap2) ∧ (x.cell? ⟨b2, off2 + j * 3, none⟩ = some (.string zk) ∧ x.cell? ⟨b2, off2 + j * 3 + 1, none⟩ = some (.bool zh) ∧ x.cell? ⟨b2, off2 + j * 3 + 2, none⟩ = some (.string zd))) ∧ Below (wr.heap.size + 1) W3 x) (first | with_reducible exact HS.out _ (by assumption) | with_reducible exact HS.out _ (Below.drew (by assumption))) (first | (go_at_call 16; refine (barehB _ _ _ (wr.heap.size + 1) W3 _ hB3 ?_).mono ?_; (first | assumption | exact Below.drew (by assumption)); rintro e w' ⟨rfl, hbel⟩))
      all_goals
        rename_i hH3
        clear n3 g3
        go_wp2_with fail
        go_roundg k
        case measure => omega
        case rel => exact ⟨j + 1, by omega, by go_num, HBB.out.trans (hH3.2.mono (by omega))⟩
    · have HF := hid (HB1.out.trans (HB.out.mono (by omega)))
      go_wp2_with fail
      go_ret
      exact ⟨rfl, HF.out⟩
end Go.Proofs.Ytoohmbkgdmmghaa
