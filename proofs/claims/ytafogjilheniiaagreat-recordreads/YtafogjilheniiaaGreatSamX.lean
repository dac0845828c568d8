/- The document's Same and Clean, of records that are the same and clean. -/
import Derived.Test.YtafogjilheniiaaGreatSam5
import Derived.Deep.RegionHeld3
namespace Go.Proofs.YtafogjilheniiaaGreat
open Go.RowKit
set_option maxHeartbeats 400000 in
set_option maxRecDepth 20000 in
theorem xsameopt_yes (b : Bool) (d : ByteArray) (w : World) :
    Calls Tryz.prog 58 #[.agg #[.bool b, .string d], .agg #[.bool b, .string d]] w fun e w' => e = .returned (.bool true) ∧ Below w.heap.size w w' := by
  cases b with
  | false =>
    go_enter Tryz.func58, Tryz.ntmps58
    go_wp2_with fail
    go_ret
    exact ⟨rfl, ((Below.refl _ w).alloc (Nat.le_refl _) _).alloc (by simp) _⟩
  | true =>
    go_enter Tryz.func58, Tryz.ntmps58
    go_wp2_with fail
    go_ret
    exact ⟨rfl, ((Below.refl _ w).alloc (Nat.le_refl _) _).alloc (by simp) _⟩
set_option maxHeartbeats 400000 in
set_option maxRecDepth 20000 in
theorem xbare_any (h : Bool) (d : ByteArray) (w : World) :
    Calls Tryz.prog 59 #[.agg #[.bool h, .string d]] w fun e w' => e = .returned (.agg #[.bool h, .string (bd h d)]) ∧ Below w.heap.size w w' := by
  cases h with
  | false =>
    go_enter Tryz.func59, Tryz.ntmps59
    go_wp2_with fail
    exact bodyPost_ret (v := .agg #[.bool false, .string ⟨#[]⟩]) (by simp [results, Tryz.results59, go_sem]) rfl ⟨rfl, ((Below.refl _ w).alloc (Nat.le_refl _) _).alloc (by simp) _⟩
  | true =>
    go_enter Tryz.func59, Tryz.ntmps59
    go_wp2_with fail
    exact bodyPost_ret (v := .agg #[.bool true, .string d]) (by simp [results, Tryz.results59, go_sem]) rfl ⟨rfl, ((Below.refl _ w).alloc (Nat.le_refl _) _).alloc (by simp) _⟩
theorem xsameB (b : Bool) (d : ByteArray) (B : Nat) (w0 w : World) (hB : B ≤ w0.heap.size) (hb : Below B w0 w) :
    Calls Tryz.prog 58 #[.agg #[.bool b, .string d], .agg #[.bool b, .string d]] w fun e w' => e = .returned (.bool true) ∧ Below B w0 w' :=
  (xsameopt_yes b d w).mono fun _ _ h => ⟨h.1, bel_next hb hB h.2⟩
set_option maxHeartbeats 1000000 in
set_option maxRecDepth 20000 in
theorem xsame_yes (t : Int) (kh vh : Bool) (kd vd : ByteArray) (hs : List Hdr) (a1 a2 : Option Addr) (cap1 cap2 : Nat) (w : World) (V1 : Hds w a1 hs) (V2 : Hds w a2 hs) (hz : hs.length ≤ 9223372036854775807) :
    Calls Tryz.prog 30 #[.agg #[.int .i64 t, .bool kh, .string kd, .bool vh, .string vd, .slice a1 hs.length cap1], .agg #[.int .i64 t, .bool kh, .string kd, .bool vh, .string vd, .slice a2 hs.length cap2]] w fun e w' => e = .returned (.bool true) ∧ Below w.heap.size w w' := by
  have HV1 := hid V1
  have HV2 := hid V2
  clear V1 V2
  go_enter Tryz.func30, Tryz.ntmps30
  go_wp2_with fail
  have h1 : ((w.alloc (.cells #[.int .i64 t, .bool kh, .string kd, .bool vh, .string vd, .slice a1 hs.length cap1] 27)).alloc (.cells #[.int .i64 t, .bool kh, .string kd, .bool vh, .string vd, .slice a2 hs.length cap2] 27)).heap[w.heap.size]? = some (.cells #[.int .i64 t, .bool kh, .string kd, .bool vh, .string vd, .slice a1 hs.length cap1] 27 (0, 0)) := heap_alloc_at (heap_new _ _)
  have h2 : ((w.alloc (.cells #[.int .i64 t, .bool kh, .string kd, .bool vh, .string vd, .slice a1 hs.length cap1] 27)).alloc (.cells #[.int .i64 t, .bool kh, .string kd, .bool vh, .string vd, .slice a2 hs.length cap2] 27)).heap[w.heap.size + 1]? = some (.cells #[.int .i64 t, .bool kh, .string kd, .bool vh, .string vd, .slice a2 hs.length cap2] 27 (0, 0)) := heap_new' _ _ _ (by simp)
  have hb1 : Below w.heap.size w ((w.alloc (.cells #[.int .i64 t, .bool kh, .string kd, .bool vh, .string vd, .slice a1 hs.length cap1] 27)).alloc (.cells #[.int .i64 t, .bool kh, .string kd, .bool vh, .string vd, .slice a2 hs.length cap2] 27)) := ((Below.refl _ w).alloc (Nat.le_refl _) _).alloc (by simp) _
  have hs1 : ((w.alloc (.cells #[.int .i64 t, .bool kh, .string kd, .bool vh, .string vd, .slice a1 hs.length cap1] 27)).alloc (.cells #[.int .i64 t, .bool kh, .string kd, .bool vh, .string vd, .slice a2 hs.length cap2] 27)).heap.size = w.heap.size + 2 := by simp
  generalize ((w.alloc (.cells #[.int .i64 t, .bool kh, .string kd, .bool vh, .string vd, .slice a1 hs.length cap1] 27)).alloc (.cells #[.int .i64 t, .bool kh, .string kd, .bool vh, .string vd, .slice a2 hs.length cap2] 27)) = W2 at *
  have hB : w.heap.size + 2 ≤ W2.heap.size := by omega
  have HB1 := hid hb1
  have h0 : Below (w.heap.size + 2) W2 W2 := Below.refl _ _
  have H1 := hid h1
  have H2 := hid h2
  have y1 : w.heap.size < w.heap.size + 2 := by omega
  have y2 : w.heap.size + 1 < w.heap.size + 2 := by omega
  clear h1 h2 hb1
  refine (xsameB kh kd _ W2 W2 hB h0).mono ?_
  rintro e x1 ⟨rfl, hx1⟩
  obtain ⟨c0, c1, c2, c3, c4, c5⟩ := cells6 ((hx1.block w.heap.size y1).trans H1.out)
  obtain ⟨d0, d1, d2, d3, d4, d5⟩ := cells6 ((hx1.block (w.heap.size + 1) y2).trans H2.out)
  go_wp2_with fail
  refine (xsameB vh vd _ W2 x1 hB hx1).mono ?_
  rintro e x2 ⟨rfl, hx2⟩
  clear c0 c1 c2 c3 c4 c5 d0 d1 d2 d3 d4 d5
  have c5 : x2.cell? ⟨w.heap.size, 5, none⟩ = some (.slice a1 hs.length cap1) := held_at H1.out y1 rfl hx2
  have d5 : x2.cell? ⟨w.heap.size + 1, 5, none⟩ = some (.slice a2 hs.length cap2) := held_at H2.out y2 rfl hx2
  have HX2 := hid hx2
  clear hx1 hx2
  go_wp2_with fail
  clear c5 d5
  go_loopg [5] hs.length (fun k i wr => ∃ j : Nat, j + k = hs.length ∧ i = .int .i64 j ∧ Hid (Below (w.heap.size + 2) W2 wr))
  case atStart => exact ⟨0, by omega, rfl, HX2⟩
  case round =>
    obtain ⟨j, hk, rfl, HB⟩ := hrel
    have c5 : wr.cell? ⟨w.heap.size, 5, none⟩ = some (.slice a1 hs.length cap1) := held_at H1.out y1 rfl HB.out
    by_cases hlt : j < hs.length
    · obtain ⟨k, rfl⟩ : ∃ k, gk = k + 1 := ⟨gk - 1, by omega⟩
      rcases HV1.out with h | ⟨b, off, rfl, hbl, hc⟩
      · rw [h] at hlt; simp at hlt
      rcases HV2.out with h | ⟨b2, off2, rfl, hbl2, hc2⟩
      · rw [h] at hlt; simp at hlt
      have d5 : wr.cell? ⟨w.heap.size + 1, 5, none⟩ = some (.slice (some ⟨b2, off2, none⟩) hs.length cap2) := held_at H2.out y2 rfl HB.out
      obtain ⟨q0, q1, q2⟩ := hc j hlt
      obtain ⟨p0, p1, p2⟩ := hc2 j hlt
      have hcw : ∀ z, Below (w.heap.size + 2) W2 z → ∀ b o, b < w.heap.size → z.cell? ⟨b, o, none⟩ = w.cell? ⟨b, o, none⟩ := fun z hz b o h => (hz.cell (p := ⟨b, o, none⟩) (by show b < _; omega)).trans (HB1.out.cell (p := ⟨b, o, none⟩) h)
      generalize hs.getD j df = x at *
      obtain ⟨xk, xh, xd⟩ := x
      simp only at q0 q1 q2 p0 p1 p2
      have i1 : (0 : Int) ≤ (j : Int) := by omega
      have i2 : (j : Int) < hs.length := by omega
      have HS : Hid (∀ z, Below (w.heap.size + 2) W2 z → (fun z => (z.cell? ⟨w.heap.size, 5, none⟩ = some (.slice (some ⟨b, off, none⟩) hs.length cap1) ∧ z.cell? ⟨w.heap.size + 1, 5, none⟩ = some (.slice (some ⟨b2, off2, none⟩) hs.length cap2) ∧ (z.cell? ⟨b, off + j * 3, none⟩ = some (.string xk) ∧ z.cell? ⟨b, off + j * 3 + 1, none⟩ = some (.bool xh) ∧ z.cell? ⟨b, off + j * 3 + 2, none⟩ = some (.string xd)) ∧ (z.cell? ⟨b2, off2 + j * 3, none⟩ = some (.string xk) ∧ z.cell? ⟨b2, off2 + j * 3 + 1, none⟩ = some (.bool xh) ∧ z.cell? ⟨b2, off2 + j * 3 + 2, none⟩ = some (.string xd))) ∧ Below (w.heap.size + 2) W2 z) z) := fun z hz => ⟨⟨held_at H1.out y1 rfl hz, held_at H2.out y2 rfl hz, ⟨(hcw z hz b _ hbl).trans q0, (hcw z hz b _ hbl).trans q1, (hcw z hz b _ hbl).trans q2⟩, (hcw z hz b2 _ hbl2).trans p0, (hcw z hz b2 _ hbl2).trans p1, (hcw z hz b2 _ hbl2).trans p2⟩, hz⟩
      have h9 := HB.out
      clear hcw q0 q1 q2 p0 p1 p2 hc hc2
      go_wp2_with fail
      clear c5 d5
      go_region_held3 (fun z => (z.cell? ⟨w.heap.size, 5, none⟩ = some (.slice (some ⟨b, off, none⟩) hs.length cap1) ∧ z.cell? ⟨w.heap.size + 1, 5, none⟩ = some (.slice (some ⟨b2, off2, none⟩) hs.length cap2) ∧ (z.cell? ⟨b, off + j * 3, none⟩ = some (.string xk) ∧ z.cell? ⟨b, off + j * 3 + 1, none⟩ = some (.bool xh) ∧ z.cell? ⟨b, off + j * 3 + 2, none⟩ = some (.string xd)) ∧ (z.cell? ⟨b2, off2 + j * 3, none⟩ = some (.string xk) ∧ z.cell? ⟨b2, off2 + j * 3 + 1, none⟩ = some (.bool xh) ∧ z.cell? ⟨b2, off2 + j * 3 + 2, none⟩ = some (.string xd))) ∧ Below (w.heap.size + 2) W2 z) (first | with_reducible exact HS.out _ (by assumption) | with_reducible exact HS.out _ (Below.drew (by assumption))) (first | (go_at_call 58; refine (xsameB _ _ (w.heap.size + 2) W2 _ hB ?_).mono ?_; (first | assumption | exact Below.drew (by assumption)); rintro e w' ⟨rfl, hbel⟩))
      all_goals
        rename_i hH3
        have HB9 := hid hH3.2
        clear hH3
        go_wp2_with fail
        go_roundg k
        case measure => omega
        case rel => exact ⟨j + 1, by omega, by go_num, HB9⟩
    · have HF := hid (HB1.out.trans (HB.out.mono (by omega)))
      have i2 : ¬ (j : Int) < hs.length := by omega
      go_wp2_with fail
      go_ret
      exact ⟨rfl, HF.out⟩
theorem xbareB (h : Bool) (d : ByteArray) (B : Nat) (w0 w : World) (hB : B ≤ w0.heap.size) (hb : Below B w0 w) :
    Calls Tryz.prog 59 #[.agg #[.bool h, .string d]] w fun e w' => e = .returned (.agg #[.bool h, .string (bd h d)]) ∧ Below B w0 w' :=
  (xbare_any h d w).mono fun _ _ h => ⟨h.1, bel_next hb hB h.2⟩
set_option maxHeartbeats 1000000 in
set_option maxRecDepth 20000 in
theorem xclean_yes (t : Int) (kh vh : Bool) (kd vd : ByteArray) (hs : List Hdr) (a : Option Addr) (cap : Nat) (w : World) (V : Hds w a hs) (hz : hs.length ≤ 9223372036854775807) (hK : bd kh kd = kd) (hV : bd vh vd = vd) (hH : ∀ j, j < hs.length → bd (hs.getD j df).2.1 (hs.getD j df).2.2 = (hs.getD j df).2.2) :
    Calls Tryz.prog 31 #[.agg #[.int .i64 t, .bool kh, .string kd, .bool vh, .string vd, .slice a hs.length cap]] w fun e w' => e = .returned (.bool true) ∧ Below w.heap.size w w' := by
  have n1 : ∀ w, (binOp .neq 24 (.agg #[.bool kh, .string kd]) (.agg #[.bool kh, .string (bd kh kd)])).run Tryz.prog w = .ok (.bool false) w := fun w => by rw [hK]; exact neq_opt _ _ w
  have n2 : ∀ w, (binOp .neq 24 (.agg #[.bool vh, .string vd]) (.agg #[.bool vh, .string (bd vh vd)])).run Tryz.prog w = .ok (.bool false) w := fun w => by rw [hV]; exact neq_opt _ _ w
  have g1 := fun x y w => run_eqGuard_agg (P := Tryz.prog) w BinOp.neq 24 x y #[.bool kh, .string kd] #[.bool kh, .string (bd kh kd)] Tryz.optGuard
  have g2 := fun x y w => run_eqGuard_agg (P := Tryz.prog) w BinOp.neq 24 x y #[.bool vh, .string vd] #[.bool vh, .string (bd vh vd)] Tryz.optGuard
  have HH := hid hH
  have HV1 := hid V
  clear hH V hK hV
  go_enter Tryz.func31, Tryz.ntmps31
  go_wp2_with fail
  have h1 : (w.alloc (.cells #[.int .i64 t, .bool kh, .string kd, .bool vh, .string vd, .slice a hs.length cap] 27)).heap[w.heap.size]? = some (.cells #[.int .i64 t, .bool kh, .string kd, .bool vh, .string vd, .slice a hs.length cap] 27 (0, 0)) := heap_new _ _
  have hb1 : Below w.heap.size w (w.alloc (.cells #[.int .i64 t, .bool kh, .string kd, .bool vh, .string vd, .slice a hs.length cap] 27)) := (Below.refl _ w).alloc (Nat.le_refl _) _
  have hs1 : (w.alloc (.cells #[.int .i64 t, .bool kh, .string kd, .bool vh, .string vd, .slice a hs.length cap] 27)).heap.size = w.heap.size + 1 := by simp
  generalize (w.alloc (.cells #[.int .i64 t, .bool kh, .string kd, .bool vh, .string vd, .slice a hs.length cap] 27)) = W2 at *
  have hB : w.heap.size + 1 ≤ W2.heap.size := by omega
  have HB1 := hid hb1
  have h0 : Below (w.heap.size + 1) W2 W2 := Below.refl _ _
  have H1 := hid h1
  have y1 : w.heap.size < w.heap.size + 1 := by omega
  have HS1 : Hid (∀ z, Below (w.heap.size + 1) W2 z → (fun x => (x.cell? ⟨w.heap.size, 0, none⟩ = some (.int .i64 t) ∧ x.cell? ⟨w.heap.size, 1, none⟩ = some (.bool kh) ∧ x.cell? ⟨w.heap.size, 2, none⟩ = some (.string kd) ∧ x.cell? ⟨w.heap.size, 3, none⟩ = some (.bool vh) ∧ x.cell? ⟨w.heap.size, 4, none⟩ = some (.string vd) ∧ x.cell? ⟨w.heap.size, 5, none⟩ = some (.slice a hs.length cap)) ∧ Below (w.heap.size + 1) W2 x) z) := fun z hz => ⟨cells6 ((hz.block w.heap.size y1).trans H1.out), hz⟩
  clear h1 hb1
  go_region_held3 (fun x => (x.cell? ⟨w.heap.size, 0, none⟩ = some (.int .i64 t) ∧ x.cell? ⟨w.heap.size, 1, none⟩ = some (.bool kh) ∧ x.cell? ⟨w.heap.size, 2, none⟩ = some (.string kd) ∧ x.cell? ⟨w.heap.size, 3, none⟩ = some (.bool vh) ∧ x.cell? ⟨w.heap.size, 4, none⟩ = some (.string vd) ∧ x.cell? ⟨w.heap.size, 5, none⟩ = some (.slice a hs.length cap)) ∧ Below (w.heap.size + 1) W2 x) (first | with_reducible exact HS1.out _ (by assumption) | with_reducible exact HS1.out _ (Below.drew (by assumption))) (first | (go_at_call 59; refine (xbareB _ _ (w.heap.size + 1) W2 _ hB ?_).mono ?_; (first | assumption | exact Below.drew (by assumption)); rintro e w' ⟨rfl, hbel⟩))
  rename_i hHeld
  obtain ⟨⟨_, _, _, _, _, c5⟩, hbx⟩ := hHeld
  clear n1 n2 g1 g2
  go_wp2_with fail
  clear c5
  go_loopg [3] hs.length (fun k i wr => ∃ j : Nat, j + k = hs.length ∧ i = .int .i64 j ∧ Hid (Below (w.heap.size + 1) W2 wr))
  case atStart => exact ⟨0, by omega, rfl, hbx⟩
  case round =>
    obtain ⟨j, hk, rfl, HB⟩ := hrel
    have c5 : wr.cell? ⟨w.heap.size, 5, none⟩ = some (.slice a hs.length cap) := held_at H1.out y1 rfl HB.out
    by_cases hlt : j < hs.length
    · obtain ⟨k, rfl⟩ : ∃ k, gk = k + 1 := ⟨gk - 1, by omega⟩
      rcases HV1.out with h | ⟨b, off, rfl, hbl, hc⟩
      · rw [h] at hlt; simp at hlt
      have e3 := HH.out j hlt
      obtain ⟨q0, q1, q2⟩ := hc j hlt
      have hcw : ∀ z, Below (w.heap.size + 1) W2 z → ∀ b o, b < w.heap.size → z.cell? ⟨b, o, none⟩ = w.cell? ⟨b, o, none⟩ := fun z hz b o h => (hz.cell (p := ⟨b, o, none⟩) (by show b < _; omega)).trans (HB1.out.cell (p := ⟨b, o, none⟩) h)
      generalize hs.getD j df = x at *
      obtain ⟨xk, xh, xd⟩ := x
      simp only at q0 q1 q2 e3
      have i1 : (0 : Int) ≤ (j : Int) := by omega
      have i2 : (j : Int) < hs.length := by omega
      have HS : Hid (∀ z, Below (w.heap.size + 1) W2 z → (fun z => (z.cell? ⟨w.heap.size, 5, none⟩ = some (.slice (some ⟨b, off, none⟩) hs.length cap) ∧ z.cell? ⟨b, off + j * 3 + 1, none⟩ = some (.bool xh) ∧ z.cell? ⟨b, off + j * 3 + 2, none⟩ = some (.string xd)) ∧ Below (w.heap.size + 1) W2 z) z) := fun z hz => ⟨⟨held_at H1.out y1 rfl hz, (hcw z hz b _ hbl).trans q1, (hcw z hz b _ hbl).trans q2⟩, hz⟩
      have h9 := HB.out
      have n3 : ∀ w, (binOp .neq 24 (.agg #[.bool xh, .string xd]) (.agg #[.bool xh, .string (bd xh xd)])).run Tryz.prog w = .ok (.bool false) w := fun w => by rw [e3]; exact neq_opt _ _ w
      have g3 := fun x y w => run_eqGuard_agg (P := Tryz.prog) w BinOp.neq 24 x y #[.bool xh, .string xd] #[.bool xh, .string (bd xh xd)] Tryz.optGuard
      clear hcw q0 q1 q2 hc e3
      go_wp2_with fail
      clear c5
      go_region_held3 (fun z => (z.cell? ⟨w.heap.size, 5, none⟩ = some (.slice (some ⟨b, off, none⟩) hs.length cap) ∧ z.cell? ⟨b, off + j * 3 + 1, none⟩ = some (.bool xh) ∧ z.cell? ⟨b, off + j * 3 + 2, none⟩ = some (.string xd)) ∧ Below (w.heap.size + 1) W2 z) (first | with_reducible exact HS.out _ (by assumption) | with_reducible exact HS.out _ (Below.drew (by assumption))) (first | (go_at_call 59; refine (xbareB _ _ (w.heap.size + 1) W2 _ hB ?_).mono ?_; (first | assumption | exact Below.drew (by assumption)); rintro e w' ⟨rfl, hbel⟩))
      all_goals
        rename_i hH3
        have HB9 := hid hH3.2
        clear hH3 n3 g3
        go_wp2_with fail
        go_roundg k
        case measure => omega
        case rel => exact ⟨j + 1, by omega, by go_num, HB9⟩
    · have HF := hid (HB1.out.trans (HB.out.mono (by omega)))
      have i2 : ¬ (j : Int) < hs.length := by omega
      go_wp2_with fail
      go_ret
      exact ⟨rfl, HF.out⟩
end Go.Proofs.YtafogjilheniiaaGreat
