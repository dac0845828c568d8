import Derived.Test.YtlbkkeoffeohnabSamX
import Derived.Test.YtlbkkeoffeohnabSGA
/- The document's Same of two records that part. -/
namespace Go.Proofs.Ytlbkkeoffeohnab
open Go.RowKit
set_option maxHeartbeats 400000 in
set_option maxRecDepth 20000 in
theorem xs_ok {b b2 : Bool} {d d2 : ByteArray} (h : b = b2 ∧ bd b d = bd b2 d2) (w : World) :
    Calls Try.prog 24 #[.agg #[.bool b, .string d], .agg #[.bool b2, .string d2]] w fun e w' => e = .returned (.bool true) ∧ Below w.heap.size w w' := by
  obtain ⟨rfl, h2⟩ := h
  cases b with
  | false =>
    clear h2
    go_enter Try.func24, Try.ntmps24
    go_wp2_with fail
    go_ret
    exact ⟨rfl, ((Below.refl _ w).alloc (Nat.le_refl _) _).alloc (by simp) _⟩
  | true =>
    have h3 : d = d2 := h2
    subst h3
    exact xsameopt_yes true d w
set_option maxHeartbeats 400000 in
set_option maxRecDepth 20000 in
theorem xs_no {b b2 : Bool} {d d2 : ByteArray} (h : ¬ (b = b2 ∧ bd b d = bd b2 d2)) (w : World) :
    Calls Try.prog 24 #[.agg #[.bool b, .string d], .agg #[.bool b2, .string d2]] w fun e w' => e = .returned (.bool false) ∧ Below w.heap.size w w' := by
  cases b with
  | false =>
    cases b2 with
    | false => exact absurd ⟨rfl, rfl⟩ h
    | true =>
      clear h
      go_enter Try.func24, Try.ntmps24
      go_wp2_with fail
      go_ret
      exact ⟨rfl, ((Below.refl _ w).alloc (Nat.le_refl _) _).alloc (by simp) _⟩
  | true =>
    cases b2 with
    | false =>
      clear h
      go_enter Try.func24, Try.ntmps24
      go_wp2_with fail
      go_ret
      exact ⟨rfl, ((Below.refl _ w).alloc (Nat.le_refl _) _).alloc (by simp) _⟩
    | true =>
      have hd : ¬ d = d2 := fun e => h ⟨rfl, e⟩
      have hd1 : ¬ d.toList = d2.toList := bl_ne hd
      clear h
      go_enter Try.func24, Try.ntmps24
      go_wp2_with fail
      go_ret
      exact ⟨by first | rfl | simp [hd1], ((Below.refl _ w).alloc (Nat.le_refl _) _).alloc (by simp) _⟩
theorem xs_okB {b b2 : Bool} {d d2 : ByteArray} (h : b = b2 ∧ bd b d = bd b2 d2) (B : Nat) (w0 w : World) (hB : B ≤ w0.heap.size) (hb : Below B w0 w) :
    Calls Try.prog 24 #[.agg #[.bool b, .string d], .agg #[.bool b2, .string d2]] w fun e w' => e = .returned (.bool true) ∧ Below B w0 w' :=
  (xs_ok h w).mono fun _ _ h => ⟨h.1, bel_next hb hB h.2⟩
theorem xs_noB {b b2 : Bool} {d d2 : ByteArray} (h : ¬ (b = b2 ∧ bd b d = bd b2 d2)) (B : Nat) (w0 w : World) (hB : B ≤ w0.heap.size) (hb : Below B w0 w) :
    Calls Try.prog 24 #[.agg #[.bool b, .string d], .agg #[.bool b2, .string d2]] w fun e w' => e = .returned (.bool false) ∧ Below B w0 w' :=
  (xs_no h w).mono fun _ _ h => ⟨h.1, bel_next hb hB h.2⟩
set_option maxHeartbeats 1000000 in
set_option maxRecDepth 20000 in
theorem xsame_no1 (t t2 : Int) (kh kh2 vh vh2 : Bool) (n1 n2 : Nat) (kd kd2 vd vd2 : ByteArray) (a1 a2 : Option Addr) (cap1 cap2 : Nat) (w : World) (h : t ≠ t2) :
    Calls Try.prog 19 #[.agg #[.int .i64 t, .bool kh, .string kd, .bool vh, .string vd, .slice a1 n1 cap1], .agg #[.int .i64 t2, .bool kh2, .string kd2, .bool vh2, .string vd2, .slice a2 n2 cap2]] w fun e w' => e = .returned (.bool false) ∧ Below w.heap.size w w' := by
  have e1 : ((t : Int) != (t2 : Int)) = true := by rw [bne_iff_ne]; exact h
  clear h
  go_enter Try.func19, Try.ntmps19
  go_wp2_with fail
  go_ret
  exact ⟨rfl, ((Below.refl _ w).alloc (Nat.le_refl _) _).alloc (by simp) _⟩
set_option maxHeartbeats 1000000 in
set_option maxRecDepth 20000 in
theorem xsame_no2 (t t2 : Int) (kh kh2 vh vh2 : Bool) (n1 n2 : Nat) (kd kd2 vd vd2 : ByteArray) (a1 a2 : Option Addr) (cap1 cap2 : Nat) (w : World) (h : t = t2) (hk : ¬ (kh = kh2 ∧ bd kh kd = bd kh2 kd2)) :
    Calls Try.prog 19 #[.agg #[.int .i64 t, .bool kh, .string kd, .bool vh, .string vd, .slice a1 n1 cap1], .agg #[.int .i64 t2, .bool kh2, .string kd2, .bool vh2, .string vd2, .slice a2 n2 cap2]] w fun e w' => e = .returned (.bool false) ∧ Below w.heap.size w w' := by
  have e1 : ((t : Int) != (t2 : Int)) = false := by rw [bne_eq_false_iff_eq]; exact h
  have HK := hid hk
  clear h hk
  go_enter Try.func19, Try.ntmps19
  go_wp2_with fail
  have h1 : ((w.alloc (.cells #[.int .i64 t, .bool kh, .string kd, .bool vh, .string vd, .slice a1 n1 cap1] 40)).alloc (.cells #[.int .i64 t2, .bool kh2, .string kd2, .bool vh2, .string vd2, .slice a2 n2 cap2] 40)).heap[w.heap.size]? = some (.cells #[.int .i64 t, .bool kh, .string kd, .bool vh, .string vd, .slice a1 n1 cap1] 40 (0, 0)) := heap_alloc_at (heap_new _ _)
  have h2 : ((w.alloc (.cells #[.int .i64 t, .bool kh, .string kd, .bool vh, .string vd, .slice a1 n1 cap1] 40)).alloc (.cells #[.int .i64 t2, .bool kh2, .string kd2, .bool vh2, .string vd2, .slice a2 n2 cap2] 40)).heap[w.heap.size + 1]? = some (.cells #[.int .i64 t2, .bool kh2, .string kd2, .bool vh2, .string vd2, .slice a2 n2 cap2] 40 (0, 0)) := heap_new' _ _ _ (by simp)
  have hb1 : Below w.heap.size w ((w.alloc (.cells #[.int .i64 t, .bool kh, .string kd, .bool vh, .string vd, .slice a1 n1 cap1] 40)).alloc (.cells #[.int .i64 t2, .bool kh2, .string kd2, .bool vh2, .string vd2, .slice a2 n2 cap2] 40)) := ((Below.refl _ w).alloc (Nat.le_refl _) _).alloc (by simp) _
  have hs1 : ((w.alloc (.cells #[.int .i64 t, .bool kh, .string kd, .bool vh, .string vd, .slice a1 n1 cap1] 40)).alloc (.cells #[.int .i64 t2, .bool kh2, .string kd2, .bool vh2, .string vd2, .slice a2 n2 cap2] 40)).heap.size = w.heap.size + 2 := by simp
  generalize ((w.alloc (.cells #[.int .i64 t, .bool kh, .string kd, .bool vh, .string vd, .slice a1 n1 cap1] 40)).alloc (.cells #[.int .i64 t2, .bool kh2, .string kd2, .bool vh2, .string vd2, .slice a2 n2 cap2] 40)) = W2 at *
  have hB : w.heap.size + 2 ≤ W2.heap.size := by omega
  have HB1 := hid hb1
  have h0 : Below (w.heap.size + 2) W2 W2 := Below.refl _ _
  have H1 := hid h1
  have H2 := hid h2
  have y1 : w.heap.size < w.heap.size + 2 := by omega
  have y2 : w.heap.size + 1 < w.heap.size + 2 := by omega
  clear h1 h2 hb1
  refine (xs_noB HK.out _ W2 W2 hB h0).mono ?_
  rintro e x1 ⟨rfl, hx1⟩
  obtain ⟨c0, c1, c2, c3, c4, c5⟩ := cells6 ((hx1.block w.heap.size y1).trans H1.out)
  obtain ⟨d0, d1, d2, d3, d4, d5⟩ := cells6 ((hx1.block (w.heap.size + 1) y2).trans H2.out)
  have HX1 := hid hx1
  clear hx1
  go_wp2_with fail
  have HF := hid (HB1.out.trans (HX1.out.mono (by omega)))
  go_ret
  exact ⟨rfl, HF.out⟩
set_option maxHeartbeats 1000000 in
set_option maxRecDepth 20000 in
theorem xsame_no3 (t t2 : Int) (kh kh2 vh vh2 : Bool) (n1 n2 : Nat) (kd kd2 vd vd2 : ByteArray) (a1 a2 : Option Addr) (cap1 cap2 : Nat) (w : World) (h : t = t2) (hk : kh = kh2 ∧ bd kh kd = bd kh2 kd2) (hv : ¬ (vh = vh2 ∧ bd vh vd = bd vh2 vd2)) :
    Calls Try.prog 19 #[.agg #[.int .i64 t, .bool kh, .string kd, .bool vh, .string vd, .slice a1 n1 cap1], .agg #[.int .i64 t2, .bool kh2, .string kd2, .bool vh2, .string vd2, .slice a2 n2 cap2]] w fun e w' => e = .returned (.bool false) ∧ Below w.heap.size w w' := by
  have e1 : ((t : Int) != (t2 : Int)) = false := by rw [bne_eq_false_iff_eq]; exact h
  have HK := hid hk
  have HV := hid hv
  clear h hk hv
  go_enter Try.func19, Try.ntmps19
  go_wp2_with fail
  have h1 : ((w.alloc (.cells #[.int .i64 t, .bool kh, .string kd, .bool vh, .string vd, .slice a1 n1 cap1] 40)).alloc (.cells #[.int .i64 t2, .bool kh2, .string kd2, .bool vh2, .string vd2, .slice a2 n2 cap2] 40)).heap[w.heap.size]? = some (.cells #[.int .i64 t, .bool kh, .string kd, .bool vh, .string vd, .slice a1 n1 cap1] 40 (0, 0)) := heap_alloc_at (heap_new _ _)
  have h2 : ((w.alloc (.cells #[.int .i64 t, .bool kh, .string kd, .bool vh, .string vd, .slice a1 n1 cap1] 40)).alloc (.cells #[.int .i64 t2, .bool kh2, .string kd2, .bool vh2, .string vd2, .slice a2 n2 cap2] 40)).heap[w.heap.size + 1]? = some (.cells #[.int .i64 t2, .bool kh2, .string kd2, .bool vh2, .string vd2, .slice a2 n2 cap2] 40 (0, 0)) := heap_new' _ _ _ (by simp)
  have hb1 : Below w.heap.size w ((w.alloc (.cells #[.int .i64 t, .bool kh, .string kd, .bool vh, .string vd, .slice a1 n1 cap1] 40)).alloc (.cells #[.int .i64 t2, .bool kh2, .string kd2, .bool vh2, .string vd2, .slice a2 n2 cap2] 40)) := ((Below.refl _ w).alloc (Nat.le_refl _) _).alloc (by simp) _
  have hs1 : ((w.alloc (.cells #[.int .i64 t, .bool kh, .string kd, .bool vh, .string vd, .slice a1 n1 cap1] 40)).alloc (.cells #[.int .i64 t2, .bool kh2, .string kd2, .bool vh2, .string vd2, .slice a2 n2 cap2] 40)).heap.size = w.heap.size + 2 := by simp
  generalize ((w.alloc (.cells #[.int .i64 t, .bool kh, .string kd, .bool vh, .string vd, .slice a1 n1 cap1] 40)).alloc (.cells #[.int .i64 t2, .bool kh2, .string kd2, .bool vh2, .string vd2, .slice a2 n2 cap2] 40)) = W2 at *
  have hB : w.heap.size + 2 ≤ W2.heap.size := by omega
  have HB1 := hid hb1
  have h0 : Below (w.heap.size + 2) W2 W2 := Below.refl _ _
  have H1 := hid h1
  have H2 := hid h2
  have y1 : w.heap.size < w.heap.size + 2 := by omega
  have y2 : w.heap.size + 1 < w.heap.size + 2 := by omega
  clear h1 h2 hb1
  refine (xs_okB HK.out _ W2 W2 hB h0).mono ?_
  rintro e x1 ⟨rfl, hx1⟩
  obtain ⟨c0, c1, c2, c3, c4, c5⟩ := cells6 ((hx1.block w.heap.size y1).trans H1.out)
  obtain ⟨d0, d1, d2, d3, d4, d5⟩ := cells6 ((hx1.block (w.heap.size + 1) y2).trans H2.out)
  have HX1 := hid hx1
  clear hx1
  go_wp2_with fail
  refine (xs_noB HV.out _ W2 x1 hB HX1.out).mono ?_
  rintro e x2 ⟨rfl, hx2⟩
  clear c0 c1 c2 c3 c4 c5 d0 d1 d2 d3 d4 d5
  have c5 : x2.cell? ⟨w.heap.size, 5, none⟩ = some (.slice a1 n1 cap1) := held_at H1.out y1 rfl hx2
  have d5 : x2.cell? ⟨w.heap.size + 1, 5, none⟩ = some (.slice a2 n2 cap2) := held_at H2.out y2 rfl hx2
  have HX2 := hid hx2
  clear hx2
  go_wp2_with fail
  have HF := hid (HB1.out.trans (HX2.out.mono (by omega)))
  go_ret
  exact ⟨rfl, HF.out⟩
set_option maxHeartbeats 1000000 in
set_option maxRecDepth 20000 in
theorem xsame_no4 (t t2 : Int) (kh kh2 vh vh2 : Bool) (n1 n2 : Nat) (kd kd2 vd vd2 : ByteArray) (a1 a2 : Option Addr) (cap1 cap2 : Nat) (w : World) (h : t = t2) (hk : kh = kh2 ∧ bd kh kd = bd kh2 kd2) (hv : vh = vh2 ∧ bd vh vd = bd vh2 vd2) (hn : n1 ≠ n2) :
    Calls Try.prog 19 #[.agg #[.int .i64 t, .bool kh, .string kd, .bool vh, .string vd, .slice a1 n1 cap1], .agg #[.int .i64 t2, .bool kh2, .string kd2, .bool vh2, .string vd2, .slice a2 n2 cap2]] w fun e w' => e = .returned (.bool false) ∧ Below w.heap.size w w' := by
  have e1 : ((t : Int) != (t2 : Int)) = false := by rw [bne_eq_false_iff_eq]; exact h
  have HK := hid hk
  have HV := hid hv
  have e4 : ((n1 : Int) != (n2 : Int)) = true := by rw [bne_iff_ne]; omega
  clear h hk hv hn
  go_enter Try.func19, Try.ntmps19
  go_wp2_with fail
  have h1 : ((w.alloc (.cells #[.int .i64 t, .bool kh, .string kd, .bool vh, .string vd, .slice a1 n1 cap1] 40)).alloc (.cells #[.int .i64 t2, .bool kh2, .string kd2, .bool vh2, .string vd2, .slice a2 n2 cap2] 40)).heap[w.heap.size]? = some (.cells #[.int .i64 t, .bool kh, .string kd, .bool vh, .string vd, .slice a1 n1 cap1] 40 (0, 0)) := heap_alloc_at (heap_new _ _)
  have h2 : ((w.alloc (.cells #[.int .i64 t, .bool kh, .string kd, .bool vh, .string vd, .slice a1 n1 cap1] 40)).alloc (.cells #[.int .i64 t2, .bool kh2, .string kd2, .bool vh2, .string vd2, .slice a2 n2 cap2] 40)).heap[w.heap.size + 1]? = some (.cells #[.int .i64 t2, .bool kh2, .string kd2, .bool vh2, .string vd2, .slice a2 n2 cap2] 40 (0, 0)) := heap_new' _ _ _ (by simp)
  have hb1 : Below w.heap.size w ((w.alloc (.cells #[.int .i64 t, .bool kh, .string kd, .bool vh, .string vd, .slice a1 n1 cap1] 40)).alloc (.cells #[.int .i64 t2, .bool kh2, .string kd2, .bool vh2, .string vd2, .slice a2 n2 cap2] 40)) := ((Below.refl _ w).alloc (Nat.le_refl _) _).alloc (by simp) _
  have hs1 : ((w.alloc (.cells #[.int .i64 t, .bool kh, .string kd, .bool vh, .string vd, .slice a1 n1 cap1] 40)).alloc (.cells #[.int .i64 t2, .bool kh2, .string kd2, .bool vh2, .string vd2, .slice a2 n2 cap2] 40)).heap.size = w.heap.size + 2 := by simp
  generalize ((w.alloc (.cells #[.int .i64 t, .bool kh, .string kd, .bool vh, .string vd, .slice a1 n1 cap1] 40)).alloc (.cells #[.int .i64 t2, .bool kh2, .string kd2, .bool vh2, .string vd2, .slice a2 n2 cap2] 40)) = W2 at *
  have hB : w.heap.size + 2 ≤ W2.heap.size := by omega
  have HB1 := hid hb1
  have h0 : Below (w.heap.size + 2) W2 W2 := Below.refl _ _
  have H1 := hid h1
  have H2 := hid h2
  have y1 : w.heap.size < w.heap.size + 2 := by omega
  have y2 : w.heap.size + 1 < w.heap.size + 2 := by omega
  clear h1 h2 hb1
  refine (xs_okB HK.out _ W2 W2 hB h0).mono ?_
  rintro e x1 ⟨rfl, hx1⟩
  obtain ⟨c0, c1, c2, c3, c4, c5⟩ := cells6 ((hx1.block w.heap.size y1).trans H1.out)
  obtain ⟨d0, d1, d2, d3, d4, d5⟩ := cells6 ((hx1.block (w.heap.size + 1) y2).trans H2.out)
  have HX1 := hid hx1
  clear hx1
  go_wp2_with fail
  refine (xs_okB HV.out _ W2 x1 hB HX1.out).mono ?_
  rintro e x2 ⟨rfl, hx2⟩
  clear c0 c1 c2 c3 c4 c5 d0 d1 d2 d3 d4 d5
  have c5 : x2.cell? ⟨w.heap.size, 5, none⟩ = some (.slice a1 n1 cap1) := held_at H1.out y1 rfl hx2
  have d5 : x2.cell? ⟨w.heap.size + 1, 5, none⟩ = some (.slice a2 n2 cap2) := held_at H2.out y2 rfl hx2
  have HX2 := hid hx2
  clear hx2
  go_wp2_with fail
  have HF := hid (HB1.out.trans (HX2.out.mono (by omega)))
  go_ret
  exact ⟨rfl, HF.out⟩
end Go.Proofs.Ytlbkkeoffeohnab
