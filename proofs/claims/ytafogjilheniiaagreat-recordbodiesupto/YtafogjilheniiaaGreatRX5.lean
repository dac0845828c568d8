/- What the document's own reader answers for a text or null. -/
import Derived.Test.YtafogjilheniiaaGreatRX4
namespace Go.Proofs.YtafogjilheniiaaGreat
open Go.RowKit
set_option maxHeartbeats 2000000 in
set_option maxRecDepth 20000 in
theorem xopt_err (b : Nat) (s : ByteArray) (k e K E : Nat) (u n : Int) (w : World) (h : RX w b s k e) (hE : E ≠ 0)
    (hu : ∀ w', RX w' b s k e → Calls Tryz.prog 55 #[.pointer (some ⟨b, 0, none⟩)] w' (AnsX b s (.int .i64 u) K E w')) :
    Calls Tryz.prog 27 #[.pointer (some ⟨b, 0, none⟩), .int .i64 n] w (AnsX b s (.agg #[.bool false, .string ⟨#[]⟩]) K E w) := by
  have hne : ((E : Int) != 0) = true := by rw [bne_iff_ne]; omega
  clear hE
  have c1 := (h.alloc (.cells #[.bool false, .string ⟨#[]⟩] 24)).cK
  have l0 := h.lt
  have d1 : b ≠ w.heap.size := by omega
  have d2 : w.heap.size ≠ b := by omega
  go_enter Tryz.func27, Tryz.ntmps27
  go_wp2_with fail
  refine (hu _ (h.alloc _)).mono ?_
  rintro e w1 ⟨rfl, h1, h2⟩
  have gv : w1.heap[w.heap.size]? = some (.cells #[.bool false, .string ⟨#[]⟩] 24 (0, 0)) := (h2.block _ (by simp) (by omega)).trans (heap_new _ _)
  have y3 : w1.cell? ⟨w.heap.size, 0, none⟩ = some (.bool false) := (cell_of gv).trans rfl
  have y4 : w1.cell? ⟨w.heap.size, 1, none⟩ = some (.string ⟨#[]⟩) := (cell_of gv).trans rfl
  have y5 := froz_of (i := 0) gv
  have y6 := froz_of (i := 1) gv
  have HV := Hid.mk gv
  have hlv := lt_of_heap gv
  clear gv
  go_wp2
  have c7 : ((w1.setCell ⟨w.heap.size, 0, none⟩ (.bool false)).setCell ⟨w.heap.size, 1, none⟩ (.string ⟨#[]⟩)).cell? ⟨w.heap.size, 0, none⟩ = some (.bool false) := (cell_of (heap_set (heap_set HV.out))).trans rfl
  have c8 : ((w1.setCell ⟨w.heap.size, 0, none⟩ (.bool false)).setCell ⟨w.heap.size, 1, none⟩ (.string ⟨#[]⟩)).cell? ⟨w.heap.size, 1, none⟩ = some (.string ⟨#[]⟩) := (cell_of (heap_set (heap_set HV.out))).trans rfl
  exact bodyPost_ret (v := .tuple #[.agg #[.bool false, .string ⟨#[]⟩], .int .i64 E]) (by simp [results, Tryz.results27, go_sem, c7, c8]) rfl ⟨rfl, ((h1.far _ d1).far _ d1), ((((Ch.refl _ _).alloc _).trans h2).setCell _ _ (fun h => absurd h (by simp))).setCell _ _ (fun h => absurd h (by simp))⟩
set_option maxHeartbeats 2000000 in
set_option maxRecDepth 20000 in
theorem xopt_null (b : Nat) (s : ByteArray) (k K : Nat) (n : Int) (w : World) (h : RX w b s k 0)
    (hu : ∀ w', RX w' b s k 0 → Calls Tryz.prog 55 #[.pointer (some ⟨b, 0, none⟩)] w' (AnsX b s (.int .i64 (-1)) K 0 w')) :
    Calls Tryz.prog 27 #[.pointer (some ⟨b, 0, none⟩), .int .i64 n] w (AnsX b s (.agg #[.bool false, .string ⟨#[]⟩]) K 0 w) := by
  have c1 := (h.alloc (.cells #[.bool false, .string ⟨#[]⟩] 24)).cK
  have l0 := h.lt
  have d1 : b ≠ w.heap.size := by omega
  have d2 : w.heap.size ≠ b := by omega
  go_enter Tryz.func27, Tryz.ntmps27
  go_wp2_with fail
  refine (hu _ (h.alloc _)).mono ?_
  rintro e w1 ⟨rfl, h1, h2⟩
  have gv : w1.heap[w.heap.size]? = some (.cells #[.bool false, .string ⟨#[]⟩] 24 (0, 0)) := (h2.block _ (by simp) (by omega)).trans (heap_new _ _)
  have y3 : w1.cell? ⟨w.heap.size, 0, none⟩ = some (.bool false) := (cell_of gv).trans rfl
  have y4 : w1.cell? ⟨w.heap.size, 1, none⟩ = some (.string ⟨#[]⟩) := (cell_of gv).trans rfl
  have y5 := froz_of (i := 0) gv
  have y6 := froz_of (i := 1) gv
  have HV := Hid.mk gv
  have hlv := lt_of_heap gv
  clear gv
  go_wp2
  have c7 : ((w1.setCell ⟨w.heap.size, 0, none⟩ (.bool false)).setCell ⟨w.heap.size, 1, none⟩ (.string ⟨#[]⟩)).cell? ⟨w.heap.size, 0, none⟩ = some (.bool false) := (cell_of (heap_set (heap_set HV.out))).trans rfl
  have c8 : ((w1.setCell ⟨w.heap.size, 0, none⟩ (.bool false)).setCell ⟨w.heap.size, 1, none⟩ (.string ⟨#[]⟩)).cell? ⟨w.heap.size, 1, none⟩ = some (.string ⟨#[]⟩) := (cell_of (heap_set (heap_set HV.out))).trans rfl
  exact bodyPost_ret (v := .tuple #[.agg #[.bool false, .string ⟨#[]⟩], .int .i64 0]) (by simp [results, Tryz.results27, go_sem, c7, c8]) rfl ⟨rfl, ((h1.far _ d1).far _ d1), ((((Ch.refl _ _).alloc _).trans h2).setCell _ _ (fun h => absurd h (by simp))).setCell _ _ (fun h => absurd h (by simp))⟩
set_option maxHeartbeats 2000000 in
set_option maxRecDepth 20000 in
theorem xopt_neg (b : Nat) (s : ByteArray) (k K : Nat) (u n : Int) (w : World) (h : RX w b s k 0) (hm1 : -9223372036854775808 ≤ n) (hm2 : n ≤ 9223372036854775807) (hu1 : -9223372036854775808 ≤ u) (hu2 : u ≤ 9223372036854775807)
    (hu : ∀ w', RX w' b s k 0 → Calls Tryz.prog 55 #[.pointer (some ⟨b, 0, none⟩)] w' (AnsX b s (.int .i64 u) K 0 w')) (hn : u < -1) :
    Calls Tryz.prog 27 #[.pointer (some ⟨b, 0, none⟩), .int .i64 n] w (AnsX b s (.agg #[.bool false, .string ⟨#[]⟩]) k 21 w) := by
  have hne : (u == -1) = false := by rw [beq_eq_false_iff_ne]; omega
  have c1 := (h.alloc (.cells #[.bool false, .string ⟨#[]⟩] 24)).cK
  have l0 := h.lt
  have d1 : b ≠ w.heap.size := by omega
  have d2 : w.heap.size ≠ b := by omega
  by_cases hneg : n < 0
  all_goals
    go_enter Tryz.func27, Tryz.ntmps27
    go_wp2_with fail
    refine (hu _ (h.alloc _)).mono ?_
    rintro e w1 ⟨rfl, h1, h2⟩
    have gv : w1.heap[w.heap.size]? = some (.cells #[.bool false, .string ⟨#[]⟩] 24 (0, 0)) := (h2.block _ (by simp) (by omega)).trans (heap_new _ _)
    have y3 : w1.cell? ⟨w.heap.size, 0, none⟩ = some (.bool false) := (cell_of gv).trans rfl
    have y4 : w1.cell? ⟨w.heap.size, 1, none⟩ = some (.string ⟨#[]⟩) := (cell_of gv).trans rfl
    have y5 := froz_of (i := 0) gv
    have y6 := froz_of (i := 1) gv
    have HV := Hid.mk gv
    have hlv := lt_of_heap gv
    clear gv
    have y1 := h1.cK
    have y2 := h1.fz 1
    have y7 := h1.fz 2
    have hx := (h1.setK k)
    go_wp2_with (go_at_call 52; refine (xfail_new b s k 21 _ hx).mono ?_; rintro e w3 ⟨rfl, rfl⟩)
    have gv2 : ((w1.setCell ⟨b, 1, none⟩ (.int .i64 k)).setCell ⟨b, 2, none⟩ (.int .i64 21)).heap[w.heap.size]? = some (.cells #[.bool false, .string ⟨#[]⟩] 24 (0, 0)) := heap_set_far (heap_set_far HV.out d2) d2
    have c7 : ((((w1.setCell ⟨b, 1, none⟩ (.int .i64 k)).setCell ⟨b, 2, none⟩ (.int .i64 21)).setCell ⟨w.heap.size, 0, none⟩ (.bool false)).setCell ⟨w.heap.size, 1, none⟩ (.string ⟨#[]⟩)).cell? ⟨w.heap.size, 0, none⟩ = some (.bool false) := (cell_of (heap_set (heap_set gv2))).trans rfl
    have c8 : ((((w1.setCell ⟨b, 1, none⟩ (.int .i64 k)).setCell ⟨b, 2, none⟩ (.int .i64 21)).setCell ⟨w.heap.size, 0, none⟩ (.bool false)).setCell ⟨w.heap.size, 1, none⟩ (.string ⟨#[]⟩)).cell? ⟨w.heap.size, 1, none⟩ = some (.string ⟨#[]⟩) := (cell_of (heap_set (heap_set gv2))).trans rfl
    exact bodyPost_ret (v := .tuple #[.agg #[.bool false, .string ⟨#[]⟩], .int .i64 21]) (by simp [results, Tryz.results27, go_sem, c7, c8]) rfl ⟨rfl, (((hx.setE 21).far _ d1).far _ d1), ((((Ch.refl _ _).alloc _).trans ((h2.setCell ⟨b, 1, none⟩ (.int .i64 k) (fun _ => rfl)).setCell ⟨b, 2, none⟩ (.int .i64 21) (fun _ => rfl))).setCell _ _ (fun h => absurd h (by simp))).setCell _ _ (fun h => absurd h (by simp))⟩
set_option maxHeartbeats 2000000 in
set_option maxRecDepth 20000 in
theorem xopt_long1 (b : Nat) (s : ByteArray) (k K : Nat) (u n : Int) (w : World) (h : RX w b s k 0) (hm1 : -9223372036854775808 ≤ n) (hm2 : n ≤ 9223372036854775807) (hu1 : -9223372036854775808 ≤ u) (hu2 : u ≤ 9223372036854775807)
    (hu : ∀ w', RX w' b s k 0 → Calls Tryz.prog 55 #[.pointer (some ⟨b, 0, none⟩)] w' (AnsX b s (.int .i64 u) K 0 w')) (hn : n < u) (hn0 : 0 < u) :
    Calls Tryz.prog 27 #[.pointer (some ⟨b, 0, none⟩), .int .i64 n] w (AnsX b s (.agg #[.bool false, .string ⟨#[]⟩]) k 21 w) := by
  have hne : (u == -1) = false := by rw [beq_eq_false_iff_ne]; omega
  have c1 := (h.alloc (.cells #[.bool false, .string ⟨#[]⟩] 24)).cK
  have l0 := h.lt
  have d1 : b ≠ w.heap.size := by omega
  have d2 : w.heap.size ≠ b := by omega
  by_cases hneg : n < 0
  all_goals
    go_enter Tryz.func27, Tryz.ntmps27
    go_wp2_with fail
    refine (hu _ (h.alloc _)).mono ?_
    rintro e w1 ⟨rfl, h1, h2⟩
    have gv : w1.heap[w.heap.size]? = some (.cells #[.bool false, .string ⟨#[]⟩] 24 (0, 0)) := (h2.block _ (by simp) (by omega)).trans (heap_new _ _)
    have y3 : w1.cell? ⟨w.heap.size, 0, none⟩ = some (.bool false) := (cell_of gv).trans rfl
    have y4 : w1.cell? ⟨w.heap.size, 1, none⟩ = some (.string ⟨#[]⟩) := (cell_of gv).trans rfl
    have y5 := froz_of (i := 0) gv
    have y6 := froz_of (i := 1) gv
    have HV := Hid.mk gv
    have hlv := lt_of_heap gv
    clear gv
    have y1 := h1.cK
    have y2 := h1.fz 1
    have y7 := h1.fz 2
    have hx := (h1.setK k)
    go_wp2_with (go_at_call 52; refine (xfail_new b s k 21 _ hx).mono ?_; rintro e w3 ⟨rfl, rfl⟩)
    have gv2 : ((w1.setCell ⟨b, 1, none⟩ (.int .i64 k)).setCell ⟨b, 2, none⟩ (.int .i64 21)).heap[w.heap.size]? = some (.cells #[.bool false, .string ⟨#[]⟩] 24 (0, 0)) := heap_set_far (heap_set_far HV.out d2) d2
    have c7 : ((((w1.setCell ⟨b, 1, none⟩ (.int .i64 k)).setCell ⟨b, 2, none⟩ (.int .i64 21)).setCell ⟨w.heap.size, 0, none⟩ (.bool false)).setCell ⟨w.heap.size, 1, none⟩ (.string ⟨#[]⟩)).cell? ⟨w.heap.size, 0, none⟩ = some (.bool false) := (cell_of (heap_set (heap_set gv2))).trans rfl
    have c8 : ((((w1.setCell ⟨b, 1, none⟩ (.int .i64 k)).setCell ⟨b, 2, none⟩ (.int .i64 21)).setCell ⟨w.heap.size, 0, none⟩ (.bool false)).setCell ⟨w.heap.size, 1, none⟩ (.string ⟨#[]⟩)).cell? ⟨w.heap.size, 1, none⟩ = some (.string ⟨#[]⟩) := (cell_of (heap_set (heap_set gv2))).trans rfl
    exact bodyPost_ret (v := .tuple #[.agg #[.bool false, .string ⟨#[]⟩], .int .i64 21]) (by simp [results, Tryz.results27, go_sem, c7, c8]) rfl ⟨rfl, (((hx.setE 21).far _ d1).far _ d1), ((((Ch.refl _ _).alloc _).trans ((h2.setCell ⟨b, 1, none⟩ (.int .i64 k) (fun _ => rfl)).setCell ⟨b, 2, none⟩ (.int .i64 21) (fun _ => rfl))).setCell _ _ (fun h => absurd h (by simp))).setCell _ _ (fun h => absurd h (by simp))⟩
set_option maxHeartbeats 2000000 in
set_option maxRecDepth 20000 in
theorem xopt_long2 (b : Nat) (s : ByteArray) (k K : Nat) (u n : Int) (w : World) (h : RX w b s k 0) (hKs : K ≤ s.size) (hs : s.size ≤ 9223372036854775807) (hm1 : -9223372036854775808 ≤ n) (hm2 : n ≤ 9223372036854775807) (hu1 : -9223372036854775808 ≤ u) (hu2 : u ≤ 9223372036854775807)
    (hu : ∀ w', RX w' b s k 0 → Calls Tryz.prog 55 #[.pointer (some ⟨b, 0, none⟩)] w' (AnsX b s (.int .i64 u) K 0 w')) (hn : u ≤ n ∨ u = 0) (hn0 : 0 ≤ u) (hl : (s.size : Int) - K < u) :
    Calls Tryz.prog 27 #[.pointer (some ⟨b, 0, none⟩), .int .i64 n] w (AnsX b s (.agg #[.bool false, .string ⟨#[]⟩]) k 21 w) := by
  have hneg : ¬ n < 0 := by omega
  have hne : (u == -1) = false := by rw [beq_eq_false_iff_ne]; omega
  have c1 := (h.alloc (.cells #[.bool false, .string ⟨#[]⟩] 24)).cK
  have l0 := h.lt
  have d1 : b ≠ w.heap.size := by omega
  have d2 : w.heap.size ≠ b := by omega
  go_enter Tryz.func27, Tryz.ntmps27
  go_wp2_with fail
  refine (hu _ (h.alloc _)).mono ?_
  rintro e w1 ⟨rfl, h1, h2⟩
  have gv : w1.heap[w.heap.size]? = some (.cells #[.bool false, .string ⟨#[]⟩] 24 (0, 0)) := (h2.block _ (by simp) (by omega)).trans (heap_new _ _)
  have y3 : w1.cell? ⟨w.heap.size, 0, none⟩ = some (.bool false) := (cell_of gv).trans rfl
  have y4 : w1.cell? ⟨w.heap.size, 1, none⟩ = some (.string ⟨#[]⟩) := (cell_of gv).trans rfl
  have y5 := froz_of (i := 0) gv
  have y6 := froz_of (i := 1) gv
  have HV := Hid.mk gv
  have hlv := lt_of_heap gv
  clear gv
  have y1 := h1.cK
  have y2 := h1.fz 1
  have y7 := h1.fz 2
  go_wp2_with fail
  refine (xleft_any b s K 0 _ h1 hKs hs).mono ?_
  rintro e w2 ⟨rfl, n1, rfl⟩
  have hx := ((h1.drewN n1).setK k)
  go_wp2_with (go_at_call 52; refine (xfail_new b s k 21 _ hx).mono ?_; rintro e w3 ⟨rfl, rfl⟩)
  have gv2 : (((w1.drewN n1).setCell ⟨b, 1, none⟩ (.int .i64 k)).setCell ⟨b, 2, none⟩ (.int .i64 21)).heap[w.heap.size]? = some (.cells #[.bool false, .string ⟨#[]⟩] 24 (0, 0)) := heap_set_far (heap_set_far HV.out d2) d2
  have c7 : (((((w1.drewN n1).setCell ⟨b, 1, none⟩ (.int .i64 k)).setCell ⟨b, 2, none⟩ (.int .i64 21)).setCell ⟨w.heap.size, 0, none⟩ (.bool false)).setCell ⟨w.heap.size, 1, none⟩ (.string ⟨#[]⟩)).cell? ⟨w.heap.size, 0, none⟩ = some (.bool false) := (cell_of (heap_set (heap_set gv2))).trans rfl
  have c8 : (((((w1.drewN n1).setCell ⟨b, 1, none⟩ (.int .i64 k)).setCell ⟨b, 2, none⟩ (.int .i64 21)).setCell ⟨w.heap.size, 0, none⟩ (.bool false)).setCell ⟨w.heap.size, 1, none⟩ (.string ⟨#[]⟩)).cell? ⟨w.heap.size, 1, none⟩ = some (.string ⟨#[]⟩) := (cell_of (heap_set (heap_set gv2))).trans rfl
  exact bodyPost_ret (v := .tuple #[.agg #[.bool false, .string ⟨#[]⟩], .int .i64 21]) (by simp [results, Tryz.results27, go_sem, c7, c8]) rfl ⟨rfl, (((hx.setE 21).far _ d1).far _ d1), ((((Ch.refl _ _).alloc _).trans (((h2.drewN n1).setCell ⟨b, 1, none⟩ (.int .i64 k) (fun _ => rfl)).setCell ⟨b, 2, none⟩ (.int .i64 21) (fun _ => rfl))).setCell _ _ (fun h => absurd h (by simp))).setCell _ _ (fun h => absurd h (by simp))⟩
set_option maxHeartbeats 2000000 in
set_option maxRecDepth 20000 in
theorem xopt_ok (b : Nat) (s : ByteArray) (k K N : Nat) (n : Int) (w : World) (h : RX w b s k 0) (hs : s.size ≤ 9223372036854775807) (hm1 : -9223372036854775808 ≤ n) (hm2 : n ≤ 9223372036854775807)
    (hu : ∀ w', RX w' b s k 0 → Calls Tryz.prog 55 #[.pointer (some ⟨b, 0, none⟩)] w' (AnsX b s (.int .i64 N) K 0 w')) (hn : (N : Int) ≤ n ∨ N = 0) (hl : K + N ≤ s.size) :
    Calls Tryz.prog 27 #[.pointer (some ⟨b, 0, none⟩), .int .i64 n] w (AnsX b s (.agg #[.bool true, .string (s.extract K (K + N))]) (K + N) 0 w) := by
  have hKs : K ≤ s.size := by omega
  have hne : ((N : Int) == -1) = false := by rw [beq_eq_false_iff_ne]; omega
  have c1 := (h.alloc (.cells #[.bool false, .string ⟨#[]⟩] 24)).cK
  have l0 := h.lt
  have d1 : b ≠ w.heap.size := by omega
  have d2 : w.heap.size ≠ b := by omega
  by_cases hneg : n < 0
  · have hN0 : N = 0 := by omega
    subst hN0
    have hraw := fun w' h' => xraw_any b s K 0 (((0 : Nat) : Int) : Int) w' h' hKs hs (by omega) (by omega)
    rw [rq_ok (by omega)] at hraw
    dsimp only at hraw
    generalize s.extract K (K + 0) = d at *
    go_enter Tryz.func27, Tryz.ntmps27
    go_wp2_with fail
    refine (hu _ (h.alloc _)).mono ?_
    rintro e w1 ⟨rfl, h1, h2⟩
    have gv : w1.heap[w.heap.size]? = some (.cells #[.bool false, .string ⟨#[]⟩] 24 (0, 0)) := (h2.block _ (by simp) (by omega)).trans (heap_new _ _)
    have y3 : w1.cell? ⟨w.heap.size, 0, none⟩ = some (.bool false) := (cell_of gv).trans rfl
    have y4 : w1.cell? ⟨w.heap.size, 1, none⟩ = some (.string ⟨#[]⟩) := (cell_of gv).trans rfl
    have y5 := froz_of (i := 0) gv
    have y6 := froz_of (i := 1) gv
    have HV := Hid.mk gv
    have hlv := lt_of_heap gv
    clear gv
    go_wp2_with fail
    refine (xleft_any b s K 0 _ h1 hKs hs).mono ?_
    rintro e w2 ⟨rfl, n1, rfl⟩
    go_wp2_with fail
    refine (hraw _ (h1.drewN _)).mono ?_
    rintro e w3 ⟨rfl, h3, h4⟩
    have gv3 : w3.heap[w.heap.size]? = some (.cells #[.bool false, .string ⟨#[]⟩] 24 (0, 0)) := (h4.block _ hlv d2).trans HV.out
    have z3 : w3.cell? ⟨w.heap.size, 0, none⟩ = some (.bool false) := (cell_of gv3).trans rfl
    have z4 : w3.cell? ⟨w.heap.size, 1, none⟩ = some (.string ⟨#[]⟩) := (cell_of gv3).trans rfl
    have z5 := froz_of (i := 0) gv3
    have z6 := froz_of (i := 1) gv3
    have HV3 := Hid.mk gv3
    clear gv3
    go_wp2
    have c7 : ((w3.setCell ⟨w.heap.size, 0, none⟩ (.bool true)).setCell ⟨w.heap.size, 1, none⟩ (.string d)).cell? ⟨w.heap.size, 0, none⟩ = some (.bool true) := (cell_of (heap_set (heap_set HV3.out))).trans rfl
    have c8 : ((w3.setCell ⟨w.heap.size, 0, none⟩ (.bool true)).setCell ⟨w.heap.size, 1, none⟩ (.string d)).cell? ⟨w.heap.size, 1, none⟩ = some (.string d) := (cell_of (heap_set (heap_set HV3.out))).trans rfl
    exact bodyPost_ret (v := .tuple #[.agg #[.bool true, .string d], .int .i64 0]) (by simp [results, Tryz.results27, go_sem, c7, c8]) rfl ⟨rfl, ((h3.far _ d1).far _ d1), ((((Ch.refl _ _).alloc _).trans ((h2.drewN _).trans h4)).setCell _ _ (fun h => absurd h (by simp))).setCell _ _ (fun h => absurd h (by simp))⟩
  · have hraw := fun w' h' => xraw_any b s K 0 (N : Int) w' h' hKs hs (by omega) (by omega)
    rw [rq_ok (by omega)] at hraw
    dsimp only at hraw
    generalize s.extract K (K + N) = d at *
    go_enter Tryz.func27, Tryz.ntmps27
    go_wp2_with fail
    refine (hu _ (h.alloc _)).mono ?_
    rintro e w1 ⟨rfl, h1, h2⟩
    have gv : w1.heap[w.heap.size]? = some (.cells #[.bool false, .string ⟨#[]⟩] 24 (0, 0)) := (h2.block _ (by simp) (by omega)).trans (heap_new _ _)
    have y3 : w1.cell? ⟨w.heap.size, 0, none⟩ = some (.bool false) := (cell_of gv).trans rfl
    have y4 : w1.cell? ⟨w.heap.size, 1, none⟩ = some (.string ⟨#[]⟩) := (cell_of gv).trans rfl
    have y5 := froz_of (i := 0) gv
    have y6 := froz_of (i := 1) gv
    have HV := Hid.mk gv
    have hlv := lt_of_heap gv
    clear gv
    go_wp2_with fail
    refine (xleft_any b s K 0 _ h1 hKs hs).mono ?_
    rintro e w2 ⟨rfl, n1, rfl⟩
    go_wp2_with fail
    refine (hraw _ (h1.drewN _)).mono ?_
    rintro e w3 ⟨rfl, h3, h4⟩
    have gv3 : w3.heap[w.heap.size]? = some (.cells #[.bool false, .string ⟨#[]⟩] 24 (0, 0)) := (h4.block _ hlv d2).trans HV.out
    have z3 : w3.cell? ⟨w.heap.size, 0, none⟩ = some (.bool false) := (cell_of gv3).trans rfl
    have z4 : w3.cell? ⟨w.heap.size, 1, none⟩ = some (.string ⟨#[]⟩) := (cell_of gv3).trans rfl
    have z5 := froz_of (i := 0) gv3
    have z6 := froz_of (i := 1) gv3
    have HV3 := Hid.mk gv3
    clear gv3
    go_wp2
    have c7 : ((w3.setCell ⟨w.heap.size, 0, none⟩ (.bool true)).setCell ⟨w.heap.size, 1, none⟩ (.string d)).cell? ⟨w.heap.size, 0, none⟩ = some (.bool true) := (cell_of (heap_set (heap_set HV3.out))).trans rfl
    have c8 : ((w3.setCell ⟨w.heap.size, 0, none⟩ (.bool true)).setCell ⟨w.heap.size, 1, none⟩ (.string d)).cell? ⟨w.heap.size, 1, none⟩ = some (.string d) := (cell_of (heap_set (heap_set HV3.out))).trans rfl
    exact bodyPost_ret (v := .tuple #[.agg #[.bool true, .string d], .int .i64 0]) (by simp [results, Tryz.results27, go_sem, c7, c8]) rfl ⟨rfl, ((h3.far _ d1).far _ d1), ((((Ch.refl _ _).alloc _).trans ((h2.drewN _).trans h4)).setCell _ _ (fun h => absurd h (by simp))).setCell _ _ (fun h => absurd h (by simp))⟩
/-- The whole. -/
theorem xopt_any (b : Nat) (s : ByteArray) (k e : Nat) (n : Int) (w : World) (h : RX w b s k e) (hk : k ≤ s.size) (hs : s.size ≤ 9223372036854775807) (hm1 : -9223372036854775808 ≤ n) (hm2 : n ≤ 9223372036854775807) :
    Calls Tryz.prog 27 #[.pointer (some ⟨b, 0, none⟩), .int .i64 n] w (AnsX b s (.agg #[.bool (oq n s k e).1, .string (oq n s k e).2.1]) (oq n s k e).2.2.1 (oq n s k e).2.2.2 w) := by
  have hu := fun w' h' => xvarint_any b s k e w' h' hk hs
  by_cases he : e = 0
  · subst he
    by_cases hl : rde (tl s k) = 0
    · rw [vq_ok hl] at hu
      have hb := rd_bds (tl s k)
      have hz := tl_size s k
      have hub := M.uz_bd (u := (rdv (tl s k) : Int)) (by omega) hb.1
      have hKs : k + rdn (tl s k) ≤ s.size := by omega
      by_cases hz1 : M.uz (rdv (tl s k)) = -1
      · rw [oq_null hl hz1]
        rw [hz1] at hu
        exact xopt_null b s k _ n w h hu
      · by_cases hx : 0 ≤ M.uz (rdv (tl s k)) ∧ (M.uz (rdv (tl s k)) ≤ n ∨ M.uz (rdv (tl s k)) = 0) ∧ k + rdn (tl s k) + (M.uz (rdv (tl s k))).toNat ≤ s.size
        · obtain ⟨N, hN⟩ : ∃ N : Nat, M.uz (rdv (tl s k)) = (N : Int) := ⟨(M.uz (rdv (tl s k))).toNat, by omega⟩
          rw [hN] at hx hu
          rw [oq_ok hl hN (by omega) (by omega)]
          exact xopt_ok b s k _ N n w h hs hm1 hm2 hu (by omega) (by omega)
        · rw [oq_long hl hz1 hx]
          dsimp only at hu ⊢
          by_cases h0 : 0 ≤ M.uz (rdv (tl s k))
          · by_cases hf : M.uz (rdv (tl s k)) ≤ n ∨ M.uz (rdv (tl s k)) = 0
            · exact xopt_long2 b s k _ _ n w h hKs hs hm1 hm2 hub.1 hub.2 hu hf h0 (by omega)
            · exact xopt_long1 b s k _ _ n w h hm1 hm2 hub.1 hub.2 hu (by omega) (by omega)
          · exact xopt_neg b s k _ _ n w h hm1 hm2 hub.1 hub.2 hu (by omega)
    · rw [vq_bad hl] at hu
      rw [oq_bad hl]
      exact xopt_err b s k 0 k _ _ n w h hl hu
  · rw [vq_stale he] at hu
    rw [oq_stale he]
    exact xopt_err b s k e k e _ n w h he hu
end Go.Proofs.YtafogjilheniiaaGreat
