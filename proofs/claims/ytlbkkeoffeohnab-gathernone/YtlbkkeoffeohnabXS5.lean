import Derived.Test.YtlbkkeoffeohnabXS1
/- The document's Same of two records: the loop over their headers. -/
namespace Go.Proofs.Ytlbkkeoffeohnab
open Go.RowKit
set_option maxHeartbeats 1000000 in
set_option maxRecDepth 20000 in
theorem xsame_ok (t : Int) (kh vh : Bool) (kd kd2 vd vd2 : ByteArray) (hs hs2 : List Hdr) (a1 a2 : Option Addr) (cap1 cap2 : Nat) (w : World) (V1 : Hds w a1 hs) (V2 : Hds w a2 hs2) (hz : hs.length ≤ 9223372036854775807) (hK : bd kh kd = bd kh kd2) (hV : bd vh vd = bd vh vd2) (hl2 : hs.length = hs2.length) (hH : ∀ j, j < hs.length → hq (hs.getD j df) (hs2.getD j df)) :
    Calls Try.prog 19 #[.agg #[.int .i64 t, .bool kh, .string kd, .bool vh, .string vd, .slice a1 hs.length cap1], .agg #[.int .i64 t, .bool kh, .string kd2, .bool vh, .string vd2, .slice a2 hs.length cap2]] w fun e w' => e = .returned (.bool true) ∧ Below w.heap.size w w' := by
  have HV1 := hid V1
  have HV2 := hid V2
  have HK := hid hK
  have HV := hid hV
  have HL2 := hid hl2
  have HH := hid hH
  clear V1 V2 hK hV hl2 hH
  go_enter Try.func19, Try.ntmps19
  go_wp2_with fail
  have h1 : ((w.alloc (.cells #[.int .i64 t, .bool kh, .string kd, .bool vh, .string vd, .slice a1 hs.length cap1] 40)).alloc (.cells #[.int .i64 t, .bool kh, .string kd2, .bool vh, .string vd2, .slice a2 hs.length cap2] 40)).heap[w.heap.size]? = some (.cells #[.int .i64 t, .bool kh, .string kd, .bool vh, .string vd, .slice a1 hs.length cap1] 40 (0, 0)) := heap_alloc_at (heap_new _ _)
  have h2 : ((w.alloc (.cells #[.int .i64 t, .bool kh, .string kd, .bool vh, .string vd, .slice a1 hs.length cap1] 40)).alloc (.cells #[.int .i64 t, .bool kh, .string kd2, .bool vh, .string vd2, .slice a2 hs.length cap2] 40)).heap[w.heap.size + 1]? = some (.cells #[.int .i64 t, .bool kh, .string kd2, .bool vh, .string vd2, .slice a2 hs.length cap2] 40 (0, 0)) := heap_new' _ _ _ (by simp)
  have hb1 : Below w.heap.size w ((w.alloc (.cells #[.int .i64 t, .bool kh, .string kd, .bool vh, .string vd, .slice a1 hs.length cap1] 40)).alloc (.cells #[.int .i64 t, .bool kh, .string kd2, .bool vh, .string vd2, .slice a2 hs.length cap2] 40)) := ((Below.refl _ w).alloc (Nat.le_refl _) _).alloc (by simp) _
  have hs1 : ((w.alloc (.cells #[.int .i64 t, .bool kh, .string kd, .bool vh, .string vd, .slice a1 hs.length cap1] 40)).alloc (.cells #[.int .i64 t, .bool kh, .string kd2, .bool vh, .string vd2, .slice a2 hs.length cap2] 40)).heap.size = w.heap.size + 2 := by simp
  generalize ((w.alloc (.cells #[.int .i64 t, .bool kh, .string kd, .bool vh, .string vd, .slice a1 hs.length cap1] 40)).alloc (.cells #[.int .i64 t, .bool kh, .string kd2, .bool vh, .string vd2, .slice a2 hs.length cap2] 40)) = W2 at *
  have hB : w.heap.size + 2 ≤ W2.heap.size := by omega
  have HB1 := hid hb1
  have h0 : Below (w.heap.size + 2) W2 W2 := Below.refl _ _
  have H1 := hid h1
  have H2 := hid h2
  have y1 : w.heap.size < w.heap.size + 2 := by omega
  have y2 : w.heap.size + 1 < w.heap.size + 2 := by omega
  clear h1 h2 hb1
  refine (xs_okB ⟨rfl, HK.out⟩ _ W2 W2 hB h0).mono ?_
  rintro e x1 ⟨rfl, hx1⟩
  obtain ⟨c0, c1, c2, c3, c4, c5⟩ := cells6 ((hx1.block w.heap.size y1).trans H1.out)
  obtain ⟨d0, d1, d2, d3, d4, d5⟩ := cells6 ((hx1.block (w.heap.size + 1) y2).trans H2.out)
  go_wp2_with fail
  refine (xs_okB ⟨rfl, HV.out⟩ _ W2 x1 hB hx1).mono ?_
  rintro e x2 ⟨rfl, hx2⟩
  clear c0 c1 c2 c3 c4 c5 d0 d1 d2 d3 d4 d5
  have c5 : x2.cell? ⟨w.heap.size, 5, none⟩ = some (.slice a1 hs.length cap1) := held_at H1.out y1 rfl hx2
  have d5 : x2.cell? ⟨w.heap.size + 1, 5, none⟩ = some (.slice a2 hs.length cap2) := held_at H2.out y2 rfl hx2
  have HX2 := hid hx2
  clear hx1 hx2
  go_wp2_with fail
  clear c5 d5
  go_loopg [5] hs.length (fun k i wr => ∃ j : Nat, j + k = hs.length ∧ i = .int .i64 j ∧ Hid (Below (w.heap.size + 2) W2 wr))
  case atStart => exact ⟨0, by omega, rfl, HX2⟩
  case round =>
    obtain ⟨j, hk, rfl, HB⟩ := hrel
    have c5 : wr.cell? ⟨w.heap.size, 5, none⟩ = some (.slice a1 hs.length cap1) := held_at H1.out y1 rfl HB.out
    by_cases hlt : j < hs.length
    · obtain ⟨k, rfl⟩ : ∃ k, gk = k + 1 := ⟨gk - 1, by omega⟩
      rcases HV1.out with h | ⟨b, off, rfl, hbl, hc⟩
      · rw [h] at hlt; simp at hlt
      rcases HV2.out with h | ⟨b2, off2, rfl, hbl2, hc2⟩
      · have h3 := HL2.out; rw [h, List.length_nil] at h3; omega
      have d5 : wr.cell? ⟨w.heap.size + 1, 5, none⟩ = some (.slice (some ⟨b2, off2, none⟩) hs.length cap2) := held_at H2.out y2 rfl HB.out
      obtain ⟨q0, q1, q2⟩ := hc j hlt
      obtain ⟨p0, p1, p2⟩ := hc2 j (by have := HL2.out; omega)
      have hx := HH.out j hlt
      have hcw : ∀ z, Below (w.heap.size + 2) W2 z → ∀ b o, b < w.heap.size → z.cell? ⟨b, o, none⟩ = w.cell? ⟨b, o, none⟩ := fun z hz b o h => (hz.cell (p := ⟨b, o, none⟩) (by show b < _; omega)).trans (HB1.out.cell (p := ⟨b, o, none⟩) h)
      generalize hs.getD j df = x at *
      generalize hs2.getD j df = z0 at *
      obtain ⟨xk, xh, xd⟩ := x
      obtain ⟨zk, zh, zd⟩ := z0
      simp only at q0 q1 q2 p0 p1 p2
      obtain ⟨e1, e2⟩ := hx
      dsimp only at e1 e2
      subst e1
      have HO := hid e2
      clear e2
      have i1 : (0 : Int) ≤ (j : Int) := by omega
      have i2 : (j : Int) < hs.length := by omega
      have HS : Hid (∀ z, Below (w.heap.size + 2) W2 z → (fun z => (z.cell? ⟨w.heap.size, 5, none⟩ = some (.slice (some ⟨b, off, none⟩) hs.length cap1) ∧ z.cell? ⟨w.heap.size + 1, 5, none⟩ = some (.slice (some ⟨b2, off2, none⟩) hs.length cap2) ∧ (z.cell? ⟨b, off + j * 3, none⟩ = some (.string xk) ∧ z.cell? ⟨b, off + j * 3 + 1, none⟩ = some (.bool xh) ∧ z.cell? ⟨b, off + j * 3 + 2, none⟩ = some (.string xd)) ∧ (z.cell? ⟨b2, off2 + j * 3, none⟩ = some (.string xk) ∧ z.cell? ⟨b2, off2 + j * 3 + 1, none⟩ = some (.bool zh) ∧ z.cell? ⟨b2, off2 + j * 3 + 2, none⟩ = some (.string zd))) ∧ Below (w.heap.size + 2) W2 z) z) := fun z hz => ⟨⟨held_at H1.out y1 rfl hz, held_at H2.out y2 rfl hz, ⟨(hcw z hz b _ hbl).trans q0, (hcw z hz b _ hbl).trans q1, (hcw z hz b _ hbl).trans q2⟩, (hcw z hz b2 _ hbl2).trans p0, (hcw z hz b2 _ hbl2).trans p1, (hcw z hz b2 _ hbl2).trans p2⟩, hz⟩
      have h9 := HB.out
      clear hcw q0 q1 q2 p0 p1 p2 hc hc2
      go_wp2_with fail
      clear c5 d5
      go_region_held3 (fun z => (z.cell? ⟨w.heap.size, 5, none⟩ = some (.slice (some ⟨b, off, none⟩) hs.length cap1) ∧ z.cell? ⟨w.heap.size + 1, 5, none⟩ = some (.slice (some ⟨b2, off2, none⟩) hs.length cap2) ∧ (z.cell? ⟨b, off + j * 3, none⟩ = some (.string xk) ∧ z.cell? ⟨b, off + j * 3 + 1, none⟩ = some (.bool xh) ∧ z.cell? ⟨b, off + j * 3 + 2, none⟩ = some (.string xd)) ∧ (z.cell? ⟨b2, off2 + j * 3, none⟩ = some (.string xk) ∧ z.cell? ⟨b2, off2 + j * 3 + 1, none⟩ = some (.bool zh) ∧ z.cell? ⟨b2, off2 + j * 3 + 2, none⟩ = some (.string zd))) ∧ Below (w.heap.size + 2) W2 z) (first | with_reducible exact HS.out _ (by assumption) | with_reducible exact HS.out _ (Below.drew (by assumption))) (first | (go_at_call 24; refine (xs_okB HO.out (w.heap.size + 2) W2 _ hB ?_).mono ?_; (first | assumption | exact Below.drew (by assumption)); rintro e w' ⟨rfl, hbel⟩))
      all_goals
        rename_i hH3
        have HB9 := hid hH3.2
        clear hH3 HO
        go_wp2_with fail
        go_roundg k
        case measure => omega
        case rel => exact ⟨j + 1, by omega, by go_num, HB9⟩
    · have HF := hid (HB1.out.trans (HB.out.mono (by omega)))
      have i2 : ¬ (j : Int) < hs.length := by omega
      go_wp2_with fail
      go_ret
      exact ⟨rfl, HF.out⟩
end Go.Proofs.Ytlbkkeoffeohnab
