/- The statement's own 'same', of two records that are the same in all, where they lie. -/
import Derived.Test.YtoohmbkgdmmghaaSam5
import Derived.Deep.RegionHeld3
namespace Go.Proofs.Ytoohmbkgdmmghaa
open Go.RowKit
set_option maxHeartbeats 1000000 in
set_option maxRecDepth 20000 in
theorem lsame_yes (t : Int) (kh vh : Bool) (kd vd : ByteArray) (hs : List Hdr) (a1 a2 : Option Addr) (cap1 cap2 : Nat) (w : World) (V1 : Hds w a1 hs) (V2 : Hds w a2 hs) (hz : hs.length ≤ 9223372036854775807) :
    Calls Try.prog 11 #[.agg #[.int .i64 t, .bool kh, .string kd, .bool vh, .string vd, .slice a1 hs.length cap1], .agg #[.int .i64 t, .bool kh, .string kd, .bool vh, .string vd, .slice a2 hs.length cap2]] w fun e w' => e = .returned (.bool true) ∧ Below w.heap.size w w' := by
  have n1 := fun w => neq_opt kh kd w
  have n2 := fun w => neq_opt vh vd w
  have g1 := fun x y w => run_eqGuard_agg (P := Try.prog) w BinOp.neq 23 x y #[.bool kh, .string kd] #[.bool kh, .string kd] Try.optGuard
  have g2 := fun x y w => run_eqGuard_agg (P := Try.prog) w BinOp.neq 23 x y #[.bool vh, .string vd] #[.bool vh, .string vd] Try.optGuard
  have HV1 := hid V1
  have HV2 := hid V2
  clear V1 V2
  go_enter Try.func11, Try.ntmps11
  go_wp2_with fail
  have h1 : ((w.alloc (.cells #[.int .i64 t, .bool kh, .string kd, .bool vh, .string vd, .slice a1 hs.length cap1] 26)).alloc (.cells #[.int .i64 t, .bool kh, .string kd, .bool vh, .string vd, .slice a2 hs.length cap2] 26)).heap[w.heap.size]? = some (.cells #[.int .i64 t, .bool kh, .string kd, .bool vh, .string vd, .slice a1 hs.length cap1] 26 (0, 0)) := heap_alloc_at (heap_new _ _)
  have h2 : ((w.alloc (.cells #[.int .i64 t, .bool kh, .string kd, .bool vh, .string vd, .slice a1 hs.length cap1] 26)).alloc (.cells #[.int .i64 t, .bool kh, .string kd, .bool vh, .string vd, .slice a2 hs.length cap2] 26)).heap[w.heap.size + 1]? = some (.cells #[.int .i64 t, .bool kh, .string kd, .bool vh, .string vd, .slice a2 hs.length cap2] 26 (0, 0)) := heap_new' _ _ _ (by simp)
  have hb1 : Below w.heap.size w ((w.alloc (.cells #[.int .i64 t, .bool kh, .string kd, .bool vh, .string vd, .slice a1 hs.length cap1] 26)).alloc (.cells #[.int .i64 t, .bool kh, .string kd, .bool vh, .string vd, .slice a2 hs.length cap2] 26)) := ((Below.refl _ w).alloc (Nat.le_refl _) _).alloc (by simp) _
  have hs1 : ((w.alloc (.cells #[.int .i64 t, .bool kh, .string kd, .bool vh, .string vd, .slice a1 hs.length cap1] 26)).alloc (.cells #[.int .i64 t, .bool kh, .string kd, .bool vh, .string vd, .slice a2 hs.length cap2] 26)).heap.size = w.heap.size + 2 := by simp
  generalize ((w.alloc (.cells #[.int .i64 t, .bool kh, .string kd, .bool vh, .string vd, .slice a1 hs.length cap1] 26)).alloc (.cells #[.int .i64 t, .bool kh, .string kd, .bool vh, .string vd, .slice a2 hs.length cap2] 26)) = W2 at *
  have hB : w.heap.size + 2 ≤ W2.heap.size := by omega
  have HB1 := hid hb1
  have H1 := hid h1
  have H2 := hid h2
  have y1 : w.heap.size < w.heap.size + 2 := by omega
  have y2 : w.heap.size + 1 < w.heap.size + 2 := by omega
  clear h1 h2 hb1 n1 n2 g1 g2
  have HX2 : Hid (Below (w.heap.size + 2) W2 W2) := Below.refl _ _
  go_loopg [37] hs.length (fun k i wr => ∃ j : Nat, j + k = hs.length ∧ i = .int .i64 j ∧ Hid (Below (w.heap.size + 2) W2 wr))
  case atStart => exact ⟨0, by omega, rfl, HX2⟩
  case round =>
    obtain ⟨j, hk, rfl, HB⟩ := hrel
    by_cases hlt : j < hs.length
    · obtain ⟨k, rfl⟩ : ∃ k, gk = k + 1 := ⟨gk - 1, by omega⟩
      rcases HV1.out with h | ⟨b, off, rfl, hbl, hc⟩
      · rw [h] at hlt; simp at hlt
      rcases HV2.out with h | ⟨b2, off2, rfl, hbl2, hc2⟩
      · rw [h] at hlt; simp at hlt
      obtain ⟨q0, q1, q2⟩ := hc j hlt
      obtain ⟨p0, p1, p2⟩ := hc2 j hlt
      have hcw : ∀ z, Below (w.heap.size + 2) W2 z → ∀ b o, b < w.heap.size → z.cell? ⟨b, o, none⟩ = w.cell? ⟨b, o, none⟩ := fun z hz b o h => (hz.cell (p := ⟨b, o, none⟩) (by show b < _; omega)).trans (HB1.out.cell (p := ⟨b, o, none⟩) h)
      generalize hs.getD j df = x at *
      obtain ⟨xk, xh, xd⟩ := x
      simp only at q0 q1 q2 p0 p1 p2
      have i1 : (0 : Int) ≤ (j : Int) := by omega
      have i2 : (j : Int) < hs.length := by omega
      have HS : Hid (∀ z, Below (w.heap.size + 2) W2 z → (fun z => (z.cell? ⟨w.heap.size, 5, none⟩ = some (.slice (some ⟨b, off, none⟩) hs.length cap1) ∧ z.cell? ⟨w.heap.size + 1, 5, none⟩ = some (.slice (some ⟨b2, off2, none⟩) hs.length cap2) ∧ (z.cell? ⟨b, off + j * 3, none⟩ = some (.string xk) ∧ z.cell? ⟨b, off + j * 3 + 1, none⟩ = some (.bool xh) ∧ z.cell? ⟨b, off + j * 3 + 2, none⟩ = some (.string xd)) ∧ (z.cell? ⟨b2, off2 + j * 3, none⟩ = some (.string xk) ∧ z.cell? ⟨b2, off2 + j * 3 + 1, none⟩ = some (.bool xh) ∧ z.cell? ⟨b2, off2 + j * 3 + 2, none⟩ = some (.string xd))) ∧ Below (w.heap.size + 2) W2 z) z) := fun z hz => ⟨⟨held_at H1.out y1 rfl hz, held_at H2.out y2 rfl hz, ⟨(hcw z hz b _ hbl).trans q0, (hcw z hz b _ hbl).trans q1, (hcw z hz b _ hbl).trans q2⟩, (hcw z hz b2 _ hbl2).trans p0, (hcw z hz b2 _ hbl2).trans p1, (hcw z hz b2 _ hbl2).trans p2⟩, hz⟩
      have h9 := HB.out
      have n3 := fun w => neq_hdr xk xh xd w
      have g3 := fun x y w => run_eqGuard_agg (P := Try.prog) w BinOp.neq 33 x y #[.string xk, .bool xh, .string xd] #[.string xk, .bool xh, .string xd] Try.hdrGuard
      clear hcw q0 q1 q2 p0 p1 p2 hc hc2
      go_wp2_with fail
      go_region_held3 (fun z => (z.cell? ⟨w.heap.size, 5, none⟩ = some (.slice (some ⟨b, off, none⟩) hs.length cap1) ∧ z.cell? ⟨w.heap.size + 1, 5, none⟩ = some (.slice (some ⟨b2, off2, none⟩) hs.length cap2) ∧ (z.cell? ⟨b, off + j * 3, none⟩ = some (.string xk) ∧ z.cell? ⟨b, off + j * 3 + 1, none⟩ = some (.bool xh) ∧ z.cell? ⟨b, off + j * 3 + 2, none⟩ = some (.string xd)) ∧ (z.cell? ⟨b2, off2 + j * 3, none⟩ = some (.string xk) ∧ z.cell? ⟨b2, off2 + j * 3 + 1, none⟩ = some (.bool xh) ∧ z.cell? ⟨b2, off2 + j * 3 + 2, none⟩ = some (.string xd))) ∧ Below (w.heap.size + 2) W2 z) (first | with_reducible exact HS.out _ (by assumption) | with_reducible exact HS.out _ (Below.drew (by assumption))) (fail)
      all_goals
        rename_i hH3
        have HB9 := hid hH3.2
        clear hH3 n3 g3
        go_wp2_with fail
        go_roundg k
        case measure => omega
        case rel => exact ⟨j + 1, by omega, by go_num, HB9⟩
    · have HF := hid (HB1.out.trans (HB.out.mono (by omega)))
      have i2 : ¬ (j : Int) < hs.length := by omega
      go_wp2_with fail
      go_ret
      exact ⟨rfl, HF.out⟩
end Go.Proofs.Ytoohmbkgdmmghaa
