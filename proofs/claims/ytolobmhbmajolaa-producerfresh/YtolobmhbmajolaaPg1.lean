/- A tail forgets. -/
import Derived.Test.YtolobmhbmajolaaPf2
import Derived.Test.YtolobmhbmajolaaPd8
namespace Go.Proofs.Ytolobmhbmajolaa
open Go.RowKit
def fg (below : Int) (l : List Nt) : List Nt := l.filter (fun x => decide (below ≤ x.b))
theorem kp_id {l : List Nt} (h : l.length ≤ 5) : kp l = l := by unfold kp; rw [show l.length - 5 = 0 from by omega, List.drop_zero]
theorem fg_len (below : Int) (l : List Nt) : (fg below l).length ≤ l.length := List.length_filter_le _ _
theorem fg_snoc (below : Int) (l : List Nt) (x : Nt) : fg below (l ++ [x]) = if below ≤ x.b then fg below l ++ [x] else fg below l := by
  unfold fg
  rw [List.filter_append]
  by_cases h : below ≤ x.b <;> simp [h]
theorem put16 {w : World} {p : Nat} {T : TypeId} {u0 u1 u2 u3 u4 u5 u6 u7 u8 u9 u10 u11 u12 u13 u14 u15 : Value} (h : w.heap[p]? = some (.cells #[u0, u1, u2, u3, u4, u5, u6, u7, u8, u9, u10, u11, u12, u13, u14, u15] T (0, 0))) (v0 v1 v2 v3 v4 v5 v6 v7 v8 v9 v10 v11 v12 v13 v14 v15 : Value) :
    ((((((((((((((((w.setCell ⟨p, 0, none⟩ v0).setCell ⟨p, 1, none⟩ v1).setCell ⟨p, 2, none⟩ v2).setCell ⟨p, 3, none⟩ v3).setCell ⟨p, 4, none⟩ v4).setCell ⟨p, 5, none⟩ v5).setCell ⟨p, 6, none⟩ v6).setCell ⟨p, 7, none⟩ v7).setCell ⟨p, 8, none⟩ v8).setCell ⟨p, 9, none⟩ v9).setCell ⟨p, 10, none⟩ v10).setCell ⟨p, 11, none⟩ v11).setCell ⟨p, 12, none⟩ v12).setCell ⟨p, 13, none⟩ v13).setCell ⟨p, 14, none⟩ v14).setCell ⟨p, 15, none⟩ v15).heap[p]? = some (.cells #[v0, v1, v2, v3, v4, v5, v6, v7, v8, v9, v10, v11, v12, v13, v14, v15] T (0, 0)) := by
  have h0 : (w.setCell ⟨p, 0, none⟩ v0).heap[p]? = some (.cells #[v0, u1, u2, u3, u4, u5, u6, u7, u8, u9, u10, u11, u12, u13, u14, u15] T (0, 0)) := heap_set h
  have h1 : ((w.setCell ⟨p, 0, none⟩ v0).setCell ⟨p, 1, none⟩ v1).heap[p]? = some (.cells #[v0, v1, u2, u3, u4, u5, u6, u7, u8, u9, u10, u11, u12, u13, u14, u15] T (0, 0)) := heap_set h0
  have h2 : (((w.setCell ⟨p, 0, none⟩ v0).setCell ⟨p, 1, none⟩ v1).setCell ⟨p, 2, none⟩ v2).heap[p]? = some (.cells #[v0, v1, v2, u3, u4, u5, u6, u7, u8, u9, u10, u11, u12, u13, u14, u15] T (0, 0)) := heap_set h1
  have h3 : ((((w.setCell ⟨p, 0, none⟩ v0).setCell ⟨p, 1, none⟩ v1).setCell ⟨p, 2, none⟩ v2).setCell ⟨p, 3, none⟩ v3).heap[p]? = some (.cells #[v0, v1, v2, v3, u4, u5, u6, u7, u8, u9, u10, u11, u12, u13, u14, u15] T (0, 0)) := heap_set h2
  have h4 : (((((w.setCell ⟨p, 0, none⟩ v0).setCell ⟨p, 1, none⟩ v1).setCell ⟨p, 2, none⟩ v2).setCell ⟨p, 3, none⟩ v3).setCell ⟨p, 4, none⟩ v4).heap[p]? = some (.cells #[v0, v1, v2, v3, v4, u5, u6, u7, u8, u9, u10, u11, u12, u13, u14, u15] T (0, 0)) := heap_set h3
  have h5 : ((((((w.setCell ⟨p, 0, none⟩ v0).setCell ⟨p, 1, none⟩ v1).setCell ⟨p, 2, none⟩ v2).setCell ⟨p, 3, none⟩ v3).setCell ⟨p, 4, none⟩ v4).setCell ⟨p, 5, none⟩ v5).heap[p]? = some (.cells #[v0, v1, v2, v3, v4, v5, u6, u7, u8, u9, u10, u11, u12, u13, u14, u15] T (0, 0)) := heap_set h4
  have h6 : (((((((w.setCell ⟨p, 0, none⟩ v0).setCell ⟨p, 1, none⟩ v1).setCell ⟨p, 2, none⟩ v2).setCell ⟨p, 3, none⟩ v3).setCell ⟨p, 4, none⟩ v4).setCell ⟨p, 5, none⟩ v5).setCell ⟨p, 6, none⟩ v6).heap[p]? = some (.cells #[v0, v1, v2, v3, v4, v5, v6, u7, u8, u9, u10, u11, u12, u13, u14, u15] T (0, 0)) := heap_set h5
  have h7 : ((((((((w.setCell ⟨p, 0, none⟩ v0).setCell ⟨p, 1, none⟩ v1).setCell ⟨p, 2, none⟩ v2).setCell ⟨p, 3, none⟩ v3).setCell ⟨p, 4, none⟩ v4).setCell ⟨p, 5, none⟩ v5).setCell ⟨p, 6, none⟩ v6).setCell ⟨p, 7, none⟩ v7).heap[p]? = some (.cells #[v0, v1, v2, v3, v4, v5, v6, v7, u8, u9, u10, u11, u12, u13, u14, u15] T (0, 0)) := heap_set h6
  have h8 : (((((((((w.setCell ⟨p, 0, none⟩ v0).setCell ⟨p, 1, none⟩ v1).setCell ⟨p, 2, none⟩ v2).setCell ⟨p, 3, none⟩ v3).setCell ⟨p, 4, none⟩ v4).setCell ⟨p, 5, none⟩ v5).setCell ⟨p, 6, none⟩ v6).setCell ⟨p, 7, none⟩ v7).setCell ⟨p, 8, none⟩ v8).heap[p]? = some (.cells #[v0, v1, v2, v3, v4, v5, v6, v7, v8, u9, u10, u11, u12, u13, u14, u15] T (0, 0)) := heap_set h7
  have h9 : ((((((((((w.setCell ⟨p, 0, none⟩ v0).setCell ⟨p, 1, none⟩ v1).setCell ⟨p, 2, none⟩ v2).setCell ⟨p, 3, none⟩ v3).setCell ⟨p, 4, none⟩ v4).setCell ⟨p, 5, none⟩ v5).setCell ⟨p, 6, none⟩ v6).setCell ⟨p, 7, none⟩ v7).setCell ⟨p, 8, none⟩ v8).setCell ⟨p, 9, none⟩ v9).heap[p]? = some (.cells #[v0, v1, v2, v3, v4, v5, v6, v7, v8, v9, u10, u11, u12, u13, u14, u15] T (0, 0)) := heap_set h8
  have h10 : (((((((((((w.setCell ⟨p, 0, none⟩ v0).setCell ⟨p, 1, none⟩ v1).setCell ⟨p, 2, none⟩ v2).setCell ⟨p, 3, none⟩ v3).setCell ⟨p, 4, none⟩ v4).setCell ⟨p, 5, none⟩ v5).setCell ⟨p, 6, none⟩ v6).setCell ⟨p, 7, none⟩ v7).setCell ⟨p, 8, none⟩ v8).setCell ⟨p, 9, none⟩ v9).setCell ⟨p, 10, none⟩ v10).heap[p]? = some (.cells #[v0, v1, v2, v3, v4, v5, v6, v7, v8, v9, v10, u11, u12, u13, u14, u15] T (0, 0)) := heap_set h9
  have h11 : ((((((((((((w.setCell ⟨p, 0, none⟩ v0).setCell ⟨p, 1, none⟩ v1).setCell ⟨p, 2, none⟩ v2).setCell ⟨p, 3, none⟩ v3).setCell ⟨p, 4, none⟩ v4).setCell ⟨p, 5, none⟩ v5).setCell ⟨p, 6, none⟩ v6).setCell ⟨p, 7, none⟩ v7).setCell ⟨p, 8, none⟩ v8).setCell ⟨p, 9, none⟩ v9).setCell ⟨p, 10, none⟩ v10).setCell ⟨p, 11, none⟩ v11).heap[p]? = some (.cells #[v0, v1, v2, v3, v4, v5, v6, v7, v8, v9, v10, v11, u12, u13, u14, u15] T (0, 0)) := heap_set h10
  have h12 : (((((((((((((w.setCell ⟨p, 0, none⟩ v0).setCell ⟨p, 1, none⟩ v1).setCell ⟨p, 2, none⟩ v2).setCell ⟨p, 3, none⟩ v3).setCell ⟨p, 4, none⟩ v4).setCell ⟨p, 5, none⟩ v5).setCell ⟨p, 6, none⟩ v6).setCell ⟨p, 7, none⟩ v7).setCell ⟨p, 8, none⟩ v8).setCell ⟨p, 9, none⟩ v9).setCell ⟨p, 10, none⟩ v10).setCell ⟨p, 11, none⟩ v11).setCell ⟨p, 12, none⟩ v12).heap[p]? = some (.cells #[v0, v1, v2, v3, v4, v5, v6, v7, v8, v9, v10, v11, v12, u13, u14, u15] T (0, 0)) := heap_set h11
  have h13 : ((((((((((((((w.setCell ⟨p, 0, none⟩ v0).setCell ⟨p, 1, none⟩ v1).setCell ⟨p, 2, none⟩ v2).setCell ⟨p, 3, none⟩ v3).setCell ⟨p, 4, none⟩ v4).setCell ⟨p, 5, none⟩ v5).setCell ⟨p, 6, none⟩ v6).setCell ⟨p, 7, none⟩ v7).setCell ⟨p, 8, none⟩ v8).setCell ⟨p, 9, none⟩ v9).setCell ⟨p, 10, none⟩ v10).setCell ⟨p, 11, none⟩ v11).setCell ⟨p, 12, none⟩ v12).setCell ⟨p, 13, none⟩ v13).heap[p]? = some (.cells #[v0, v1, v2, v3, v4, v5, v6, v7, v8, v9, v10, v11, v12, v13, u14, u15] T (0, 0)) := heap_set h12
  have h14 : (((((((((((((((w.setCell ⟨p, 0, none⟩ v0).setCell ⟨p, 1, none⟩ v1).setCell ⟨p, 2, none⟩ v2).setCell ⟨p, 3, none⟩ v3).setCell ⟨p, 4, none⟩ v4).setCell ⟨p, 5, none⟩ v5).setCell ⟨p, 6, none⟩ v6).setCell ⟨p, 7, none⟩ v7).setCell ⟨p, 8, none⟩ v8).setCell ⟨p, 9, none⟩ v9).setCell ⟨p, 10, none⟩ v10).setCell ⟨p, 11, none⟩ v11).setCell ⟨p, 12, none⟩ v12).setCell ⟨p, 13, none⟩ v13).setCell ⟨p, 14, none⟩ v14).heap[p]? = some (.cells #[v0, v1, v2, v3, v4, v5, v6, v7, v8, v9, v10, v11, v12, v13, v14, u15] T (0, 0)) := heap_set h13
  have h15 : ((((((((((((((((w.setCell ⟨p, 0, none⟩ v0).setCell ⟨p, 1, none⟩ v1).setCell ⟨p, 2, none⟩ v2).setCell ⟨p, 3, none⟩ v3).setCell ⟨p, 4, none⟩ v4).setCell ⟨p, 5, none⟩ v5).setCell ⟨p, 6, none⟩ v6).setCell ⟨p, 7, none⟩ v7).setCell ⟨p, 8, none⟩ v8).setCell ⟨p, 9, none⟩ v9).setCell ⟨p, 10, none⟩ v10).setCell ⟨p, 11, none⟩ v11).setCell ⟨p, 12, none⟩ v12).setCell ⟨p, 13, none⟩ v13).setCell ⟨p, 14, none⟩ v14).setCell ⟨p, 15, none⟩ v15).heap[p]? = some (.cells #[v0, v1, v2, v3, v4, v5, v6, v7, v8, v9, v10, v11, v12, v13, v14, v15] T (0, 0)) := heap_set h14
  exact h15
theorem ch16 {S : Nat → Prop} {y w : World} {p : Nat} (h : Ch S y w) (hp : S p) (v0 v1 v2 v3 v4 v5 v6 v7 v8 v9 v10 v11 v12 v13 v14 v15 : Value) : Ch S y ((((((((((((((((w.setCell ⟨p, 0, none⟩ v0).setCell ⟨p, 1, none⟩ v1).setCell ⟨p, 2, none⟩ v2).setCell ⟨p, 3, none⟩ v3).setCell ⟨p, 4, none⟩ v4).setCell ⟨p, 5, none⟩ v5).setCell ⟨p, 6, none⟩ v6).setCell ⟨p, 7, none⟩ v7).setCell ⟨p, 8, none⟩ v8).setCell ⟨p, 9, none⟩ v9).setCell ⟨p, 10, none⟩ v10).setCell ⟨p, 11, none⟩ v11).setCell ⟨p, 12, none⟩ v12).setCell ⟨p, 13, none⟩ v13).setCell ⟨p, 14, none⟩ v14).setCell ⟨p, 15, none⟩ v15) :=
  ((((((((((((((((((((((((((((((((h).setCell _ _ (fun _ => hp))).setCell _ _ (fun _ => hp))).setCell _ _ (fun _ => hp))).setCell _ _ (fun _ => hp))).setCell _ _ (fun _ => hp))).setCell _ _ (fun _ => hp))).setCell _ _ (fun _ => hp))).setCell _ _ (fun _ => hp))).setCell _ _ (fun _ => hp))).setCell _ _ (fun _ => hp))).setCell _ _ (fun _ => hp))).setCell _ _ (fun _ => hp))).setCell _ _ (fun _ => hp))).setCell _ _ (fun _ => hp))).setCell _ _ (fun _ => hp))).setCell _ _ (fun _ => hp))
set_option maxHeartbeats 4000000 in
set_option maxRecDepth 40000 in
theorem forget_any (p : Nat) (ns : List Nt) (below : Int) (w : World) (h : TA w p ns) :
    Calls Try.prog 35 #[.pointer (some ⟨p, 0, none⟩), .int .i64 below] w fun e w' => e = .returned (.tuple #[]) ∧ Ch (fun i => i = p) w w' ∧ TA w' p (fg below ns) := by
  have hlen := h.len
  have hp := h.lt
  obtain ⟨W, hW⟩ : ∃ W, w.alloc (.cells #[.int .i64 0, .int .i64 0, .int .i32 0, .int .i32 0, .int .i64 0, .int .i32 0, .int .i32 0, .int .i64 0, .int .i32 0, .int .i32 0, .int .i64 0, .int .i32 0, .int .i32 0, .int .i64 0, .int .i32 0, .int .i32 0] 71) = W := ⟨_, rfl⟩
  have hT0 : TA W w.heap.size [] := by rw [← hW]; exact ta_new w
  have hb0 : Below w.heap.size w W := by rw [← hW]; exact (Below.refl _ w).alloc (Nat.le_refl _) _
  have HA := Hid.mk (all_any p ns W (h.at (hb0.block p hp)))
  have HT := Hid.mk h
  have HT0 := Hid.mk hT0
  have HB0 := Hid.mk hb0
  clear h hT0 hb0
  go_enter Try.func35, Try.ntmps35
  go_wp2_with (go_at_call 46; refine HA.out.mono ?_; rintro e w1 ⟨rfl, rfl⟩)
  clear HA hW
  go_loopg [10] ns.length (fun k i wr => ∃ j : Nat, j + k = ns.length ∧ i = .int .i64 j ∧ Hid (TA wr w.heap.size (fg below (ns.take j))) ∧ Hid (Below w.heap.size w wr))
  case atStart => exact ⟨0, by omega, rfl, HT0.out.at rfl, HB0.out.drew⟩
  case round =>
    clear HT0 HB0
    obtain ⟨j, hk, rfl, HQ, HB⟩ := hrel
    by_cases hlt : j < ns.length
    · obtain ⟨k, rfl⟩ : ∃ k, gk = k + 1 := ⟨gk - 1, by omega⟩
      obtain ⟨k1, k2, k3⟩ := (HT.out.at (HB.out.block p hp)).cells hlt
      have HN := Hid.mk (take_next ns nt0 hlt)
      generalize ns.getD j nt0 = x at *
      have b1 : (0 : Int) ≤ (j : Int) := by omega
      have b2 : (j : Int) < (ns.length : Int) := by omega
      have hs := HB.out.size
      have HF := Hid.mk (fg_snoc below (ns.take j) x)
      obtain ⟨V, hV⟩ : ∃ V, wr.alloc (.cells #[.int .i64 x.b, .int .i32 x.c, .int .i32 x.s] 68) = V := ⟨_, rfl⟩
      have hBV : Below w.heap.size w V := by rw [← hV]; exact HB.out.alloc hs _
      have hQV : TA V w.heap.size (fg below (ns.take j)) := by rw [← hV]; exact HQ.out.at (Below.heap_alloc _ _ _ HQ.out.lt)
      have hNV : V.heap[wr.heap.size]? = some (.cells #[.int .i64 x.b, .int .i32 x.c, .int .i32 x.s] 68 (0, 0)) := by rw [← hV]; exact heap_new _ _
      have x0 : V.cell? ⟨wr.heap.size, 0, none⟩ = some (.int .i64 x.b) := (cell_of hNV).trans rfl
      have x1 : V.cell? ⟨wr.heap.size, 1, none⟩ = some (.int .i32 x.c) := (cell_of hNV).trans rfl
      have x2 : V.cell? ⟨wr.heap.size, 2, none⟩ = some (.int .i32 x.s) := (cell_of hNV).trans rfl
      have HBV := Hid.mk hBV
      have HQV := Hid.mk hQV
      clear hBV hQV hNV
      by_cases hx : below ≤ x.b
      · rw [if_pos hx] at HF
        have HAdd : Hid (Calls Try.prog 47 #[.pointer (some ⟨w.heap.size, 0, none⟩), .agg #[.int .i64 x.b, .int .i32 x.c, .int .i32 x.s]] V fun e w' => e = .returned (.tuple #[]) ∧ TA w' w.heap.size (fg below (ns.take (j + 1))) ∧ Below w.heap.size w w') := by
          refine (add_any w.heap.size _ x V HQV.out).mono ?_
          rintro e w' ⟨rfl, hc, ht⟩
          refine ⟨rfl, ?_, HBV.out.trans (hc.below HBV.out.size (fun i hi e => by have e' : i = w.heap.size := e; omega))⟩
          rw [HN.out, HF.out]
          rw [kp_id] at ht
          · exact ht
          · rw [List.length_append]
            have := fg_len below (ns.take j)
            rw [List.length_take] at this
            simp
            omega
        have HK := Hid.mk hk
        clear hk
        go_wp2_with (go_at_call 47; with_reducible refine HAdd.out.mono ?_; rintro e w' ⟨rfl, h1, h2⟩; have H1 := Hid.mk h1; have H2 := Hid.mk h2; clear h1 h2)
        go_roundg k
        case measure => omega
        case rel => exact ⟨j + 1, by have := HK.out; omega, by go_num, H1, H2⟩
      · rw [if_neg hx] at HF
        have HK := Hid.mk hk
        clear hk
        go_wp2_with fail
        go_roundg k
        case measure => omega
        case rel => exact ⟨j + 1, by have := HK.out; omega, by go_num, by show TA _ _ _; rw [HN.out, HF.out]; exact HQV.out, HBV.out⟩
    · have e : ns.take j = ns := List.take_of_length_le (by omega)
      rw [e] at HQ
      obtain ⟨a0, a1, a2, a3, a4, g1, g2, hh⟩ := HQ.out
      obtain ⟨d0, d1, d2, d3, d4, d5, d6, d7, d8, d9, d10, d11, d12, d13, d14, d15⟩ := cells16 hh
      obtain ⟨b0, b1, b2, b3, b4, f1, f2, hp0⟩ := HT.out.at (HB.out.block p hp)
      have fz : ∀ i, wr.frozen? ⟨p, i, none⟩ = false := fun i => froz_of hp0
      obtain ⟨c0, c1, c2, c3, c4, c5, c6, c7, c8, c9, c10, c11, c12, c13, c14, c15⟩ := cells16 hp0
      have HP := Hid.mk hp0
      have HG := Hid.mk (And.intro g1 g2)
      have hlt' : ¬ (j : Int) < (ns.length : Int) := by omega
      obtain ⟨NL, hNL⟩ : ∃ NL, (fg below ns).length = NL := ⟨_, rfl⟩
      rw [hNL] at HG d0
      have HL := Hid.mk hNL
      clear hNL
      clear hh hp0 g1 g2 f1 f2 e hlt hk
      go_wp2
      go_end0
      refine ⟨rfl, ch16 (S := fun i => i = p) (Ch.of_below HB.out) rfl _ _ _ _ _ _ _ _ _ _ _ _ _ _ _ _, a0, a1, a2, a3, a4, ?_, ?_, ?_⟩
      · rw [HL.out]; exact HG.out.1
      · rw [HL.out]; exact HG.out.2
      · rw [HL.out]
        exact put16 HP.out _ _ _ _ _ _ _ _ _ _ _ _ _ _ _ _
end Go.Proofs.Ytolobmhbmajolaa
