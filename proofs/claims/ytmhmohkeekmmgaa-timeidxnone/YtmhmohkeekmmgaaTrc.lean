/- The document's index: Find. -/
import Derived.Test.YtmhmohkeekmmgaaTrb
namespace Go.Proofs.Ytmhmohkeekmmgaa
open Go.RowKit
theorem cnt_all {l : List En} (h : Ord l) {t : Int} {j : Nat} (h1 : cnt l t ≤ j) (h2 : j < l.length) : t ≤ (l.getD j en0).k := by
  have h3 : ∀ {l : List En} {t : Int}, cnt l t < l.length → t ≤ (l.getD (cnt l t) en0).k := by
    intro l t
    induction l with
    | nil => intro h; simp at h
    | cons e r ih =>
      intro h
      by_cases he : e.k < t
      · have e1 : cnt (e :: r) t = cnt r t + 1 := by unfold cnt; rw [List.takeWhile_cons, if_pos (decide_eq_true he), List.length_cons]
        rw [e1] at h ⊢
        exact ih (by simp at h; omega)
      · have e1 : cnt (e :: r) t = 0 := by unfold cnt; rw [List.takeWhile_cons, if_neg (by simp [he])]; rfl
        rw [e1]
        show t ≤ e.k
        omega
  exact Int.le_trans (h3 (by omega)) (h.le h1 h2)
theorem cnt_below : ∀ {l : List En} {t : Int} {j : Nat}, j < cnt l t → (l.getD j en0).k < t
  | [], t, j, h => by simp [cnt] at h
  | e :: r, t, j, h => by
    unfold cnt at h
    rw [List.takeWhile_cons] at h
    by_cases he : e.k < t
    · rw [if_pos (decide_eq_true he), List.length_cons] at h
      cases j with
      | zero => exact he
      | succ j => exact cnt_below (l := r) (j := j) (by unfold cnt; omega)
    · rw [if_neg (by simp [he])] at h; simp at h
set_option maxRecDepth 20000 in
set_option maxHeartbeats 2000000 in
theorem rfind_any (x : Nat) (t : Int) (v : Value) (l : List En) (w : World) (h : Ix 47 w x v l) (hO : Ord l) (hn : l.length ≤ 8796093022208) : Calls Try.prog 33 #[.pointer (some ⟨x, 0, none⟩), .int .i64 t] w fun e w' => e = .returned (.tuple #[enV (atE l ((cnt l t : Int) - 1)).1, .bool (atE l ((cnt l t : Int) - 1)).2]) ∧ Below w.heap.size w w' := by
  have HX := hid h
  have HO := hid hO
  obtain ⟨N, a, cap, hN, rfl, hens⟩ := h.row.ensN
  have HEN := hid hens
  have hlx := lt_of_heap h.blk
  have HN := hid hN
  have HR : Hid (∀ wx, Below w.heap.size w wx → wx.cell? ⟨x, 0, none⟩ = some (.slice a N cap)) := fun wx hx => (HX.out.below hx).c0
  rw [← hN] at hn
  clear h hO hN hens
  obtain ⟨C, hC⟩ : ∃ C, C = cnt l t := ⟨_, rfl⟩
  have HClt : Hid (∀ q, q < C → (l.getD q en0).k < t) := fun q hq => cnt_below (by rw [← hC]; exact hq)
  have HCge : Hid (∀ q, C ≤ q → q < N → t ≤ (l.getD q en0).k) := fun q h1 h2 => cnt_all HO.out (by rw [← hC]; exact h1) (by rw [← HN.out]; exact h2)
  have hCN : C ≤ N := by rw [hC, HN.out]; exact cnt_le l t
  rw [← hC]
  clear hC HO
  have HAt : Hid (∀ q, q < N → atE l (((q + 1 : Nat) : Int) - 1) = (l.getD q en0, true)) := fun q hq => by
    unfold atE
    rw [if_pos (by rw [← HN.out]; omega)]
    congr 2
    omega
  have HA0 : Hid (atE l (((0 : Nat) : Int) - 1) = (en0, false)) := if_neg (by omega)
  have HS0 : Hid (((w.alloc (.cells #[.int .i64 0, .int .i64 0] 29)).alloc (.cells #[.int .i64 0, .int .i64 0] 29)).heap[w.heap.size]? = some (.cells #[.int .i64 0, .int .i64 0] 29 (0, 0))) := heap_alloc_at (heap_new _ _)
  have HS1 : Hid (((w.alloc (.cells #[.int .i64 0, .int .i64 0] 29)).alloc (.cells #[.int .i64 0, .int .i64 0] 29)).heap[w.heap.size + 1]? = some (.cells #[.int .i64 0, .int .i64 0] 29 (0, 0))) := by
    have := heap_new (w.alloc (.cells #[.int .i64 0, .int .i64 0] 29)) (.cells #[.int .i64 0, .int .i64 0] 29 (0, 0))
    refine hid ?_
    simpa using this
  have HS2 : Hid (Below w.heap.size w ((w.alloc (.cells #[.int .i64 0, .int .i64 0] 29)).alloc (.cells #[.int .i64 0, .int .i64 0] 29))) := ((Below.refl _ _).alloc (Nat.le_refl _) _).alloc (by simp) _
  go_enter Try.func33, Try.ntmps33
  go_wp2_with fail
  generalize (w.alloc (.cells #[.int .i64 0, .int .i64 0] 29)).alloc (.cells #[.int .i64 0, .int .i64 0] 29) = ws at *
  go_loopg [7, 8] N (fun k vo vi wr => ∃ (j : Nat) (ok oa : Int) (b : Bool), j + k = N ∧ vi = .int .i64 j ∧ vo = .bool b ∧ Hid (atE l (((min j C : Nat) : Int) - 1) = (⟨ok, oa⟩, b)) ∧ Hid (wr.heap[w.heap.size]? = some (.cells #[.int .i64 0, .int .i64 0] 29 (0, 0))) ∧ Hid (wr.heap[w.heap.size + 1]? = some (.cells #[.int .i64 ok, .int .i64 oa] 29 (0, 0))) ∧ Hid (Below w.heap.size w wr))
  case atStart => exact ⟨0, 0, 0, false, by omega, rfl, rfl, by rw [Nat.zero_min]; exact HA0.out, HS0.out, HS1.out, HS2.out⟩
  case round =>
    clear HS0 HS1 HS2
    obtain ⟨j, ok, oa, b, hj, rfl, rfl, HA, HR0, HR1, HB⟩ := hrel
    have r0 := HR.out _ HB.out
    obtain ⟨z1, z2, z3, z4⟩ := e4 HR1.out
    by_cases hlt : j < N
    · obtain ⟨k', rfl⟩ : ∃ k', gk = k' + 1 := ⟨gk - 1, by omega⟩
      have hltI : (j : Int) < N := by omega
      rcases HEN.out with e | ⟨b1, off, rfl, hb1, hc⟩
      · rw [HN.out, e] at hlt; cases hlt
      obtain ⟨p0, p1⟩ := hc j (by rw [← HN.out]; exact hlt)
      have q0 := (HB.out.cell (p := ⟨b1, off + j * 2, none⟩) hb1).trans p0
      have q1 := (HB.out.cell (p := ⟨b1, off + j * 2 + 1, none⟩) hb1).trans p1
      have HAj := hid (HAt.out j hlt)
      have HJ := hid hj
      by_cases hjC : j < C
      · have hkl := HClt.out j hjC
        have hm1 : min (j + 1) C = j + 1 := by omega
        generalize l.getD j en0 = s at *
        obtain ⟨sk, sa⟩ := s
        simp only at q0 q1 hkl
        have hd : decide (sk < t) = true := decide_eq_true hkl
        have HM := hid hm1
        clear hc p0 p1 hb1 hj hm1
        go_wp2_with fail
        go_roundg k'
        case measure => omega
        case rel => exact ⟨j + 1, sk, sa, true, by have := HJ.out; omega, congrArg (Value.int .i64) (by omega), rfl, by rw [HM.out]; exact HAj.out, heap_set_far (heap_set_far HR0.out (by show w.heap.size ≠ w.heap.size + 1; omega)) (by show w.heap.size ≠ w.heap.size + 1; omega), heap_set (i := 1) (v := .int .i64 sa) (heap_set (i := 0) (v := .int .i64 sk) HR1.out), (HB.out.setCell (by simp) _).setCell (by simp) _⟩
      · have hkl := HCge.out j (by omega) hlt
        have hm1 : min (j + 1) C = min j C := by omega
        generalize l.getD j en0 = s at *
        obtain ⟨sk, sa⟩ := s
        simp only at q0 q1 hkl
        have hkl' : ¬ sk < t := by omega
        have hd : decide (sk < t) = false := decide_eq_false hkl'
        have HM := hid hm1
        clear hc p0 p1 hb1 hj hm1
        go_wp2_with fail
        go_roundg k'
        case measure => omega
        case rel => exact ⟨j + 1, ok, oa, b, by have := HJ.out; omega, congrArg (Value.int .i64) (by omega), rfl, by rw [HM.out]; exact HA.out, HR0.out, HR1.out, HB.out⟩
    · have hltI : ¬ (j : Int) < N := by omega
      have hm1 : min j C = C := by omega
      rw [hm1] at HA
      obtain ⟨y1, y2, y3, y4⟩ := e4 HR0.out
      clear hm1
      go_wp2_with fail
      refine bodyPost_ret (v := .tuple #[.agg #[.int .i64 ok, .int .i64 oa], .bool b]) (by simp [results, Try.results33, go_sem, y1, y2]) rfl ⟨by rw [HA.out]; rfl, ?_⟩
      exact (HB.out.setCell (by simp) _).setCell (by simp) _
end Go.Proofs.Ytmhmohkeekmmgaa
