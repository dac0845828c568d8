/- Texts of the proof, put together: Gb1. -/
import Derived.Test.YtlbkkeoffeohnabGK
namespace Go.Proofs.Ytlbkkeoffeohnab
open Go.RowKit
set_option maxRecDepth 20000 in
theorem waiting_any (g jb : Nat) (s : Gs) (a : Option Addr) (n cap : Nat) (w : World) (h : Gcell w g jb s (.slice a n cap)) : Calls Try.prog 8 #[.pointer (some ⟨g, 0, none⟩)] w fun e w' => e = .returned (.tuple #[.int .i64 n, .int .i64 s.k]) ∧ ∃ k, w' = w.drewN k := by
  obtain ⟨c0, c1, c2, c3, c4, c5, c6⟩ := cells7 h
  have hlt := lt_of_heap h
  clear h
  go_enter Try.func8, Try.ntmps8
  go_wp2_with fail
  go_quiet (fail)
  go_wp2_with fail
  go_ret2
  exact ⟨rfl, _, rfl⟩
set_option maxRecDepth 20000 in
theorem seq_any (g jb : Nat) (s : Gs) (v : Value) (w : World) (h : Gcell w g jb s v) : Calls Try.prog 9 #[.pointer (some ⟨g, 0, none⟩)] w fun e w' => e = .returned (.int .i32 s.q) ∧ w' = w := by
  have hnil : ∀ w : World, (binOp .eql 25 (.slice (some ⟨jb, 0, none⟩) 5 5) (.slice none 0 0)).run Try.prog w = .ok (.bool false) w := fun _ => rfl
  obtain ⟨c0, c1, c2, c3, c4, c5, c6⟩ := cells7 h
  have hlt := lt_of_heap h
  clear h
  go_enter Try.func9, Try.ntmps9
  go_wp2_with fail
  go_ret
  exact ⟨rfl, rfl⟩
theorem made_end {x : World} {p : Nat} {T : TypeId} {z0 z1 z2 z3 z4 z5 z6 v0 v1 v2 v3 v4 v5 v6 : Value} (h : x.heap[p]? = some (.cells #[z0, z1, z2, z3, z4, z5, z6] T (0, 0))) :
    let y := ((((((x.setCell ⟨p, 0, none⟩ v0).setCell ⟨p, 1, none⟩ v1).setCell ⟨p, 2, none⟩ v2).setCell ⟨p, 3, none⟩ v3).setCell ⟨p, 4, none⟩ v4).setCell ⟨p, 5, none⟩ v5).setCell ⟨p, 6, none⟩ v6
    (y.cell? ⟨p, 0, none⟩ = some v0 ∧ y.cell? ⟨p, 1, none⟩ = some v1 ∧ y.cell? ⟨p, 2, none⟩ = some v2 ∧ y.cell? ⟨p, 3, none⟩ = some v3 ∧ y.cell? ⟨p, 4, none⟩ = some v4 ∧ y.cell? ⟨p, 5, none⟩ = some v5 ∧ y.cell? ⟨p, 6, none⟩ = some v6) ∧ Ch (fun i => i = p) x y := by
  intro y
  have h1 : (x.setCell ⟨p, 0, none⟩ v0).heap[p]? = some (.cells #[v0, z1, z2, z3, z4, z5, z6] T (0, 0)) := heap_set h
  have h2 : ((x.setCell ⟨p, 0, none⟩ v0).setCell ⟨p, 1, none⟩ v1).heap[p]? = some (.cells #[v0, v1, z2, z3, z4, z5, z6] T (0, 0)) := heap_set h1
  have h3 : (((x.setCell ⟨p, 0, none⟩ v0).setCell ⟨p, 1, none⟩ v1).setCell ⟨p, 2, none⟩ v2).heap[p]? = some (.cells #[v0, v1, v2, z3, z4, z5, z6] T (0, 0)) := heap_set h2
  have h4 : ((((x.setCell ⟨p, 0, none⟩ v0).setCell ⟨p, 1, none⟩ v1).setCell ⟨p, 2, none⟩ v2).setCell ⟨p, 3, none⟩ v3).heap[p]? = some (.cells #[v0, v1, v2, v3, z4, z5, z6] T (0, 0)) := heap_set h3
  have h5 : (((((x.setCell ⟨p, 0, none⟩ v0).setCell ⟨p, 1, none⟩ v1).setCell ⟨p, 2, none⟩ v2).setCell ⟨p, 3, none⟩ v3).setCell ⟨p, 4, none⟩ v4).heap[p]? = some (.cells #[v0, v1, v2, v3, v4, z5, z6] T (0, 0)) := heap_set h4
  have h6 : ((((((x.setCell ⟨p, 0, none⟩ v0).setCell ⟨p, 1, none⟩ v1).setCell ⟨p, 2, none⟩ v2).setCell ⟨p, 3, none⟩ v3).setCell ⟨p, 4, none⟩ v4).setCell ⟨p, 5, none⟩ v5).heap[p]? = some (.cells #[v0, v1, v2, v3, v4, v5, z6] T (0, 0)) := heap_set h5
  have h7 : (((((((x.setCell ⟨p, 0, none⟩ v0).setCell ⟨p, 1, none⟩ v1).setCell ⟨p, 2, none⟩ v2).setCell ⟨p, 3, none⟩ v3).setCell ⟨p, 4, none⟩ v4).setCell ⟨p, 5, none⟩ v5).setCell ⟨p, 6, none⟩ v6).heap[p]? = some (.cells #[v0, v1, v2, v3, v4, v5, v6] T (0, 0)) := heap_set h6
  have k1 := (Ch.refl (fun i => i = p) x).setCell ⟨p, 0, none⟩ v0 (fun _ => rfl)
  have k2 := k1.setCell ⟨p, 1, none⟩ v1 (fun _ => rfl)
  have k3 := k2.setCell ⟨p, 2, none⟩ v2 (fun _ => rfl)
  have k4 := k3.setCell ⟨p, 3, none⟩ v3 (fun _ => rfl)
  have k5 := k4.setCell ⟨p, 4, none⟩ v4 (fun _ => rfl)
  have k6 := k5.setCell ⟨p, 5, none⟩ v5 (fun _ => rfl)
  have k7 := k6.setCell ⟨p, 6, none⟩ v6 (fun _ => rfl)
  exact ⟨cells7 h7, k7⟩
theorem two_new {w : World} {c d : Array Value} {T U : TypeId} : Below w.heap.size w ((w.alloc (.cells c T)).alloc (.cells d U)).drew ∧ ((w.alloc (.cells c T)).alloc (.cells d U)).drew.heap[w.heap.size]? = some (.cells c T (0, 0)) ∧ ((w.alloc (.cells c T)).alloc (.cells d U)).drew.heap[w.heap.size + 1]? = some (.cells d U (0, 0)) :=
  ⟨(((Below.refl _ w).alloc (Nat.le_refl _) _).alloc (by simp) _).drew, heap_alloc_at (heap_new _ _), heap_new' _ _ _ (by simp)⟩
theorem made_far {x : World} {p q : Nat} {o : Obj} {v0 v1 v2 v3 v4 v5 v6 : Value} (h : x.heap[q]? = some o) (hne : q ≠ p) : (((((((x.setCell ⟨p, 0, none⟩ v0).setCell ⟨p, 1, none⟩ v1).setCell ⟨p, 2, none⟩ v2).setCell ⟨p, 3, none⟩ v3).setCell ⟨p, 4, none⟩ v4).setCell ⟨p, 5, none⟩ v5).setCell ⟨p, 6, none⟩ v6).heap[q]? = some o := by
  have h1 : (x.setCell ⟨p, 0, none⟩ v0).heap[q]? = some o := heap_set_far h hne
  have h2 : ((x.setCell ⟨p, 0, none⟩ v0).setCell ⟨p, 1, none⟩ v1).heap[q]? = some o := heap_set_far h1 hne
  have h3 : (((x.setCell ⟨p, 0, none⟩ v0).setCell ⟨p, 1, none⟩ v1).setCell ⟨p, 2, none⟩ v2).heap[q]? = some o := heap_set_far h2 hne
  have h4 : ((((x.setCell ⟨p, 0, none⟩ v0).setCell ⟨p, 1, none⟩ v1).setCell ⟨p, 2, none⟩ v2).setCell ⟨p, 3, none⟩ v3).heap[q]? = some o := heap_set_far h3 hne
  have h5 : (((((x.setCell ⟨p, 0, none⟩ v0).setCell ⟨p, 1, none⟩ v1).setCell ⟨p, 2, none⟩ v2).setCell ⟨p, 3, none⟩ v3).setCell ⟨p, 4, none⟩ v4).heap[q]? = some o := heap_set_far h4 hne
  have h6 : ((((((x.setCell ⟨p, 0, none⟩ v0).setCell ⟨p, 1, none⟩ v1).setCell ⟨p, 2, none⟩ v2).setCell ⟨p, 3, none⟩ v3).setCell ⟨p, 4, none⟩ v4).setCell ⟨p, 5, none⟩ v5).heap[q]? = some o := heap_set_far h5 hne
  have h7 : (((((((x.setCell ⟨p, 0, none⟩ v0).setCell ⟨p, 1, none⟩ v1).setCell ⟨p, 2, none⟩ v2).setCell ⟨p, 3, none⟩ v3).setCell ⟨p, 4, none⟩ v4).setCell ⟨p, 5, none⟩ v5).setCell ⟨p, 6, none⟩ v6).heap[q]? = some o := heap_set_far h6 hne
  exact h7
theorem Cnd.ch {w w' : World} {jb bb : Nat} {b : Bnd} {T : Nat → Prop} (h : Cnd w jb bb b) (k : Ch T w w') (h1 : ¬ T bb) (h2 : ¬ T jb) : Cnd w' jb bb b :=
  ⟨(k.block bb (lt_of_heap h.box) h1).trans h.box, (k.block jb (lt_of_heap h.row) h2).trans h.row⟩
set_option maxRecDepth 20000 in
set_option maxHeartbeats 2000000 in
theorem made_any (b : Bnd) (w : World) : Calls Try.prog 13 #[bndV b] w fun e w' => (∃ jb bb, e = .returned (.agg #[.slice (some ⟨jb, 0, none⟩) 5 5, .int .i64 0, .bool b.pk, .int .i64 b.pr, .int .i32 b.sq, .slice none 0 0, .int .i64 0]) ∧ Cnd w' jb bb (cnt b) ∧ w.heap.size ≤ jb ∧ w.heap.size ≤ bb) ∧ Below w.heap.size w w' := by
  have HC : Hid (∀ x, Calls Try.prog 22 #[bndV b] x fun e w' => e = .returned (bndV (cnt b)) ∧ Below x.heap.size x w') := fun x => counted_any b x
  have HD : Hid (∀ x, Calls Try.prog 21 #[bndV (cnt b)] x fun e w' => e = .returned (.slice (some ⟨x.heap.size + 1, 0, none⟩) 5 5) ∧ Cnd w' (x.heap.size + 1) x.heap.size (cnt b) ∧ Below x.heap.size x w') := fun x => conditions_any (cnt b) x
  generalize cnt b = bc at *
  obtain ⟨R, P, F, sp, pk, pr, sq⟩ := b
  unfold bndV at *
  dsimp only at *
  obtain ⟨hB0, hX, hY⟩ := two_new (w := w) (c := #[.int .i64 R, .int .i64 P, .int .i64 F, .int .i64 sp, .bool pk, .int .i64 pr, .int .i32 sq]) (d := #[.slice none 0 0, .int .i64 0, .bool false, .int .i64 0, .int .i32 0, .slice none 0 0, .int .i64 0]) (T := 35) (U := 30)
  have HB0 := hid hB0
  have HX := hid hX
  have HY := hid hY
  clear hB0 hX hY
  go_enter Try.func13, Try.ntmps13
  go_wp2_with fail
  go_region_held3 (fun y => y.cell? ⟨w.heap.size, 0, none⟩ = some (.int .i64 R) ∧ y.cell? ⟨w.heap.size, 1, none⟩ = some (.int .i64 P) ∧ y.cell? ⟨w.heap.size, 2, none⟩ = some (.int .i64 F) ∧ y.cell? ⟨w.heap.size, 3, none⟩ = some (.int .i64 sp) ∧ y.cell? ⟨w.heap.size, 4, none⟩ = some (.bool pk) ∧ y.cell? ⟨w.heap.size, 5, none⟩ = some (.int .i64 pr) ∧ y.cell? ⟨w.heap.size, 6, none⟩ = some (.int .i32 sq)) (first | with_reducible exact cells7 HX.out | with_reducible exact cells7 X1.out | with_reducible exact cells7 X2.out | with_reducible exact cells7 (made_far X2.out (Nat.ne_of_lt (Nat.lt_succ_self _)))) (first | (go_at_call 22; refine (HC.out _).mono ?_; rintro e w1 ⟨rfl, hb1⟩; have X1 := hid ((hb1.block _ (lt_of_heap HX.out)).trans HX.out); have Y1 := hid ((hb1.block _ (lt_of_heap HY.out)).trans HY.out); have B1 := hid (HB0.out.trans (hb1.mono HB0.out.size)); obtain ⟨m0, m1, m2, m3, m4, m5, m6⟩ := cells7 X1.out; clear hb1) | (go_at_call 21; refine (HD.out _).mono ?_; rintro e w2 ⟨rfl, hc2, hb2⟩; have C2 := hid hc2; have X2 := hid ((hb2.block _ (lt_of_heap X1.out)).trans X1.out); have Y2 := hid ((hb2.block _ (lt_of_heap Y1.out)).trans Y1.out); have B2 := hid (B1.out.trans (hb2.mono B1.out.size)); obtain ⟨m0, m1, m2, m3, m4, m5, m6⟩ := cells7 X2.out; obtain ⟨n0, n1, n2, n3, n4, n5, n6⟩ := cells7 Y2.out; have fz := fun o => froz_of (i := o) Y2.out; clear hb2 hc2))
  go_wp2_with fail
  exact bodyPost_ret (v := .agg #[.slice (some ⟨w1.heap.size + 1, 0, none⟩) 5 5, .int .i64 0, .bool pk, .int .i64 pr, .int .i32 sq, .slice none 0 0, .int .i64 0]) (by obtain ⟨j0, j1, j2, j3, j4, j5, j6⟩ := (made_end (v0 := .slice (some ⟨w1.heap.size + 1, 0, none⟩) 5 5) (v1 := .int .i64 0) (v2 := .bool pk) (v3 := .int .i64 pr) (v4 := .int .i32 sq) (v5 := .slice none 0 0) (v6 := .int .i64 0) Y2.out).1; simp [results, Try.results13, go_sem, j0, j1, j2, j3, j4, j5, j6]) rfl (by
    have hk := (made_end (v0 := .slice (some ⟨w1.heap.size + 1, 0, none⟩) 5 5) (v1 := .int .i64 0) (v2 := .bool pk) (v3 := .int .i64 pr) (v4 := .int .i32 sq) (v5 := .slice none 0 0) (v6 := .int .i64 0) Y2.out).2
    have hl := lt_of_heap Y1.out
    have hs := B1.out.size
    exact ⟨⟨w1.heap.size + 1, w1.heap.size, rfl, C2.out.ch hk (by omega) (by omega), by omega, by omega⟩, B2.out.trans (hk.below B2.out.size (fun i hi => by omega))⟩)
/-- A new gatherer's state. -/
def Gs0 (b : Bnd) : Gs := ⟨cnt b, [], 0, b.sq⟩
set_option maxRecDepth 20000 in
theorem new_no (b : Bnd) (w : World) (h : sndG b.pr b.sq = false) : Calls Try.prog 5 #[bndV b] w fun e w' => e = .returned (.tuple #[.pointer none, .int .i64 1]) ∧ Below w.heap.size w w' := by
  have HS : Hid (∀ x, Calls Try.prog 12 #[.int .i64 b.pr, .int .i32 b.sq] x fun e w' => e = .returned (.bool false) ∧ w' = x) := fun x => by have := sender_any b.pr b.sq x; rw [h] at this; exact this
  obtain ⟨R, P, F, sp, pk, pr, sq⟩ := b
  unfold bndV
  clear h
  dsimp only at *
  go_enter Try.func5, Try.ntmps5
  go_wp2_with (go_at_call 12; refine (HS.out _).mono ?_; rintro e w1 ⟨rfl, rfl⟩)
  go_ret2
  exact ⟨rfl, (Below.refl _ w).alloc (Nat.le_refl _) _⟩
set_option maxRecDepth 20000 in
set_option maxHeartbeats 1000000 in
theorem new_yes (b : Bnd) (w : World) (h : sndG b.pr b.sq = true) : Calls Try.prog 5 #[bndV b] w fun e w' => ∃ g jb bb, e = .returned (.tuple #[.pointer (some ⟨g, 0, none⟩), .int .i64 0]) ∧ Gcell w' g jb (Gs0 b) (.slice none 0 0) ∧ Cnd w' jb bb (cnt b) ∧ w.heap.size ≤ g ∧ w.heap.size ≤ jb ∧ w.heap.size ≤ bb ∧ Below w.heap.size w w' := by
  have HS : Hid (∀ x, Calls Try.prog 12 #[.int .i64 b.pr, .int .i32 b.sq] x fun e w' => e = .returned (.bool true) ∧ w' = x) := fun x => by have := sender_any b.pr b.sq x; rw [h] at this; exact this
  have HM : Hid (∀ x, Calls Try.prog 13 #[bndV b] x fun e w' => (∃ jb bb, e = .returned (.agg #[.slice (some ⟨jb, 0, none⟩) 5 5, .int .i64 0, .bool b.pk, .int .i64 b.pr, .int .i32 b.sq, .slice none 0 0, .int .i64 0]) ∧ Cnd w' jb bb (cnt b) ∧ x.heap.size ≤ jb ∧ x.heap.size ≤ bb) ∧ Below x.heap.size x w') := fun x => made_any b x
  unfold Gcell Gs0
  dsimp only
  have e1 : (cnt b).pk = b.pk := rfl
  have e2 : (cnt b).pr = b.pr := rfl
  rw [e1, e2]
  clear e1 e2
  generalize cnt b = bc at *
  obtain ⟨R, P, F, sp, pk, pr, sq⟩ := b
  unfold bndV at *
  clear h
  dsimp only at *
  have HB0 : Hid (Below w.heap.size w (w.alloc (.cells #[.int .i64 R, .int .i64 P, .int .i64 F, .int .i64 sp, .bool pk, .int .i64 pr, .int .i32 sq] 35))) := (Below.refl _ w).alloc (Nat.le_refl _) _
  go_enter Try.func5, Try.ntmps5
  go_wp2_with (first | (go_at_call 12; refine (HS.out _).mono ?_; rintro e w1 ⟨rfl, rfl⟩) | (go_at_call 13; refine (HM.out _).mono ?_; rintro e w2 ⟨⟨jb, bb, rfl, hc, h1, h2⟩, hb⟩; have HC := hid hc; have HJ := hid (And.intro h1 h2); have HB := hid hb; clear hc h1 h2 hb))
  go_ret2
  have hs := HB0.out.size
  have hb := HB0.out.trans (HB.out.mono hs)
  refine ⟨_, jb, bb, rfl, heap_new _ _, HC.out.below ((Below.refl _ _).alloc (Nat.le_refl _) _), hb.size, Nat.le_trans hs HJ.out.1, Nat.le_trans hs HJ.out.2, hb.alloc hb.size _⟩
end Go.Proofs.Ytlbkkeoffeohnab
