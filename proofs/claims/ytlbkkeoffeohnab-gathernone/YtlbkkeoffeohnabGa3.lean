/- What the conditions say together; what a record offers. -/
import Derived.Test.YtlbkkeoffeohnabGa2
import Derived.Test.YtlbkkeoffeohnabRecL
namespace Go.Proofs.Ytlbkkeoffeohnab
open Go.RowKit
theorem alsz {w x : World} {o : Obj} (h : Below (w.heap.size + 1) (w.alloc o) x) : Below (w.alloc o).heap.size (w.alloc o) x := by rw [World.size_alloc]; exact h
theorem alsl {w x : World} {o : Obj} (h : Below (w.heap.size + 1) (w.alloc o) x) : w.heap.size + 1 ≤ x.heap.size := by have := h.size; rwa [World.size_alloc] at this
theorem cells5 {x : World} {P : Nat} {T : TypeId} {v0 v1 v2 v3 v4 : Value} (h : x.heap[P]? = some (.cells #[v0, v1, v2, v3, v4] T (0, 0))) : x.cell? ⟨P, 0, none⟩ = some v0 ∧ x.cell? ⟨P, 1, none⟩ = some v1 ∧ x.cell? ⟨P, 2, none⟩ = some v2 ∧ x.cell? ⟨P, 3, none⟩ = some v3 ∧ x.cell? ⟨P, 4, none⟩ = some v4 := ⟨(cell_of h).trans rfl, (cell_of h).trans rfl, (cell_of h).trans rfl, (cell_of h).trans rfl, (cell_of h).trans rfl⟩
/-- Does an offer meet all conditions? -/
def tkB (b : Bnd) (o : Ofr) : Bool := decide ((o.n : Int) < b.R) && (decide (dst o.t o.first ≤ b.sp) && (decide (o.e = 0) && (decide (o.body ≤ b.P) && decide (roomZ b.pk o.body ≤ b.F))))
set_option maxRecDepth 20000 in
set_option maxHeartbeats 1000000 in
theorem takes_0 (g jb bb : Nat) (b : Bnd) (o : Ofr) (w : World) (h : Cnd w jb bb b) (ok : BndOk b) (ho : OfrIn o) (hg : w.cell? ⟨g, 0, none⟩ = some (.slice (some ⟨jb, 0, none⟩) 5 5)) (h1 : ¬ ((o.n : Int) < b.R)) :
    Calls Try.prog 15 #[.pointer (some ⟨g, 0, none⟩), ofrV o] w fun e w' => e = .returned (.bool false) ∧ Below w.heap.size w w' := by
  have H1 : Hid (∀ x, Below (w.heap.size + 1) (w.alloc (.cells #[.int .i64 o.n, .int .i64 o.first, .int .i64 o.t, .int .i64 o.e, .int .i64 o.body] 57)) x → Calls Try.prog 27 #[ofrV o, .pointer (some ⟨bb, 0, none⟩)] x fun e w' => e = .returned (.bool false) ∧ Below (w.heap.size + 1) (w.alloc (.cells #[.int .i64 o.n, .int .i64 o.first, .int .i64 o.t, .int .i64 o.e, .int .i64 o.body] 57)) w') := fun x hx => (c1_any o b jb bb x (h.below (bel_al (alsz hx))) ok ho).mono fun e w' hh => ⟨hh.1.trans (by rw [decide_eq_false h1]), hx.trans (hh.2.mono (alsl hx))⟩
  have HK : Hid (∀ x, Below (w.heap.size + 1) (w.alloc (.cells #[.int .i64 o.n, .int .i64 o.first, .int .i64 o.t, .int .i64 o.e, .int .i64 o.body] 57)) x → Cnd x jb bb b) := fun x hx => h.below (bel_al (alsz hx))
  have HQ : Hid (∀ x, Below (w.heap.size + 1) (w.alloc (.cells #[.int .i64 o.n, .int .i64 o.first, .int .i64 o.t, .int .i64 o.e, .int .i64 o.body] 57)) x → x.heap[w.heap.size]? = some (.cells #[.int .i64 o.n, .int .i64 o.first, .int .i64 o.t, .int .i64 o.e, .int .i64 o.body] 57 (0, 0))) := fun x hx => (hx.block w.heap.size (Nat.lt_succ_self _)).trans (heap_new _ _)
  have hb0 : Below (w.heap.size + 1) (w.alloc (.cells #[.int .i64 o.n, .int .i64 o.first, .int .i64 o.t, .int .i64 o.e, .int .i64 o.body] 57)) (w.alloc (.cells #[.int .i64 o.n, .int .i64 o.first, .int .i64 o.t, .int .i64 o.e, .int .i64 o.body] 57)) := Below.refl _ _
  have HB0 := hid hb0
  obtain ⟨r0, r1, r2, r3, r4⟩ := (HK.out _ hb0).cells
  have hgl := World.block_lt_of_cell? _ _ hg
  clear h ok ho hb0 h1
  unfold ofrV at *
  go_enter Try.func15, Try.ntmps15
  go_wp2_with fail
  refine wp_loop_rounds 6 ?_
  rw [rounds_succ]
  go_wp2_with (go_at_call 27; refine (H1.out _ HB0.out).mono ?_; rintro e w1 ⟨rfl, hb⟩; have HB1 := hid hb; obtain ⟨r0, r1, r2, r3, r4⟩ := (HK.out _ hb).cells; obtain ⟨u0, u1, u2, u3, u4⟩ := cells5 (HQ.out _ hb); clear hb)
  go_ret
  exact ⟨rfl, bel_al (alsz HB1.out)⟩
set_option maxRecDepth 20000 in
set_option maxHeartbeats 1000000 in
theorem takes_1 (g jb bb : Nat) (b : Bnd) (o : Ofr) (w : World) (h : Cnd w jb bb b) (ok : BndOk b) (ho : OfrIn o) (hg : w.cell? ⟨g, 0, none⟩ = some (.slice (some ⟨jb, 0, none⟩) 5 5)) (h1 : ((o.n : Int) < b.R)) (h2 : ¬ (dst o.t o.first ≤ b.sp)) :
    Calls Try.prog 15 #[.pointer (some ⟨g, 0, none⟩), ofrV o] w fun e w' => e = .returned (.bool false) ∧ Below w.heap.size w w' := by
  have H1 : Hid (∀ x, Below (w.heap.size + 1) (w.alloc (.cells #[.int .i64 o.n, .int .i64 o.first, .int .i64 o.t, .int .i64 o.e, .int .i64 o.body] 57)) x → Calls Try.prog 27 #[ofrV o, .pointer (some ⟨bb, 0, none⟩)] x fun e w' => e = .returned (.bool true) ∧ Below (w.heap.size + 1) (w.alloc (.cells #[.int .i64 o.n, .int .i64 o.first, .int .i64 o.t, .int .i64 o.e, .int .i64 o.body] 57)) w') := fun x hx => (c1_any o b jb bb x (h.below (bel_al (alsz hx))) ok ho).mono fun e w' hh => ⟨hh.1.trans (by rw [decide_eq_true h1]), hx.trans (hh.2.mono (alsl hx))⟩
  have H2 : Hid (∀ x, Below (w.heap.size + 1) (w.alloc (.cells #[.int .i64 o.n, .int .i64 o.first, .int .i64 o.t, .int .i64 o.e, .int .i64 o.body] 57)) x → Calls Try.prog 28 #[ofrV o, .pointer (some ⟨bb, 0, none⟩)] x fun e w' => e = .returned (.bool false) ∧ Below (w.heap.size + 1) (w.alloc (.cells #[.int .i64 o.n, .int .i64 o.first, .int .i64 o.t, .int .i64 o.e, .int .i64 o.body] 57)) w') := fun x hx => (c2_any o b jb bb x (h.below (bel_al (alsz hx))) ok ho).mono fun e w' hh => ⟨hh.1.trans (by rw [decide_eq_false h2]), hx.trans (hh.2.mono (alsl hx))⟩
  have HK : Hid (∀ x, Below (w.heap.size + 1) (w.alloc (.cells #[.int .i64 o.n, .int .i64 o.first, .int .i64 o.t, .int .i64 o.e, .int .i64 o.body] 57)) x → Cnd x jb bb b) := fun x hx => h.below (bel_al (alsz hx))
  have HQ : Hid (∀ x, Below (w.heap.size + 1) (w.alloc (.cells #[.int .i64 o.n, .int .i64 o.first, .int .i64 o.t, .int .i64 o.e, .int .i64 o.body] 57)) x → x.heap[w.heap.size]? = some (.cells #[.int .i64 o.n, .int .i64 o.first, .int .i64 o.t, .int .i64 o.e, .int .i64 o.body] 57 (0, 0))) := fun x hx => (hx.block w.heap.size (Nat.lt_succ_self _)).trans (heap_new _ _)
  have hb0 : Below (w.heap.size + 1) (w.alloc (.cells #[.int .i64 o.n, .int .i64 o.first, .int .i64 o.t, .int .i64 o.e, .int .i64 o.body] 57)) (w.alloc (.cells #[.int .i64 o.n, .int .i64 o.first, .int .i64 o.t, .int .i64 o.e, .int .i64 o.body] 57)) := Below.refl _ _
  have HB0 := hid hb0
  obtain ⟨r0, r1, r2, r3, r4⟩ := (HK.out _ hb0).cells
  have hgl := World.block_lt_of_cell? _ _ hg
  clear h ok ho hb0 h1 h2
  unfold ofrV at *
  go_enter Try.func15, Try.ntmps15
  go_wp2_with fail
  refine wp_loop_rounds 6 ?_
  rw [rounds_succ]
  go_wp2_with (go_at_call 27; refine (H1.out _ HB0.out).mono ?_; rintro e w1 ⟨rfl, hb⟩; have HB1 := hid hb; obtain ⟨r0, r1, r2, r3, r4⟩ := (HK.out _ hb).cells; obtain ⟨u0, u1, u2, u3, u4⟩ := cells5 (HQ.out _ hb); clear hb)
  rw [rounds_succ]
  go_wp2_with (go_at_call 28; refine (H2.out _ HB1.out).mono ?_; rintro e w2 ⟨rfl, hb⟩; have HB2 := hid hb; obtain ⟨r0, r1, r2, r3, r4⟩ := (HK.out _ hb).cells; obtain ⟨u0, u1, u2, u3, u4⟩ := cells5 (HQ.out _ hb); clear hb)
  go_ret
  exact ⟨rfl, bel_al (alsz HB2.out)⟩
set_option maxRecDepth 20000 in
set_option maxHeartbeats 1000000 in
theorem takes_2 (g jb bb : Nat) (b : Bnd) (o : Ofr) (w : World) (h : Cnd w jb bb b) (ok : BndOk b) (ho : OfrIn o) (hg : w.cell? ⟨g, 0, none⟩ = some (.slice (some ⟨jb, 0, none⟩) 5 5)) (h1 : ((o.n : Int) < b.R)) (h2 : (dst o.t o.first ≤ b.sp)) (h3 : ¬ (o.e = 0)) :
    Calls Try.prog 15 #[.pointer (some ⟨g, 0, none⟩), ofrV o] w fun e w' => e = .returned (.bool false) ∧ Below w.heap.size w w' := by
  have H1 : Hid (∀ x, Below (w.heap.size + 1) (w.alloc (.cells #[.int .i64 o.n, .int .i64 o.first, .int .i64 o.t, .int .i64 o.e, .int .i64 o.body] 57)) x → Calls Try.prog 27 #[ofrV o, .pointer (some ⟨bb, 0, none⟩)] x fun e w' => e = .returned (.bool true) ∧ Below (w.heap.size + 1) (w.alloc (.cells #[.int .i64 o.n, .int .i64 o.first, .int .i64 o.t, .int .i64 o.e, .int .i64 o.body] 57)) w') := fun x hx => (c1_any o b jb bb x (h.below (bel_al (alsz hx))) ok ho).mono fun e w' hh => ⟨hh.1.trans (by rw [decide_eq_true h1]), hx.trans (hh.2.mono (alsl hx))⟩
  have H2 : Hid (∀ x, Below (w.heap.size + 1) (w.alloc (.cells #[.int .i64 o.n, .int .i64 o.first, .int .i64 o.t, .int .i64 o.e, .int .i64 o.body] 57)) x → Calls Try.prog 28 #[ofrV o, .pointer (some ⟨bb, 0, none⟩)] x fun e w' => e = .returned (.bool true) ∧ Below (w.heap.size + 1) (w.alloc (.cells #[.int .i64 o.n, .int .i64 o.first, .int .i64 o.t, .int .i64 o.e, .int .i64 o.body] 57)) w') := fun x hx => (c2_any o b jb bb x (h.below (bel_al (alsz hx))) ok ho).mono fun e w' hh => ⟨hh.1.trans (by rw [decide_eq_true h2]), hx.trans (hh.2.mono (alsl hx))⟩
  have H3 : Hid (∀ x, Below (w.heap.size + 1) (w.alloc (.cells #[.int .i64 o.n, .int .i64 o.first, .int .i64 o.t, .int .i64 o.e, .int .i64 o.body] 57)) x → Calls Try.prog 30 #[ofrV o] x fun e w' => e = .returned (.bool false) ∧ Below (w.heap.size + 1) (w.alloc (.cells #[.int .i64 o.n, .int .i64 o.first, .int .i64 o.t, .int .i64 o.e, .int .i64 o.body] 57)) w') := fun x hx => (c3_any o b jb bb x (h.below (bel_al (alsz hx))) ok ho).mono fun e w' hh => ⟨hh.1.trans (by rw [decide_eq_false h3]), hx.trans (hh.2.mono (alsl hx))⟩
  have HK : Hid (∀ x, Below (w.heap.size + 1) (w.alloc (.cells #[.int .i64 o.n, .int .i64 o.first, .int .i64 o.t, .int .i64 o.e, .int .i64 o.body] 57)) x → Cnd x jb bb b) := fun x hx => h.below (bel_al (alsz hx))
  have HQ : Hid (∀ x, Below (w.heap.size + 1) (w.alloc (.cells #[.int .i64 o.n, .int .i64 o.first, .int .i64 o.t, .int .i64 o.e, .int .i64 o.body] 57)) x → x.heap[w.heap.size]? = some (.cells #[.int .i64 o.n, .int .i64 o.first, .int .i64 o.t, .int .i64 o.e, .int .i64 o.body] 57 (0, 0))) := fun x hx => (hx.block w.heap.size (Nat.lt_succ_self _)).trans (heap_new _ _)
  have hb0 : Below (w.heap.size + 1) (w.alloc (.cells #[.int .i64 o.n, .int .i64 o.first, .int .i64 o.t, .int .i64 o.e, .int .i64 o.body] 57)) (w.alloc (.cells #[.int .i64 o.n, .int .i64 o.first, .int .i64 o.t, .int .i64 o.e, .int .i64 o.body] 57)) := Below.refl _ _
  have HB0 := hid hb0
  obtain ⟨r0, r1, r2, r3, r4⟩ := (HK.out _ hb0).cells
  have hgl := World.block_lt_of_cell? _ _ hg
  clear h ok ho hb0 h1 h2 h3
  unfold ofrV at *
  go_enter Try.func15, Try.ntmps15
  go_wp2_with fail
  refine wp_loop_rounds 6 ?_
  rw [rounds_succ]
  go_wp2_with (go_at_call 27; refine (H1.out _ HB0.out).mono ?_; rintro e w1 ⟨rfl, hb⟩; have HB1 := hid hb; obtain ⟨r0, r1, r2, r3, r4⟩ := (HK.out _ hb).cells; obtain ⟨u0, u1, u2, u3, u4⟩ := cells5 (HQ.out _ hb); clear hb)
  rw [rounds_succ]
  go_wp2_with (go_at_call 28; refine (H2.out _ HB1.out).mono ?_; rintro e w2 ⟨rfl, hb⟩; have HB2 := hid hb; obtain ⟨r0, r1, r2, r3, r4⟩ := (HK.out _ hb).cells; obtain ⟨u0, u1, u2, u3, u4⟩ := cells5 (HQ.out _ hb); clear hb)
  rw [rounds_succ]
  go_wp2_with (go_at_call 30; refine (H3.out _ HB2.out).mono ?_; rintro e w3 ⟨rfl, hb⟩; have HB3 := hid hb; obtain ⟨r0, r1, r2, r3, r4⟩ := (HK.out _ hb).cells; obtain ⟨u0, u1, u2, u3, u4⟩ := cells5 (HQ.out _ hb); clear hb)
  go_ret
  exact ⟨rfl, bel_al (alsz HB3.out)⟩
set_option maxRecDepth 20000 in
set_option maxHeartbeats 1000000 in
theorem takes_3 (g jb bb : Nat) (b : Bnd) (o : Ofr) (w : World) (h : Cnd w jb bb b) (ok : BndOk b) (ho : OfrIn o) (hg : w.cell? ⟨g, 0, none⟩ = some (.slice (some ⟨jb, 0, none⟩) 5 5)) (h1 : ((o.n : Int) < b.R)) (h2 : (dst o.t o.first ≤ b.sp)) (h3 : (o.e = 0)) (h4 : ¬ (o.body ≤ b.P)) :
    Calls Try.prog 15 #[.pointer (some ⟨g, 0, none⟩), ofrV o] w fun e w' => e = .returned (.bool false) ∧ Below w.heap.size w w' := by
  have H1 : Hid (∀ x, Below (w.heap.size + 1) (w.alloc (.cells #[.int .i64 o.n, .int .i64 o.first, .int .i64 o.t, .int .i64 o.e, .int .i64 o.body] 57)) x → Calls Try.prog 27 #[ofrV o, .pointer (some ⟨bb, 0, none⟩)] x fun e w' => e = .returned (.bool true) ∧ Below (w.heap.size + 1) (w.alloc (.cells #[.int .i64 o.n, .int .i64 o.first, .int .i64 o.t, .int .i64 o.e, .int .i64 o.body] 57)) w') := fun x hx => (c1_any o b jb bb x (h.below (bel_al (alsz hx))) ok ho).mono fun e w' hh => ⟨hh.1.trans (by rw [decide_eq_true h1]), hx.trans (hh.2.mono (alsl hx))⟩
  have H2 : Hid (∀ x, Below (w.heap.size + 1) (w.alloc (.cells #[.int .i64 o.n, .int .i64 o.first, .int .i64 o.t, .int .i64 o.e, .int .i64 o.body] 57)) x → Calls Try.prog 28 #[ofrV o, .pointer (some ⟨bb, 0, none⟩)] x fun e w' => e = .returned (.bool true) ∧ Below (w.heap.size + 1) (w.alloc (.cells #[.int .i64 o.n, .int .i64 o.first, .int .i64 o.t, .int .i64 o.e, .int .i64 o.body] 57)) w') := fun x hx => (c2_any o b jb bb x (h.below (bel_al (alsz hx))) ok ho).mono fun e w' hh => ⟨hh.1.trans (by rw [decide_eq_true h2]), hx.trans (hh.2.mono (alsl hx))⟩
  have H3 : Hid (∀ x, Below (w.heap.size + 1) (w.alloc (.cells #[.int .i64 o.n, .int .i64 o.first, .int .i64 o.t, .int .i64 o.e, .int .i64 o.body] 57)) x → Calls Try.prog 30 #[ofrV o] x fun e w' => e = .returned (.bool true) ∧ Below (w.heap.size + 1) (w.alloc (.cells #[.int .i64 o.n, .int .i64 o.first, .int .i64 o.t, .int .i64 o.e, .int .i64 o.body] 57)) w') := fun x hx => (c3_any o b jb bb x (h.below (bel_al (alsz hx))) ok ho).mono fun e w' hh => ⟨hh.1.trans (by rw [decide_eq_true h3]), hx.trans (hh.2.mono (alsl hx))⟩
  have H4 : Hid (∀ x, Below (w.heap.size + 1) (w.alloc (.cells #[.int .i64 o.n, .int .i64 o.first, .int .i64 o.t, .int .i64 o.e, .int .i64 o.body] 57)) x → Calls Try.prog 31 #[ofrV o, .pointer (some ⟨bb, 0, none⟩)] x fun e w' => e = .returned (.bool false) ∧ Below (w.heap.size + 1) (w.alloc (.cells #[.int .i64 o.n, .int .i64 o.first, .int .i64 o.t, .int .i64 o.e, .int .i64 o.body] 57)) w') := fun x hx => (c4_any o b jb bb x (h.below (bel_al (alsz hx))) ok ho).mono fun e w' hh => ⟨hh.1.trans (by rw [decide_eq_false h4]), hx.trans (hh.2.mono (alsl hx))⟩
  have HK : Hid (∀ x, Below (w.heap.size + 1) (w.alloc (.cells #[.int .i64 o.n, .int .i64 o.first, .int .i64 o.t, .int .i64 o.e, .int .i64 o.body] 57)) x → Cnd x jb bb b) := fun x hx => h.below (bel_al (alsz hx))
  have HQ : Hid (∀ x, Below (w.heap.size + 1) (w.alloc (.cells #[.int .i64 o.n, .int .i64 o.first, .int .i64 o.t, .int .i64 o.e, .int .i64 o.body] 57)) x → x.heap[w.heap.size]? = some (.cells #[.int .i64 o.n, .int .i64 o.first, .int .i64 o.t, .int .i64 o.e, .int .i64 o.body] 57 (0, 0))) := fun x hx => (hx.block w.heap.size (Nat.lt_succ_self _)).trans (heap_new _ _)
  have hb0 : Below (w.heap.size + 1) (w.alloc (.cells #[.int .i64 o.n, .int .i64 o.first, .int .i64 o.t, .int .i64 o.e, .int .i64 o.body] 57)) (w.alloc (.cells #[.int .i64 o.n, .int .i64 o.first, .int .i64 o.t, .int .i64 o.e, .int .i64 o.body] 57)) := Below.refl _ _
  have HB0 := hid hb0
  obtain ⟨r0, r1, r2, r3, r4⟩ := (HK.out _ hb0).cells
  have hgl := World.block_lt_of_cell? _ _ hg
  clear h ok ho hb0 h1 h2 h3 h4
  unfold ofrV at *
  go_enter Try.func15, Try.ntmps15
  go_wp2_with fail
  refine wp_loop_rounds 6 ?_
  rw [rounds_succ]
  go_wp2_with (go_at_call 27; refine (H1.out _ HB0.out).mono ?_; rintro e w1 ⟨rfl, hb⟩; have HB1 := hid hb; obtain ⟨r0, r1, r2, r3, r4⟩ := (HK.out _ hb).cells; obtain ⟨u0, u1, u2, u3, u4⟩ := cells5 (HQ.out _ hb); clear hb)
  rw [rounds_succ]
  go_wp2_with (go_at_call 28; refine (H2.out _ HB1.out).mono ?_; rintro e w2 ⟨rfl, hb⟩; have HB2 := hid hb; obtain ⟨r0, r1, r2, r3, r4⟩ := (HK.out _ hb).cells; obtain ⟨u0, u1, u2, u3, u4⟩ := cells5 (HQ.out _ hb); clear hb)
  rw [rounds_succ]
  go_wp2_with (go_at_call 30; refine (H3.out _ HB2.out).mono ?_; rintro e w3 ⟨rfl, hb⟩; have HB3 := hid hb; obtain ⟨r0, r1, r2, r3, r4⟩ := (HK.out _ hb).cells; obtain ⟨u0, u1, u2, u3, u4⟩ := cells5 (HQ.out _ hb); clear hb)
  rw [rounds_succ]
  go_wp2_with (go_at_call 31; refine (H4.out _ HB3.out).mono ?_; rintro e w4 ⟨rfl, hb⟩; have HB4 := hid hb; obtain ⟨r0, r1, r2, r3, r4⟩ := (HK.out _ hb).cells; obtain ⟨u0, u1, u2, u3, u4⟩ := cells5 (HQ.out _ hb); clear hb)
  go_ret
  exact ⟨rfl, bel_al (alsz HB4.out)⟩
set_option maxRecDepth 20000 in
set_option maxHeartbeats 1000000 in
theorem takes_4 (g jb bb : Nat) (b : Bnd) (o : Ofr) (w : World) (h : Cnd w jb bb b) (ok : BndOk b) (ho : OfrIn o) (hg : w.cell? ⟨g, 0, none⟩ = some (.slice (some ⟨jb, 0, none⟩) 5 5)) (h1 : ((o.n : Int) < b.R)) (h2 : (dst o.t o.first ≤ b.sp)) (h3 : (o.e = 0)) (h4 : (o.body ≤ b.P)) (h5 : ¬ (roomZ b.pk o.body ≤ b.F)) :
    Calls Try.prog 15 #[.pointer (some ⟨g, 0, none⟩), ofrV o] w fun e w' => e = .returned (.bool false) ∧ Below w.heap.size w w' := by
  have H1 : Hid (∀ x, Below (w.heap.size + 1) (w.alloc (.cells #[.int .i64 o.n, .int .i64 o.first, .int .i64 o.t, .int .i64 o.e, .int .i64 o.body] 57)) x → Calls Try.prog 27 #[ofrV o, .pointer (some ⟨bb, 0, none⟩)] x fun e w' => e = .returned (.bool true) ∧ Below (w.heap.size + 1) (w.alloc (.cells #[.int .i64 o.n, .int .i64 o.first, .int .i64 o.t, .int .i64 o.e, .int .i64 o.body] 57)) w') := fun x hx => (c1_any o b jb bb x (h.below (bel_al (alsz hx))) ok ho).mono fun e w' hh => ⟨hh.1.trans (by rw [decide_eq_true h1]), hx.trans (hh.2.mono (alsl hx))⟩
  have H2 : Hid (∀ x, Below (w.heap.size + 1) (w.alloc (.cells #[.int .i64 o.n, .int .i64 o.first, .int .i64 o.t, .int .i64 o.e, .int .i64 o.body] 57)) x → Calls Try.prog 28 #[ofrV o, .pointer (some ⟨bb, 0, none⟩)] x fun e w' => e = .returned (.bool true) ∧ Below (w.heap.size + 1) (w.alloc (.cells #[.int .i64 o.n, .int .i64 o.first, .int .i64 o.t, .int .i64 o.e, .int .i64 o.body] 57)) w') := fun x hx => (c2_any o b jb bb x (h.below (bel_al (alsz hx))) ok ho).mono fun e w' hh => ⟨hh.1.trans (by rw [decide_eq_true h2]), hx.trans (hh.2.mono (alsl hx))⟩
  have H3 : Hid (∀ x, Below (w.heap.size + 1) (w.alloc (.cells #[.int .i64 o.n, .int .i64 o.first, .int .i64 o.t, .int .i64 o.e, .int .i64 o.body] 57)) x → Calls Try.prog 30 #[ofrV o] x fun e w' => e = .returned (.bool true) ∧ Below (w.heap.size + 1) (w.alloc (.cells #[.int .i64 o.n, .int .i64 o.first, .int .i64 o.t, .int .i64 o.e, .int .i64 o.body] 57)) w') := fun x hx => (c3_any o b jb bb x (h.below (bel_al (alsz hx))) ok ho).mono fun e w' hh => ⟨hh.1.trans (by rw [decide_eq_true h3]), hx.trans (hh.2.mono (alsl hx))⟩
  have H4 : Hid (∀ x, Below (w.heap.size + 1) (w.alloc (.cells #[.int .i64 o.n, .int .i64 o.first, .int .i64 o.t, .int .i64 o.e, .int .i64 o.body] 57)) x → Calls Try.prog 31 #[ofrV o, .pointer (some ⟨bb, 0, none⟩)] x fun e w' => e = .returned (.bool true) ∧ Below (w.heap.size + 1) (w.alloc (.cells #[.int .i64 o.n, .int .i64 o.first, .int .i64 o.t, .int .i64 o.e, .int .i64 o.body] 57)) w') := fun x hx => (c4_any o b jb bb x (h.below (bel_al (alsz hx))) ok ho).mono fun e w' hh => ⟨hh.1.trans (by rw [decide_eq_true h4]), hx.trans (hh.2.mono (alsl hx))⟩
  have H5 : Hid (∀ x, Below (w.heap.size + 1) (w.alloc (.cells #[.int .i64 o.n, .int .i64 o.first, .int .i64 o.t, .int .i64 o.e, .int .i64 o.body] 57)) x → Calls Try.prog 32 #[ofrV o, .pointer (some ⟨bb, 0, none⟩)] x fun e w' => e = .returned (.bool false) ∧ Below (w.heap.size + 1) (w.alloc (.cells #[.int .i64 o.n, .int .i64 o.first, .int .i64 o.t, .int .i64 o.e, .int .i64 o.body] 57)) w') := fun x hx => (c5_any o b jb bb x (h.below (bel_al (alsz hx))) ok ho (by have := h4; have := ok.P.2; omega)).mono fun e w' hh => ⟨hh.1.trans (by rw [decide_eq_false h5]), hx.trans (hh.2.mono (alsl hx))⟩
  have HK : Hid (∀ x, Below (w.heap.size + 1) (w.alloc (.cells #[.int .i64 o.n, .int .i64 o.first, .int .i64 o.t, .int .i64 o.e, .int .i64 o.body] 57)) x → Cnd x jb bb b) := fun x hx => h.below (bel_al (alsz hx))
  have HQ : Hid (∀ x, Below (w.heap.size + 1) (w.alloc (.cells #[.int .i64 o.n, .int .i64 o.first, .int .i64 o.t, .int .i64 o.e, .int .i64 o.body] 57)) x → x.heap[w.heap.size]? = some (.cells #[.int .i64 o.n, .int .i64 o.first, .int .i64 o.t, .int .i64 o.e, .int .i64 o.body] 57 (0, 0))) := fun x hx => (hx.block w.heap.size (Nat.lt_succ_self _)).trans (heap_new _ _)
  have hb0 : Below (w.heap.size + 1) (w.alloc (.cells #[.int .i64 o.n, .int .i64 o.first, .int .i64 o.t, .int .i64 o.e, .int .i64 o.body] 57)) (w.alloc (.cells #[.int .i64 o.n, .int .i64 o.first, .int .i64 o.t, .int .i64 o.e, .int .i64 o.body] 57)) := Below.refl _ _
  have HB0 := hid hb0
  obtain ⟨r0, r1, r2, r3, r4⟩ := (HK.out _ hb0).cells
  have hgl := World.block_lt_of_cell? _ _ hg
  clear h ok ho hb0 h1 h2 h3 h4 h5
  unfold ofrV at *
  go_enter Try.func15, Try.ntmps15
  go_wp2_with fail
  refine wp_loop_rounds 6 ?_
  rw [rounds_succ]
  go_wp2_with (go_at_call 27; refine (H1.out _ HB0.out).mono ?_; rintro e w1 ⟨rfl, hb⟩; have HB1 := hid hb; obtain ⟨r0, r1, r2, r3, r4⟩ := (HK.out _ hb).cells; obtain ⟨u0, u1, u2, u3, u4⟩ := cells5 (HQ.out _ hb); clear hb)
  rw [rounds_succ]
  go_wp2_with (go_at_call 28; refine (H2.out _ HB1.out).mono ?_; rintro e w2 ⟨rfl, hb⟩; have HB2 := hid hb; obtain ⟨r0, r1, r2, r3, r4⟩ := (HK.out _ hb).cells; obtain ⟨u0, u1, u2, u3, u4⟩ := cells5 (HQ.out _ hb); clear hb)
  rw [rounds_succ]
  go_wp2_with (go_at_call 30; refine (H3.out _ HB2.out).mono ?_; rintro e w3 ⟨rfl, hb⟩; have HB3 := hid hb; obtain ⟨r0, r1, r2, r3, r4⟩ := (HK.out _ hb).cells; obtain ⟨u0, u1, u2, u3, u4⟩ := cells5 (HQ.out _ hb); clear hb)
  rw [rounds_succ]
  go_wp2_with (go_at_call 31; refine (H4.out _ HB3.out).mono ?_; rintro e w4 ⟨rfl, hb⟩; have HB4 := hid hb; obtain ⟨r0, r1, r2, r3, r4⟩ := (HK.out _ hb).cells; obtain ⟨u0, u1, u2, u3, u4⟩ := cells5 (HQ.out _ hb); clear hb)
  rw [rounds_succ]
  go_wp2_with (go_at_call 32; refine (H5.out _ HB4.out).mono ?_; rintro e w5 ⟨rfl, hb⟩; have HB5 := hid hb; obtain ⟨r0, r1, r2, r3, r4⟩ := (HK.out _ hb).cells; obtain ⟨u0, u1, u2, u3, u4⟩ := cells5 (HQ.out _ hb); clear hb)
  go_ret
  exact ⟨rfl, bel_al (alsz HB5.out)⟩
set_option maxRecDepth 20000 in
set_option maxHeartbeats 1000000 in
theorem takes_5 (g jb bb : Nat) (b : Bnd) (o : Ofr) (w : World) (h : Cnd w jb bb b) (ok : BndOk b) (ho : OfrIn o) (hg : w.cell? ⟨g, 0, none⟩ = some (.slice (some ⟨jb, 0, none⟩) 5 5)) (h1 : ((o.n : Int) < b.R)) (h2 : (dst o.t o.first ≤ b.sp)) (h3 : (o.e = 0)) (h4 : (o.body ≤ b.P)) (h5 : (roomZ b.pk o.body ≤ b.F)) :
    Calls Try.prog 15 #[.pointer (some ⟨g, 0, none⟩), ofrV o] w fun e w' => e = .returned (.bool true) ∧ Below w.heap.size w w' := by
  have H1 : Hid (∀ x, Below (w.heap.size + 1) (w.alloc (.cells #[.int .i64 o.n, .int .i64 o.first, .int .i64 o.t, .int .i64 o.e, .int .i64 o.body] 57)) x → Calls Try.prog 27 #[ofrV o, .pointer (some ⟨bb, 0, none⟩)] x fun e w' => e = .returned (.bool true) ∧ Below (w.heap.size + 1) (w.alloc (.cells #[.int .i64 o.n, .int .i64 o.first, .int .i64 o.t, .int .i64 o.e, .int .i64 o.body] 57)) w') := fun x hx => (c1_any o b jb bb x (h.below (bel_al (alsz hx))) ok ho).mono fun e w' hh => ⟨hh.1.trans (by rw [decide_eq_true h1]), hx.trans (hh.2.mono (alsl hx))⟩
  have H2 : Hid (∀ x, Below (w.heap.size + 1) (w.alloc (.cells #[.int .i64 o.n, .int .i64 o.first, .int .i64 o.t, .int .i64 o.e, .int .i64 o.body] 57)) x → Calls Try.prog 28 #[ofrV o, .pointer (some ⟨bb, 0, none⟩)] x fun e w' => e = .returned (.bool true) ∧ Below (w.heap.size + 1) (w.alloc (.cells #[.int .i64 o.n, .int .i64 o.first, .int .i64 o.t, .int .i64 o.e, .int .i64 o.body] 57)) w') := fun x hx => (c2_any o b jb bb x (h.below (bel_al (alsz hx))) ok ho).mono fun e w' hh => ⟨hh.1.trans (by rw [decide_eq_true h2]), hx.trans (hh.2.mono (alsl hx))⟩
  have H3 : Hid (∀ x, Below (w.heap.size + 1) (w.alloc (.cells #[.int .i64 o.n, .int .i64 o.first, .int .i64 o.t, .int .i64 o.e, .int .i64 o.body] 57)) x → Calls Try.prog 30 #[ofrV o] x fun e w' => e = .returned (.bool true) ∧ Below (w.heap.size + 1) (w.alloc (.cells #[.int .i64 o.n, .int .i64 o.first, .int .i64 o.t, .int .i64 o.e, .int .i64 o.body] 57)) w') := fun x hx => (c3_any o b jb bb x (h.below (bel_al (alsz hx))) ok ho).mono fun e w' hh => ⟨hh.1.trans (by rw [decide_eq_true h3]), hx.trans (hh.2.mono (alsl hx))⟩
  have H4 : Hid (∀ x, Below (w.heap.size + 1) (w.alloc (.cells #[.int .i64 o.n, .int .i64 o.first, .int .i64 o.t, .int .i64 o.e, .int .i64 o.body] 57)) x → Calls Try.prog 31 #[ofrV o, .pointer (some ⟨bb, 0, none⟩)] x fun e w' => e = .returned (.bool true) ∧ Below (w.heap.size + 1) (w.alloc (.cells #[.int .i64 o.n, .int .i64 o.first, .int .i64 o.t, .int .i64 o.e, .int .i64 o.body] 57)) w') := fun x hx => (c4_any o b jb bb x (h.below (bel_al (alsz hx))) ok ho).mono fun e w' hh => ⟨hh.1.trans (by rw [decide_eq_true h4]), hx.trans (hh.2.mono (alsl hx))⟩
  have H5 : Hid (∀ x, Below (w.heap.size + 1) (w.alloc (.cells #[.int .i64 o.n, .int .i64 o.first, .int .i64 o.t, .int .i64 o.e, .int .i64 o.body] 57)) x → Calls Try.prog 32 #[ofrV o, .pointer (some ⟨bb, 0, none⟩)] x fun e w' => e = .returned (.bool true) ∧ Below (w.heap.size + 1) (w.alloc (.cells #[.int .i64 o.n, .int .i64 o.first, .int .i64 o.t, .int .i64 o.e, .int .i64 o.body] 57)) w') := fun x hx => (c5_any o b jb bb x (h.below (bel_al (alsz hx))) ok ho (by have := h4; have := ok.P.2; omega)).mono fun e w' hh => ⟨hh.1.trans (by rw [decide_eq_true h5]), hx.trans (hh.2.mono (alsl hx))⟩
  have HK : Hid (∀ x, Below (w.heap.size + 1) (w.alloc (.cells #[.int .i64 o.n, .int .i64 o.first, .int .i64 o.t, .int .i64 o.e, .int .i64 o.body] 57)) x → Cnd x jb bb b) := fun x hx => h.below (bel_al (alsz hx))
  have HQ : Hid (∀ x, Below (w.heap.size + 1) (w.alloc (.cells #[.int .i64 o.n, .int .i64 o.first, .int .i64 o.t, .int .i64 o.e, .int .i64 o.body] 57)) x → x.heap[w.heap.size]? = some (.cells #[.int .i64 o.n, .int .i64 o.first, .int .i64 o.t, .int .i64 o.e, .int .i64 o.body] 57 (0, 0))) := fun x hx => (hx.block w.heap.size (Nat.lt_succ_self _)).trans (heap_new _ _)
  have hb0 : Below (w.heap.size + 1) (w.alloc (.cells #[.int .i64 o.n, .int .i64 o.first, .int .i64 o.t, .int .i64 o.e, .int .i64 o.body] 57)) (w.alloc (.cells #[.int .i64 o.n, .int .i64 o.first, .int .i64 o.t, .int .i64 o.e, .int .i64 o.body] 57)) := Below.refl _ _
  have HB0 := hid hb0
  obtain ⟨r0, r1, r2, r3, r4⟩ := (HK.out _ hb0).cells
  have hgl := World.block_lt_of_cell? _ _ hg
  clear h ok ho hb0 h1 h2 h3 h4 h5
  unfold ofrV at *
  go_enter Try.func15, Try.ntmps15
  go_wp2_with fail
  refine wp_loop_rounds 6 ?_
  rw [rounds_succ]
  go_wp2_with (go_at_call 27; refine (H1.out _ HB0.out).mono ?_; rintro e w1 ⟨rfl, hb⟩; have HB1 := hid hb; obtain ⟨r0, r1, r2, r3, r4⟩ := (HK.out _ hb).cells; obtain ⟨u0, u1, u2, u3, u4⟩ := cells5 (HQ.out _ hb); clear hb)
  rw [rounds_succ]
  go_wp2_with (go_at_call 28; refine (H2.out _ HB1.out).mono ?_; rintro e w2 ⟨rfl, hb⟩; have HB2 := hid hb; obtain ⟨r0, r1, r2, r3, r4⟩ := (HK.out _ hb).cells; obtain ⟨u0, u1, u2, u3, u4⟩ := cells5 (HQ.out _ hb); clear hb)
  rw [rounds_succ]
  go_wp2_with (go_at_call 30; refine (H3.out _ HB2.out).mono ?_; rintro e w3 ⟨rfl, hb⟩; have HB3 := hid hb; obtain ⟨r0, r1, r2, r3, r4⟩ := (HK.out _ hb).cells; obtain ⟨u0, u1, u2, u3, u4⟩ := cells5 (HQ.out _ hb); clear hb)
  rw [rounds_succ]
  go_wp2_with (go_at_call 31; refine (H4.out _ HB3.out).mono ?_; rintro e w4 ⟨rfl, hb⟩; have HB4 := hid hb; obtain ⟨r0, r1, r2, r3, r4⟩ := (HK.out _ hb).cells; obtain ⟨u0, u1, u2, u3, u4⟩ := cells5 (HQ.out _ hb); clear hb)
  rw [rounds_succ]
  go_wp2_with (go_at_call 32; refine (H5.out _ HB4.out).mono ?_; rintro e w5 ⟨rfl, hb⟩; have HB5 := hid hb; obtain ⟨r0, r1, r2, r3, r4⟩ := (HK.out _ hb).cells; obtain ⟨u0, u1, u2, u3, u4⟩ := cells5 (HQ.out _ hb); clear hb)
  rw [rounds_succ]
  go_wp2_with fail
  go_ret
  exact ⟨rfl, bel_al (alsz HB5.out)⟩
theorem takes_any (g jb bb : Nat) (b : Bnd) (o : Ofr) (w : World) (h : Cnd w jb bb b) (ok : BndOk b) (ho : OfrIn o) (hg : w.cell? ⟨g, 0, none⟩ = some (.slice (some ⟨jb, 0, none⟩) 5 5)) :
    Calls Try.prog 15 #[.pointer (some ⟨g, 0, none⟩), ofrV o] w fun e w' => e = .returned (.bool (tkB b o)) ∧ Below w.heap.size w w' := by
  by_cases h1 : ((o.n : Int) < b.R)
  rotate_left
  · have e : tkB b o = false := by unfold tkB; rw [decide_eq_false h1]; rfl
    rw [e]
    exact takes_0 g jb bb b o w h ok ho hg h1
  by_cases h2 : (dst o.t o.first ≤ b.sp)
  rotate_left
  · have e : tkB b o = false := by unfold tkB; rw [decide_eq_true h1, decide_eq_false h2]; rfl
    rw [e]
    exact takes_1 g jb bb b o w h ok ho hg h1 h2
  by_cases h3 : (o.e = 0)
  rotate_left
  · have e : tkB b o = false := by unfold tkB; rw [decide_eq_true h1, decide_eq_true h2, decide_eq_false h3]; rfl
    rw [e]
    exact takes_2 g jb bb b o w h ok ho hg h1 h2 h3
  by_cases h4 : (o.body ≤ b.P)
  rotate_left
  · have e : tkB b o = false := by unfold tkB; rw [decide_eq_true h1, decide_eq_true h2, decide_eq_true h3, decide_eq_false h4]; rfl
    rw [e]
    exact takes_3 g jb bb b o w h ok ho hg h1 h2 h3 h4
  by_cases h5 : (roomZ b.pk o.body ≤ b.F)
  rotate_left
  · have e : tkB b o = false := by unfold tkB; rw [decide_eq_true h1, decide_eq_true h2, decide_eq_true h3, decide_eq_true h4, decide_eq_false h5]; rfl
    rw [e]
    exact takes_4 g jb bb b o w h ok ho hg h1 h2 h3 h4 h5
  have e : tkB b o = true := by unfold tkB; rw [decide_eq_true h1, decide_eq_true h2, decide_eq_true h3, decide_eq_true h4, decide_eq_true h5]; rfl
  rw [e]
  exact takes_5 g jb bb b o w h ok ho hg h1 h2 h3 h4 h5
end Go.Proofs.Ytlbkkeoffeohnab
