/- A tail's find. -/
import Derived.Test.YtolobmhbmajolaaPd4
namespace Go.Proofs.Ytolobmhbmajolaa
open Go.RowKit Go.Shelf
attribute [local go_sem] Oper.semAt_some
theorem blk_own (B : Nat) (t : TypeId) {α : Type} (c : α → Array Value) : Own (fun a W => W.heap[B]? = some (.cells (c a) t (0, 0))) := by
  intro a A Bw row hs hg hr
  refine (hg.block B (lt_of_heap hs) (fun e => ?_)).trans hs
  obtain ⟨o, ho, hc⟩ := hr B e.symm
  rw [hs] at ho
  cases ho
  cases hc
def isB (seq cnt : Int) (y : Nt) : Bool := decide (y.s = seq) && decide (y.c = cnt)
def fnd (l : List (Nat × Nt)) (seq cnt : Int) : Option Nt := (l.find? (fun y => isB seq cnt y.2)).map (fun y => y.2)
def NoB (seq cnt : Int) (l : List (Nat × Nt)) : Prop := ∀ y ∈ l, isB seq cnt y.2 = false
def YesB (seq cnt : Int) (l : List (Nat × Nt)) (x : Nt) : Prop := ∃ a k, l = a ++ [(k, x)] ∧ NoB seq cnt a ∧ isB seq cnt x = true
theorem NoB.snoc {seq cnt : Int} {l : List (Nat × Nt)} {y : Nat × Nt} (h : NoB seq cnt l) (hy : isB seq cnt y.2 = false) : NoB seq cnt (l ++ [y]) := by
  intro z hz
  rcases List.mem_append.1 hz with h1 | h1
  · exact h z h1
  · rw [List.mem_singleton.1 h1]; exact hy
theorem noB_fnd {seq cnt : Int} {l : List (Nat × Nt)} (h : NoB seq cnt l) : fnd l seq cnt = none := by
  unfold fnd
  rw [List.find?_eq_none.2 (fun y hy => by rw [h y hy]; decide)]
  rfl
theorem yesB_fnd {seq cnt : Int} {l r : List (Nat × Nt)} {x : Nt} (h : YesB seq cnt l x) (hr : l <+: r) : fnd r seq cnt = some x := by
  obtain ⟨a, k, rfl, hz, hy⟩ := h
  obtain ⟨q, rfl⟩ := hr
  unfold fnd
  rw [List.append_assoc, List.find?_append, List.find?_eq_none.2 (fun z hz' => by rw [hz z hz']; decide), Option.none_or]
  show Option.map _ (List.find? _ ((k, x) :: q)) = _
  rw [List.find?_cons, hy]
  rfl
def fndV : Option Nt → Value
  | none => .tuple #[.int .i64 0, .bool false]
  | some y => .tuple #[.int .i64 y.b, .bool true]
set_option maxRecDepth 100000 in
set_option maxHeartbeats 4000000 in
theorem find_any (p : Nat) (ns : List Nt) (seq cnt : Int) (hok : ∀ x ∈ ns, NtOk x) (w : World) (h : TA w p ns) :
    Calls Try.prog 39 #[.pointer (some ⟨p, 0, none⟩), .int .i32 seq, .int .i64 cnt] w fun e w' => e = .returned (fndV (fnd (bkw ns ns.length) seq cnt)) ∧ Below w.heap.size w w' := by
  refine (callsIn_wide (n := 9)).1 ?_
  refine callsIn_of_wp_marks Try.func39 rfl trivial ?_ rfl
  simp only [Try.ntmps39, List.size_toArray, List.length_cons, List.length_nil, Nat.reduceAdd, Nat.reduceSub, Array.replicate_succ, Array.replicate_zero, List.push_toArray, List.append_toArray, List.nil_append, List.cons_append]
  have h9 : 1 ≤ 9 := by omega
  have hplt := h.lt
  obtain ⟨W1, hW1⟩ : ∃ W1, (((w.alloc (.cells #[.int .i32 seq] 21)).alloc (.cells #[.int .i64 cnt] 3)).alloc (.cells #[.int .i64 0] 2)).alloc (.cells #[.bool false] 4) = W1 := ⟨_, rfl⟩
  have hs1 : W1.heap.size = w.heap.size + 1 + 1 + 1 + 1 := by rw [← hW1]; simp
  have b1 : Boxed W1 w.heap.size 21 (.int .i32 seq) := by rw [← hW1]; exact (((Boxed.new w 21 (.int .i32 seq)).alloc _).alloc _).alloc _
  have b2 : Boxed W1 (w.heap.size + 1) 3 (.int .i64 cnt) := by rw [← hW1]; have := ((Boxed.new (w.alloc (.cells #[.int .i32 seq] 21)) 3 (.int .i64 cnt)).alloc (.cells #[.int .i64 0] 2)).alloc (.cells #[.bool false] 4); rwa [World.size_alloc] at this
  have b3 : Boxed W1 (w.heap.size + 1 + 1) 2 (.int .i64 0) := by rw [← hW1]; have := (Boxed.new ((w.alloc (.cells #[.int .i32 seq] 21)).alloc (.cells #[.int .i64 cnt] 3)) 2 (.int .i64 0)).alloc (.cells #[.bool false] 4); rwa [World.size_alloc, World.size_alloc] at this
  have b4 : Boxed W1 (w.heap.size + 1 + 1 + 1) 4 (.bool false) := by rw [← hW1]; have := Boxed.new (((w.alloc (.cells #[.int .i32 seq] 21)).alloc (.cells #[.int .i64 cnt] 3)).alloc (.cells #[.int .i64 0] 2)) 4 (.bool false); rwa [World.size_alloc, World.size_alloc, World.size_alloc] at this
  have hb1 : Below w.heap.size w W1 := by rw [← hW1]; exact ((((Below.refl _ w).alloc (Nat.le_refl _) _).alloc (by simp) _).alloc (by simp; omega) _).alloc (by simp; omega) _
  have CA := Hid.mk (all_any p ns W1 (h.at (hb1.block p hplt)))
  have CB := Hid.mk (backward_any (.slice (some ⟨p, 1, none⟩) ns.length 5) W1.drew ⟨_, _, _, rfl⟩)
  gi_wp2_with (first | (refine ⟨trivial, ?_⟩; gi_at_call 46; refine (callsIn_wide.2 CA.out).mono ?_; rintro e w1 ⟨rfl, rfl⟩) | (refine ⟨trivial, ?_⟩; gi_at_call 49; refine (callsIn_wide.2 CB.out).mono ?_; rintro e w1 ⟨rfl, rfl⟩))
  obtain ⟨W0, hW0⟩ : ∃ W0, (W1.alloc (.cells #[.slice (some ⟨p, 1, none⟩) ns.length 5] 86)).drew = W0 := ⟨_, rfl⟩
  have hs0 : W0.heap.size = w.heap.size + 1 + 1 + 1 + 1 + 1 := by rw [← hW0]; simp [hs1]
  have hbW : Below W1.heap.size W1 W0 := by rw [← hW0]; exact ((Below.refl _ W1).alloc (Nat.le_refl _) _).drew
  have hbw : Below w.heap.size w W0 := hb1.trans (hbW.mono hb1.size)
  have hBs : W0.heap[w.heap.size + 1 + 1 + 1 + 1]? = some (.cells #[.slice (some ⟨p, 1, none⟩) ns.length 5] 86 (0, 0)) := by
    rw [← hW0, ← hs1]
    exact heap_new W1 _
  have bx : ∀ {B t v}, B < W1.heap.size → Boxed W1 B t v → Boxed W0 B t v := fun {B t v} hlt hb => (hbW.block B hlt).trans hb
  have k1 := bx (by omega) b1
  have k2 := bx (by omega) b2
  have k3 := bx (by omega) b3
  have k4 := bx (by omega) b4
  have hT0 : TA W0 p ns := h.at (hbw.block p hplt)
  rw [hW0]
  clear bx b1 b2 b3 b4 hb1 CA CB hW0 hW1 hbW
  obtain ⟨Bs, e5⟩ : ∃ x, w.heap.size + 1 + 1 + 1 + 1 = x := ⟨_, rfl⟩
  obtain ⟨R2, e4⟩ : ∃ x, w.heap.size + 1 + 1 + 1 = x := ⟨_, rfl⟩
  obtain ⟨R1, e3⟩ : ∃ x, w.heap.size + 1 + 1 = x := ⟨_, rfl⟩
  obtain ⟨B2, e2⟩ : ∃ x, w.heap.size + 1 = x := ⟨_, rfl⟩
  rw [e5] at hBs ⊢
  rw [e4] at k4 ⊢
  rw [e3] at k3 ⊢
  rw [e2] at k2 ⊢
  have o : w.heap.size < B2 ∧ B2 < R1 ∧ R1 < R2 ∧ R2 < Bs ∧ Bs < W0.heap.size := by omega
  clear e2 e3 e4 e5 hs1
  obtain ⟨o1, o2, o3, o4, o5⟩ := o
  refine wpIn_rangeFunc_ownH rfl h9 (gf := 53) (lb := #[.pointer (some ⟨Bs, 0, none⟩)]) rfl trivial (enters_of Try.func53 (by kernel_rfl) rfl)
    (back_stops (9 - 1) Bs W0.heap.size p (by omega) ns hok W0 hBs o5 hT0 hT0.lt) belowK_t (belowK_b (Nat.le_refl _)) (Below.refl _ _) (fun x => rfl)
    (fun pre W => NoB seq cnt (nvals pre) ∧ Below W0.heap.size W0 W)
    (fun c pre W => c = .ret ∧ ∃ x : Nt, YesB seq cnt (nvals pre) x ∧ Boxed W R1 2 (.int .i64 x.b) ∧ Boxed W R2 4 (.bool true) ∧ Below w.heap.size w W)
    (OwnFrom.and (fun _ _ _ _ hs' _ _ => hs') (ownFrom_below (Nat.le_refl _) (Nat.le_refl _)))
    (fun c pre A B row hs' hg hr => by
      obtain ⟨hc, x, hy, h2, h3, hb⟩ := hs'
      exact ⟨hc, x, hy, boxed_own R1 2 (fun (_ : Unit) => Value.int .i64 x.b) () A B row h2 hg (fun r e => (hr r e).2), boxed_own R2 4 (fun (_ : Unit) => Value.bool true) () A B row h3 hg (fun r e => (hr r e).2), ownFrom_below (β := Unit) (Nat.le_refl _) (by omega) () A B row hb hg hr⟩)
    ⟨fun y hy => (by cases hy), Below.refl _ _⟩
    (fun x a' W => ∃ Bx, Bs < Bx ∧ W.heap[Bx]? = some (.cells #[.int .i64 x.1.2.b, .int .i32 x.1.2.c, .int .i32 x.1.2.s] 68 (0, 0)) ∧ a' = { tmps := #[.pointer (some ⟨p, 0, none⟩), .int .i32 seq, .int .i64 cnt, undef, .pointer (some ⟨w.heap.size, 0, none⟩), .pointer (some ⟨B2, 0, none⟩), .pointer (some ⟨R1, 0, none⟩), .pointer (some ⟨R2, 0, none⟩), undef, .pointer (some ⟨Bx, 0, none⟩), .pointer (some ⟨p, 0, none⟩), .slice (some ⟨p, 1, none⟩) ns.length 5, .func (.func 53) #[] #[.pointer (some ⟨Bs, 0, none⟩)], .int .i64 x.1.1, ntV x.1.2, undef, undef, undef, undef, undef, undef, undef, undef, undef, undef, undef, undef, undef], defers := [] })
    (fun x a' _ A B row hs' hg hr => by
      obtain ⟨Bx, h1, h3, h4⟩ := hs'
      exact ⟨Bx, h1, blk_own Bx 68 (fun (_ : Unit) => #[.int .i64 x.1.2.b, .int .i32 x.1.2.c, .int .i32 x.1.2.s]) () A B row h3 hg (fun r e => (hr r e).2), h4⟩)
    ?assign ?body ?done ?stop
  case assign =>
    rintro l pre ⟨⟨i, y⟩, hy⟩ W K ⟨hz, hb⟩ hK
    have hWs := hb.size
    gi_wp2
    exact hK _ _ ((KeepsOthers.alloc _ _).from _) ((Below.refl _ W).alloc hWs _) ⟨hz, hb.alloc hWs _⟩ ⟨W.heap.size, by omega, heap_new _ _, rfl⟩
  case body =>
    rintro l pre ⟨⟨i, y⟩, hy⟩ a' W hl ⟨r, hr⟩ ⟨hz, hb⟩ ⟨Bx, hBx, hF, rfl⟩ hlt
    have q1 : Boxed W w.heap.size 21 (.int .i32 seq) := (hb.block _ (by omega)).trans k1
    have q2 : Boxed W B2 3 (.int .i64 cnt) := (hb.block _ (by omega)).trans k2
    have q3 : Boxed W R1 2 (.int .i64 0) := (hb.block _ (by omega)).trans k3
    have q4 : Boxed W R2 4 (.bool false) := (hb.block _ (by omega)).trans k4
    have c1 := q1.cell
    have c2 := q2.cell
    have c3 := q3.cell
    have c4 := q4.cell
    have f3 := q3.frozen
    have f4 := q4.frozen
    have x0 : W.cell? ⟨Bx, 0, none⟩ = some (.int .i64 y.b) := (cell_of hF).trans rfl
    have x1 : W.cell? ⟨Bx, 1, none⟩ = some (.int .i32 y.c) := (cell_of hF).trans rfl
    have x2 : W.cell? ⟨Bx, 2, none⟩ = some (.int .i32 y.s) := (cell_of hF).trans rfl
    have g1 : 1 ≤ y.c := hy.c0
    have g2 : y.c ≤ 65536 := hy.c1
    have HQ3 := Hid.mk q3
    have HQ4 := Hid.mk q4
    have HB := Hid.mk hb
    have HZ := Hid.mk hz
    clear q1 q2 q3 q4 hF hb hz
    by_cases t1 : y.s = seq
    · by_cases t2 : y.c = cnt
      · have ht : isB seq cnt y = true := by unfold isB; simp [t1, t2]
        subst t1
        subst t2
        gi_wp2
        exact ⟨((KeepsOthers.setCell _ _ _).trans (KeepsOthers.setCell _ _ _)).from _, rfl, y, ⟨nvals pre, i, by rw [nvals_snoc], HZ.out, ht⟩, (HQ3.out.set _).other (by omega) _, (HQ4.out.other (by omega) _).set _, ((hbw.trans (HB.out.mono (by omega))).setCell (p := ⟨R1, 0, none⟩) (by show _ ≤ R1; omega) _).setCell (p := ⟨R2, 0, none⟩) (by show _ ≤ R2; omega) _⟩
      · have ht : isB seq cnt y = false := by unfold isB; simp [t2]
        subst t1
        have t2' : decide (y.c = cnt) = false := by simpa using t2
        gi_wp2
        exact ⟨(KeepsOthers.refl _).from _, Below.refl _ _, by rw [nvals_snoc]; exact HZ.out.snoc ht, HB.out⟩
    · have ht : isB seq cnt y = false := by unfold isB; simp [t1]
      have t1' : decide (y.s = seq) = false := by simpa using t1
      gi_wp2
      exact ⟨(KeepsOthers.refl _).from _, Below.refl _ _, by rw [nvals_snoc]; exact HZ.out.snoc ht, HB.out⟩
  case done =>
    rintro D ys W hD hS ⟨hz, hb⟩ hK
    rw [hS] at hz
    have q3 : Boxed W R1 2 (.int .i64 0) := (hb.block _ (by omega)).trans k3
    have q4 : Boxed W R2 4 (.bool false) := (hb.block _ (by omega)).trans k4
    have c3 := q3.cell
    have c4 := q4.cell
    have f3 := q3.frozen
    have f4 := q4.frozen
    have hV : fndV (fnd (bkw ns ns.length) seq cnt) = .tuple #[.int .i64 0, .bool false] := by rw [noB_fnd hz]; rfl
    have HV := Hid.mk hV
    clear hV
    gi_wp2
    have hK' := ((KeepsOthers.setCell W ⟨R1, 0, none⟩ (.int .i64 0)).trans (KeepsOthers.setCell _ ⟨R2, 0, none⟩ (.bool false))).same D _ hK rfl
    refine ⟨by simp, .inl ⟨_, _, rfl, run_takeDeferred hK', ?_⟩⟩
    have d3 := (q3.set (.int .i64 0)).other (B' := R2) (by omega) (.bool false)
    have d4 := (q4.other (B' := R1) (by omega) (.int .i64 0)).set (.bool false)
    have z3 := cell_kept d3.cell (grownBy_putObj' _ D (.deferred none)) (fun r e => by cases e; exact ⟨_, hK', rfl⟩)
    have z4 := cell_kept d4.cell (grownBy_putObj' _ D (.deferred none)) (fun r e => by cases e; exact ⟨_, hK', rfl⟩)
    refine ⟨.tuple #[.int .i64 0, .bool false], ?_, by rw [HV.out], (((hbw.trans (hb.mono (by omega))).setCell (p := ⟨R1, 0, none⟩) (by show _ ≤ R1; omega) _).setCell (p := ⟨R2, 0, none⟩) (by show _ ≤ R2; omega) _).trans (belowK_b (w := w) (Nat.le_refl _) _ D _ _ (by omega) hK' rfl rfl)⟩
    simp [results, Try.results39, go_sem, z3, z4]
  case stop =>
    rintro D c pre W hD hS ⟨rfl, x, hy, q3, q4, hb⟩ hK
    have hV : fndV (fnd (bkw ns ns.length) seq cnt) = .tuple #[.int .i64 x.b, .bool true] := by rw [yesB_fnd hy hS]; rfl
    have HV := Hid.mk hV
    clear hV
    gi_wp2
    refine ⟨by simp, .inl ⟨_, _, rfl, run_takeDeferred hK, ?_⟩⟩
    have z3 := cell_kept q3.cell (grownBy_putObj' _ D (.deferred none)) (fun r e => by cases e; exact ⟨_, hK, rfl⟩)
    have z4 := cell_kept q4.cell (grownBy_putObj' _ D (.deferred none)) (fun r e => by cases e; exact ⟨_, hK, rfl⟩)
    refine ⟨.tuple #[.int .i64 x.b, .bool true], ?_, by rw [HV.out], hb.trans (belowK_b (w := w) (Nat.le_refl _) W D _ _ (by omega) hK rfl rfl)⟩
    simp [results, Try.results39, go_sem, z3, z4]
end Go.Proofs.Ytolobmhbmajolaa
