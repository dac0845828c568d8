/- Things that lie apart in memory; records of one's own; a gatherer. -/
import Derived.Test.YtlbkkeoffeohnabGa4
import Derived.Test.YtlbkkeoffeohnabCPy
namespace Go.Proofs.Ytlbkkeoffeohnab
open Go.RowKit
/-- What lies in a world upon some blocks. -/
abbrev Res := World → (Nat → Prop) → Prop
structure Stab (P : Res) : Prop where
  keep : ∀ {y y' : World} {T S : Nat → Prop}, P y S → Ch T y y' → (∀ i, S i → ¬ T i) → P y' S
  lt : ∀ {y : World} {S : Nat → Prop}, P y S → ∀ i, S i → i < y.heap.size
/-- Two that lie apart. -/
def Sep (P Q : Res) : Res := fun y S => ∃ S1 S2 : Nat → Prop, P y S1 ∧ Q y S2 ∧ (∀ i, S1 i → ¬ S2 i) ∧ ∀ i, S i ↔ S1 i ∨ S2 i
theorem Stab.sep {P Q : Res} (hP : Stab P) (hQ : Stab Q) : Stab (Sep P Q) where
  keep := fun {y y' T S} h hc hS => by
    obtain ⟨S1, S2, h1, h2, h3, h4⟩ := h
    exact ⟨S1, S2, hP.keep h1 hc (fun i hi => hS i ((h4 i).2 (Or.inl hi))), hQ.keep h2 hc (fun i hi => hS i ((h4 i).2 (Or.inr hi))), h3, h4⟩
  lt := fun {y S} h i hi => by
    obtain ⟨S1, S2, h1, h2, h3, h4⟩ := h
    rcases (h4 i).1 hi with h | h
    · exact hP.lt h1 i h
    · exact hQ.lt h2 i h
/-- What a call that may turn S leaves. -/
def Step (S : Nat → Prop) (y : World) (P : Res) (y' : World) : Prop := ∃ S', P y' S' ∧ Ch S y y' ∧ ∀ i, S' i → S i ∨ y.heap.size ≤ i
theorem Step.left {P' Q : Res} (hQ : Stab Q) {y y' : World} {S S1 S2 : Nat → Prop} (h2 : Q y S2) (h3 : ∀ i, S1 i → ¬ S2 i) (h4 : ∀ i, S i ↔ S1 i ∨ S2 i) (h : Step S1 y P' y') : Step S y (Sep P' Q) y' := by
  obtain ⟨S', k1, k2, k3⟩ := h
  refine ⟨fun i => S' i ∨ S2 i, ⟨S', S2, k1, hQ.keep h2 k2 (fun i hi hs => h3 i hs hi), fun i hi hs => ?_, fun i => Iff.rfl⟩, k2.mono (fun i _ hi => (h4 i).2 (Or.inl hi)), fun i hi => ?_⟩
  · rcases k3 i hi with e | e
    · exact h3 i e hs
    · have := hQ.lt h2 i hs; omega
  · rcases hi with hi | hi
    · exact (k3 i hi).imp (fun e => (h4 i).2 (Or.inl e)) id
    · exact Or.inl ((h4 i).2 (Or.inr hi))
theorem Sep.swap {P Q : Res} {y : World} {S : Nat → Prop} (h : Sep P Q y S) : Sep Q P y S := by
  obtain ⟨S1, S2, h1, h2, h3, h4⟩ := h
  exact ⟨S2, S1, h2, h1, fun i a b => h3 i b a, fun i => (h4 i).trans Or.comm⟩
theorem Step.mono {P P' : Res} {S : Nat → Prop} {y y' : World} (h : Step S y P y') (hp : ∀ T, P y' T → P' y' T) : Step S y P' y' := by
  obtain ⟨S', k1, k2, k3⟩ := h
  exact ⟨S', hp _ k1, k2, k3⟩
theorem Step.same {P : Res} (hP : Stab P) {S : Nat → Prop} {y y' : World} (h : P y S) (hb : Below y.heap.size y y') : Step S y P y' := ⟨S, hP.keep h (Ch.of_below hb : Ch (fun _ => False) y y') (fun _ _ e => e), Ch.of_below hb, fun _ hi => Or.inl hi⟩
/-- A thing of the call's own: from H on, in a world behind w. -/
def In (w : World) (H : Nat) (P : Res) (y : World) : Prop := ∃ S : Nat → Prop, P y S ∧ (∀ i, S i → H ≤ i) ∧ Below H w y ∧ H ≤ y.heap.size
theorem In.bel {w : World} {H : Nat} {P : Res} {y : World} (h : In w H P y) : Below H w y := by obtain ⟨S, _, _, h, _⟩ := h; exact h
theorem In.le {w : World} {H : Nat} {P : Res} {y : World} (h : In w H P y) : H ≤ y.heap.size := by obtain ⟨S, _, _, _, h⟩ := h; exact h
theorem In.call {w : World} {H : Nat} {P : Res} {y y' : World} (hP : Stab P) (h : In w H P y) (hb : Below y.heap.size y y') : In w H P y' := by
  obtain ⟨S, h1, h2, h3, h4⟩ := h
  exact ⟨S, hP.keep h1 (Ch.of_below hb : Ch (fun _ => False) y y') (fun _ _ e => e), h2, h3.trans (hb.mono h4), Nat.le_trans h4 hb.size⟩
theorem In.step {w : World} {H : Nat} {P P' : Res} {y y' : World} (h : In w H P y) (hs : ∀ S, P y S → Step S y P' y') : In w H P' y' := by
  obtain ⟨S, h1, h2, h3, h4⟩ := h
  obtain ⟨S', k1, k2, k3⟩ := hs S h1
  refine ⟨S', k1, fun i hi => ?_, h3.trans (k2.below h4 (fun i hi hs => by have := h2 i hs; omega)), Nat.le_trans h4 k2.size⟩
  rcases k3 i hi with e | e
  · exact h2 i e
  · omega
theorem In.mono {w : World} {H : Nat} {P P' : Res} {y : World} (h : In w H P y) (hp : ∀ S, P y S → P' y S) : In w H P' y := by
  obtain ⟨S, h1, h2⟩ := h
  exact ⟨S, hp S h1, h2⟩
/-- A call upon the thing. -/
theorem In.turn {w : World} {H : Nat} {P P' : Res} {y : World} {f : Nat} {args : Array Value} {R : Ending → Prop} (h : In w H P y) (hc : ∀ S, P y S → Calls Try.prog f args y fun e y' => R e ∧ Step S y P' y') : Calls Try.prog f args y fun e y' => R e ∧ In w H P' y' := by
  obtain ⟨S, h1, h2, h3, h4⟩ := h
  refine (hc S h1).mono fun e y' hh => ⟨hh.1, ?_⟩
  obtain ⟨S', k1, k2, k3⟩ := hh.2
  refine ⟨S', k1, fun i hi => ?_, h3.trans (k2.below h4 (fun i hi hs => by have := h2 i hs; omega)), Nat.le_trans h4 k2.size⟩
  rcases k3 i hi with e | e
  · exact h2 i e
  · omega
theorem turn_left {P P' Q : Res} (hQ : Stab Q) {y : World} {f : Nat} {args : Array Value} {R : Ending → Prop} (hc : ∀ S, P y S → Calls Try.prog f args y fun e y' => R e ∧ Step S y P' y') : ∀ S, Sep P Q y S → Calls Try.prog f args y fun e y' => R e ∧ Step S y (Sep P' Q) y' := by
  rintro S ⟨S1, S2, h1, h2, h3, h4⟩
  exact (hc S1 h1).mono fun e y' hh => ⟨hh.1, Step.left hQ h2 h3 h4 hh.2⟩
theorem turn_right {P P' Q : Res} (hQ : Stab Q) {y : World} {f : Nat} {args : Array Value} {R : Ending → Prop} (hc : ∀ S, P y S → Calls Try.prog f args y fun e y' => R e ∧ Step S y P' y') : ∀ S, Sep Q P y S → Calls Try.prog f args y fun e y' => R e ∧ Step S y (Sep Q P') y' := by
  rintro S ⟨S1, S2, h1, h2, h3, h4⟩
  exact (hc S2 h2).mono fun e y' hh => ⟨hh.1, (Step.left hQ h1 (fun i a b => h3 i b a) (fun i => (h4 i).trans Or.comm) hh.2).mono fun T hT => hT.swap⟩
/-- Something new beside what was there. -/
theorem In.add {w : World} {H : Nat} {P Q : Res} {y y' : World} (hP : Stab P) (h : In w H P y) (hb : Below y.heap.size y y') {S : Nat → Prop} (hQ : Q y' S) (hS : ∀ i, S i → y.heap.size ≤ i) : In w H (Sep P Q) y' := by
  obtain ⟨S1, h1, h2, h3, h4⟩ := h
  refine ⟨fun i => S1 i ∨ S i, ⟨S1, S, hP.keep h1 (Ch.of_below hb : Ch (fun _ => False) y y') (fun _ _ e => e), hQ, fun i a b => ?_, fun i => Iff.rfl⟩, fun i hi => ?_, h3.trans (hb.mono h4), Nat.le_trans h4 hb.size⟩
  · have := hP.lt h1 i a; have := hS i b; omega
  · rcases hi with hi | hi
    · exact h2 i hi
    · have := hS i hi; omega
theorem In.drop {w : World} {H : Nat} {P Q : Res} {y : World} (h : In w H (Sep P Q) y) : In w H P y := by
  obtain ⟨S, ⟨S1, S2, h1, h2, h3, h4⟩, k⟩ := h
  exact ⟨S1, h1, fun i hi => k.1 i ((h4 i).2 (Or.inl hi)), k.2⟩
theorem In.dropL {w : World} {H : Nat} {P Q : Res} {y : World} (h : In w H (Sep P Q) y) : In w H Q y := (h.mono fun _ hS => hS.swap).drop

/-- The blocks of records of one's own. -/
def HS (v : Value) (rs : List RI) : Nat → Prop := fun i => v.ownBlock = some i ∨ ∃ x ∈ rs, x.hv.ownBlock = some i
/-- Records of one's own. -/
def Hb (v : Value) (l : List Rec) : Res := fun y S => ∃ rs, Held y 0 v rs ∧ rs.map RI.r = l ∧ S = HS v rs
theorem Held.hlt {y : World} {v : Value} {rs : List RI} {B : Nat} (h : Held y B v rs) : ∀ i, HS v rs i → i < y.heap.size := fun i hi => by
  rcases hi with hi | ⟨x, hx, hi⟩
  · exact (World.ownsRow.lt h.row i hi).2
  · exact (World.ownsRow.lt (h.hds x hx) i hi).2
theorem Held.ch {y y' : World} {v : Value} {rs : List RI} {B : Nat} {T : Nat → Prop} (h : Held y B v rs) (hc : Ch T y y') (hT : ∀ i, HS v rs i → ¬ T i) : Held y' B v rs := h.kept fun g hg hs => hc.block g hg (hT g hs)
theorem Hb.stab (v : Value) (l : List Rec) : Stab (Hb v l) where
  keep := fun {y y' T S} h hc hS => by
    obtain ⟨rs, h1, h2, rfl⟩ := h
    exact ⟨rs, h1.ch hc hS, h2, rfl⟩
  lt := fun {y S} h i hi => by
    obtain ⟨rs, h1, h2, rfl⟩ := h
    exact h1.hlt i hi
/-- What a gatherer is: its bounds, what waits, its body's bytes, the next sequence. -/
structure Gs where
  b : Bnd
  l : List Rec
  k : Nat
  q : Int
structure GsOk (s : Gs) : Prop where
  b : BndOk s.b
  n : s.l.length ≤ 65536
  k : s.k ≤ 16777216
  t : ∀ x ∈ s.l, I64 x.t
  q : -1 ≤ s.q ∧ s.q ≤ 2147483647
  p : s.b.pr = -1 ∨ 0 ≤ s.q
def Gcell (y : World) (g jb : Nat) (s : Gs) (v : Value) : Prop := y.heap[g]? = some (.cells #[.slice (some ⟨jb, 0, none⟩) 5 5, .int .i64 0, .bool s.b.pk, .int .i64 s.b.pr, .int .i32 s.q, v, .int .i64 s.k] 30 (0, 0))
def Gat (g jb : Nat) (s : Gs) : Res := fun y S => ∃ v rs, Gcell y g jb s v ∧ Held y 0 v rs ∧ rs.map RI.r = s.l ∧ S = fun i => i = g ∨ HS v rs i
theorem Gat.stab (g jb : Nat) (s : Gs) : Stab (Gat g jb s) where
  keep := fun {y y' T S} h hc hS => by
    obtain ⟨v, rs, h0, h1, h2, rfl⟩ := h
    exact ⟨v, rs, (hc.block g (lt_of_heap h0) (hS g (Or.inl rfl))).trans h0, h1.ch hc (fun i hi => hS i (Or.inr hi)), h2, rfl⟩
  lt := fun {y S} h i hi => by
    obtain ⟨v, rs, h0, h1, h2, rfl⟩ := h
    rcases hi with rfl | hi
    · exact lt_of_heap h0
    · exact h1.hlt i hi
theorem cells7 {x : World} {P : Nat} {T : TypeId} {v0 v1 v2 v3 v4 v5 v6 : Value} (h : x.heap[P]? = some (.cells #[v0, v1, v2, v3, v4, v5, v6] T (0, 0))) : x.cell? ⟨P, 0, none⟩ = some v0 ∧ x.cell? ⟨P, 1, none⟩ = some v1 ∧ x.cell? ⟨P, 2, none⟩ = some v2 ∧ x.cell? ⟨P, 3, none⟩ = some v3 ∧ x.cell? ⟨P, 4, none⟩ = some v4 ∧ x.cell? ⟨P, 5, none⟩ = some v5 ∧ x.cell? ⟨P, 6, none⟩ = some v6 := ⟨(cell_of h).trans rfl, (cell_of h).trans rfl, (cell_of h).trans rfl, (cell_of h).trans rfl, (cell_of h).trans rfl, (cell_of h).trans rfl, (cell_of h).trans rfl⟩
/-- A batch's value. -/
def batA (pk : Bool) (pr q : Int) (v : Value) : Value := .agg #[.int .i64 0, .bool pk, .int .i64 pr, .int .i32 q, v]
def zeroB : Value := batA false 0 0 (.slice none 0 0)
set_option maxRecDepth 20000 in
theorem flush_none (g jb : Nat) (s : Gs) (a : Option Addr) (cap : Nat) (w : World) (h : Gcell w g jb s (.slice a 0 cap)) : Calls Try.prog 7 #[.pointer (some ⟨g, 0, none⟩)] w fun e w' => e = .returned (.tuple #[zeroB, .bool false]) ∧ Below w.heap.size w w' := by
  obtain ⟨c0, c1, c2, c3, c4, c5, c6⟩ := cells7 h
  have hlt := lt_of_heap h
  clear h
  unfold zeroB batA
  go_enter Try.func7, Try.ntmps7
  go_wp2_with fail
  exact bodyPost_ret (v := .tuple #[.agg #[.int .i64 0, .bool false, .int .i64 0, .int .i32 0, .slice none 0 0], .bool false]) (by simp [results, Try.results7, go_sem]) rfl ⟨rfl, (Below.refl _ w).alloc (Nat.le_refl _) _⟩
theorem flush_end {w x : World} {g : Nat} {T U : TypeId} {z0 z1 z2 z3 z4 v0 v1 v2 v3 v4 v5 v6 c0 c1 c2 c3 c4 c5 c6 : Value} (h : x.heap[g]? = some (.cells #[c0, c1, c2, c3, c4, c5, c6] U (0, 0))) (hr : x.heap[w.heap.size]? = some (.cells #[z0, z1, z2, z3, z4] T (0, 0))) (hg : g < w.heap.size) (hc : Ch (fun i => i = g) w x) :
    let y := ((((((x.setCell ⟨g, 4, none⟩ v4).setCell ⟨g, 6, none⟩ v6).setCell ⟨w.heap.size, 0, none⟩ v0).setCell ⟨w.heap.size, 1, none⟩ v1).setCell ⟨w.heap.size, 2, none⟩ v2).setCell ⟨w.heap.size, 3, none⟩ v3).setCell ⟨w.heap.size, 4, none⟩ v5
    (y.cell? ⟨w.heap.size, 0, none⟩ = some v0 ∧ y.cell? ⟨w.heap.size, 1, none⟩ = some v1 ∧ y.cell? ⟨w.heap.size, 2, none⟩ = some v2 ∧ y.cell? ⟨w.heap.size, 3, none⟩ = some v3 ∧ y.cell? ⟨w.heap.size, 4, none⟩ = some v5) ∧ y.heap[g]? = some (.cells #[c0, c1, c2, c3, v4, c5, v6] U (0, 0)) ∧ Ch (fun i => i = g) w y := by
  intro y
  have hne : w.heap.size ≠ g := by omega
  have hne' : g ≠ w.heap.size := by omega
  have hy : y.heap[w.heap.size]? = some (.cells #[v0, v1, v2, v3, v5] T (0, 0)) := heap_set (heap_set (heap_set (heap_set (heap_set (heap_set_far (heap_set_far hr hne) hne)))))
  have hz : y.heap[g]? = some (.cells #[c0, c1, c2, c3, v4, c5, v6] U (0, 0)) := heap_set_far (heap_set_far (heap_set_far (heap_set_far (heap_set_far (heap_set (heap_set h)) hne') hne') hne') hne') hne'
  have no : ∀ o : Nat, (⟨w.heap.size, o, none⟩ : Addr).block < w.heap.size → (⟨w.heap.size, o, none⟩ : Addr).block = g := fun o h => absurd h (Nat.lt_irrefl _)
  exact ⟨cells5 hy, hz, ((((((hc.setCell ⟨g, 4, none⟩ _ (fun _ => rfl)).setCell ⟨g, 6, none⟩ _ (fun _ => rfl)).setCell ⟨w.heap.size, 0, none⟩ _ (no 0)).setCell ⟨w.heap.size, 1, none⟩ _ (no 1)).setCell ⟨w.heap.size, 2, none⟩ _ (no 2)).setCell ⟨w.heap.size, 3, none⟩ _ (no 3)).setCell ⟨w.heap.size, 4, none⟩ _ (no 4)⟩
set_option maxRecDepth 20000 in
theorem flush_some (g jb : Nat) (s : Gs) (a : Option Addr) (n cap : Nat) (w : World) (hn : 0 < n) (hn2 : n ≤ 65536) (ok : GsOk s) (h : Gcell w g jb s (.slice a n cap)) : Calls Try.prog 7 #[.pointer (some ⟨g, 0, none⟩)] w fun e w' => e = .returned (.tuple #[batA s.b.pk s.b.pr s.q (.slice a n cap), .bool true]) ∧ Gcell w' g jb ⟨s.b, [], 0, behZ s.b.pr s.q n⟩ (.slice none 0 0) ∧ Ch (fun i => i = g) w w' := by
  have HC : Hid (∀ x, Calls Try.prog 18 #[.agg #[.int .i64 0, .bool s.b.pk, .int .i64 s.b.pr, .int .i32 s.q, .slice a n cap]] x fun e w' => e = .returned (.int .i32 (behZ s.b.pr s.q n)) ∧ Below x.heap.size x w') := fun x => behind_any s.b.pk s.b.pr s.q n cap a x ok.q ok.p hn2
  unfold Gcell at *
  obtain ⟨⟨R, P, F, sp, pk, pr, sq⟩, l, k, q⟩ := s
  dsimp only at *
  obtain ⟨c0, c1, c2, c3, c4, c5, c6⟩ := cells7 h
  have fz := fun o => froz_of (i := o) h
  have hlt := lt_of_heap h
  have HG := hid h
  clear h ok
  unfold batA
  generalize behZ pr q n = Z at *
  have HA : Hid ((((w.setCell ⟨g, 5, none⟩ (.slice none 0 0)).alloc (.cells #[.int .i64 0, .bool false, .int .i64 0, .int .i32 0, .slice none 0 0] 28)).alloc (.cells #[.int .i64 0, .bool pk, .int .i64 pr, .int .i32 q, .slice a n cap] 28)).heap[g]? = some (.cells #[.slice (some ⟨jb, 0, none⟩) 5 5, .int .i64 0, .bool pk, .int .i64 pr, .int .i32 q, .slice none 0 0, .int .i64 k] 30 (0, 0))) := heap_alloc_at (heap_alloc_at (heap_set HG.out))
  have HR : Hid ((((w.setCell ⟨g, 5, none⟩ (.slice none 0 0)).alloc (.cells #[.int .i64 0, .bool false, .int .i64 0, .int .i32 0, .slice none 0 0] 28)).alloc (.cells #[.int .i64 0, .bool pk, .int .i64 pr, .int .i32 q, .slice a n cap] 28)).heap[w.heap.size]? = some (.cells #[.int .i64 0, .bool false, .int .i64 0, .int .i32 0, .slice none 0 0] 28 (0, 0))) := heap_alloc_at (heap_new' _ _ _ (by simp))
  have HF : Hid ((((w.setCell ⟨g, 5, none⟩ (.slice none 0 0)).alloc (.cells #[.int .i64 0, .bool false, .int .i64 0, .int .i32 0, .slice none 0 0] 28)).alloc (.cells #[.int .i64 0, .bool pk, .int .i64 pr, .int .i32 q, .slice a n cap] 28)).heap[w.heap.size + 1]? = some (.cells #[.int .i64 0, .bool pk, .int .i64 pr, .int .i32 q, .slice a n cap] 28 (0, 0))) := heap_new' _ _ _ (by simp)
  have HCh : Hid (Ch (fun i => i = g) w (((w.setCell ⟨g, 5, none⟩ (.slice none 0 0)).alloc (.cells #[.int .i64 0, .bool false, .int .i64 0, .int .i32 0, .slice none 0 0] 28)).alloc (.cells #[.int .i64 0, .bool pk, .int .i64 pr, .int .i32 q, .slice a n cap] 28))) := (((Ch.refl (fun i => i = g) w).setCell ⟨g, 5, none⟩ _ (fun _ => rfl)).alloc _).alloc _
  have HL : Hid (w.heap.size + 1 < (((w.setCell ⟨g, 5, none⟩ (.slice none 0 0)).alloc (.cells #[.int .i64 0, .bool false, .int .i64 0, .int .i32 0, .slice none 0 0] 28)).alloc (.cells #[.int .i64 0, .bool pk, .int .i64 pr, .int .i32 q, .slice a n cap] 28)).heap.size) := by show _ < _; simp
  clear HG
  go_enter Try.func7, Try.ntmps7
  go_wp2_with (go_at_call 18; refine (HC.out _).mono ?_; rintro e w2 ⟨rfl, hb2⟩; have a2 := (hb2.block g (Nat.lt_trans hlt (Nat.lt_of_succ_lt HL.out))).trans HA.out; have r2 := (hb2.block w.heap.size (Nat.lt_of_succ_lt HL.out)).trans HR.out; have f2 := (hb2.block (w.heap.size + 1) HL.out).trans HF.out; obtain ⟨x0, x1, x2, x3, x4, x5, x6⟩ := cells7 a2; have fa := fun o => froz_of (i := o) a2; obtain ⟨y0, y1, y2, y3, y4⟩ := cells5 r2; have fr := fun o => froz_of (i := o) r2; obtain ⟨u0, u1, u2, u3, u4⟩ := cells5 f2; have A2 := hid a2; have R2 := hid r2; have C2 := hid (HCh.out.trans (Ch.of_below hb2)); clear a2 r2 f2 hb2)
  exact bodyPost_ret (v := .tuple #[.agg #[.int .i64 0, .bool pk, .int .i64 pr, .int .i32 q, .slice a n cap], .bool true]) (by obtain ⟨⟨j0, j1, j2, j3, j4⟩, _⟩ := flush_end (v4 := .int .i32 Z) (v6 := .int .i64 0) (v0 := .int .i64 0) (v1 := .bool pk) (v2 := .int .i64 pr) (v3 := .int .i32 q) (v5 := .slice a n cap) (w := w) A2.out R2.out hlt C2.out; simp [results, Try.results7, go_sem, j0, j1, j2, j3, j4]) rfl ⟨rfl, (flush_end A2.out R2.out hlt C2.out).2⟩
end Go.Proofs.Ytlbkkeoffeohnab
