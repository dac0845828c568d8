/- A head in a box of its own; ProducerApart. -/
import Derived.Test.YtolobmhbmajolaaPf4
import Derived.Deep.LoopGhost
namespace Go.Proofs.Ytolobmhbmajolaa
open Go.RowKit
def Box (B : Nat) (x : Hd) : Res := fun y S => y.heap[B]? = some (.cells (hv x).toArray 29 (0, 0)) ∧ S = fun i => i = B
theorem Box.stab (B : Nat) (x : Hd) : Stab (Box B x) where
  keep := fun {y y' T S} h hc hS => by
    obtain ⟨h1, rfl⟩ := h
    exact ⟨(hc.block B (lt_of_heap h1) (hS B rfl)).trans h1, rfl⟩
  lt := fun {y S} h i hi => by
    obtain ⟨h1, rfl⟩ := h
    have e : i = B := hi
    rw [e]
    exact lt_of_heap h1
theorem Box.set {R : Res} (hR : Stab R) {w : World} {H B k : Nat} {x x' : Hd} {v : Value} {y : World} (h : In w H (Sep R (Box B x)) y) (e : (hv x).toArray.setIfInBounds k v = (hv x').toArray) : In w H (Sep R (Box B x')) (y.setCell ⟨B, k, none⟩ v) := by
  refine h.step ?_
  rintro S ⟨S1, S2, h1, h2, h3, h4⟩
  refine (Step.left hR h1 (fun i a b => h3 i b a) (fun i => (h4 i).trans Or.comm) (P' := Box B x') ?_).mono fun T hT => hT.swap
  obtain ⟨h2, rfl⟩ := h2
  exact ⟨_, ⟨by rw [← e]; exact heap_set h2, rfl⟩, (Ch.refl _ y).setCell _ _ (fun _ => rfl), fun _ hi => Or.inl hi⟩
theorem In.box {R : Res} {w : World} {H B : Nat} {x : Hd} {y : World} (h : In w H (Sep R (Box B x)) y) : y.heap[B]? = some (.cells (hv x).toArray 29 (0, 0)) := by
  obtain ⟨S, ⟨S1, S2, h1, h2, _⟩, _⟩ := h
  exact h2.1
theorem In.boxNew {R : Res} (hR : Stab R) {w : World} {H : Nat} {x : Hd} {y : World} (h : In w H R y) : In w H (Sep R (Box y.heap.size x)) (y.alloc (.cells (hv x).toArray 29)) :=
  h.add hR ((Below.refl _ y).alloc (Nat.le_refl _) _) ⟨heap_new _ _, rfl⟩ (fun i hi => by have e : i = y.heap.size := hi; omega)
theorem box_cells {y : World} {B : Nat} {x : Hd} (h : y.heap[B]? = some (.cells (hv x).toArray 29 (0, 0))) :
    y.cell? ⟨B, 0, none⟩ = some (.int .i64 x.b) ∧ y.cell? ⟨B, 1, none⟩ = some (.int .i64 x.l) ∧ y.cell? ⟨B, 2, none⟩ = some (.bool x.pk) ∧ y.cell? ⟨B, 3, none⟩ = some (.int .i64 x.c) ∧ y.cell? ⟨B, 4, none⟩ = some (.int .i64 x.f) ∧ y.cell? ⟨B, 5, none⟩ = some (.int .i64 x.g) ∧ y.cell? ⟨B, 6, none⟩ = some (.int .i64 x.p) ∧ y.cell? ⟨B, 7, none⟩ = some (.int .i32 x.s) ∧ ∀ i, y.frozen? ⟨B, i, none⟩ = false := by
  obtain ⟨c0, c1, c2, c3, c4, c5, c6, c7⟩ := cells8 h
  exact ⟨c0, c1, c2, c3, c4, c5, c6, c7, fun i => froz_of h⟩
theorem noteF_at {F : Int → List Nt} {x : Hd} {q : Int} (h : q ≠ x.p) : noteF F x q = F q := by
  unfold noteF
  split
  · unfold kpF'; rw [if_neg h]
  · rfl
theorem noteF_same {F G : Int → List Nt} {x : Hd} {q : Int} (h : F q = G q) : noteF F x q = noteF G x q := by
  by_cases e : q = x.p
  · subst e
    unfold noteF
    split
    · unfold kpF'; rw [if_pos rfl, if_pos rfl, h]
    · exact h
  · rw [noteF_at e, noteF_at e, h]
theorem noteF_none {F : Int → List Nt} {x : Hd} (h : x.p = -1) : noteF F x = F := by
  unfold noteF
  rw [if_neg (fun k => k.2 h)]
theorem mask_b (x : Int) : 0 ≤ bits BinOp.and IntKind.i32 x 2147483647 ∧ bits BinOp.and IntKind.i32 x 2147483647 < 2147483648 := by
  have h1 : (BitVec.ofInt 32 x).toNat &&& (BitVec.ofInt 32 2147483647).toNat ≤ 2147483647 := Nat.and_le_right
  have e : bits BinOp.and IntKind.i32 x 2147483647 = IntKind.i32.wrap (((BitVec.ofInt 32 x).toNat &&& (BitVec.ofInt 32 2147483647).toNat : Nat) : Int) := rfl
  rw [e]
  generalize (BitVec.ofInt 32 x).toNat &&& (BitVec.ofInt 32 2147483647).toNat = n at *
  rw [IntKind.wrap_i32]
  omega
structure HdOk1 (x : Hd) : Prop where
  c0 : -9223372036854775808 ≤ x.c
  c1 : x.c < 9223372036854775808
  b0 : -9223372036854775808 ≤ x.b
  b1 : x.b < 9223372036854775808
def with2 (x : Hd) (p s : Int) : Hd := ⟨x.b, x.l, x.pk, x.c, x.f, x.g, p, s⟩
theorem HdOk1.to {x : Hd} (h : HdOk1 x) {p s : Int} (p0 : -1 ≤ p) (p1 : p < 65536) (s0 : -2147483648 ≤ s) (s1 : s < 2147483648) : HdOk (with2 x p s) :=
  ⟨by show _ ≤ p; omega, by show p < _; omega, s0, s1, h.c0, h.c1, h.b0, h.b1⟩
/-- What holds in the loop. -/
structure Ap (p : Int) (F G : Int → List Nt) : Prop where
  eq : F p = G p
  no : F (-1) = []
theorem Ap.step {p q s t u : Int} {F G : Int → List Nt} (h : Ap p F G) (hpq : p ≠ q) (hp : 0 ≤ p) (hq : 0 ≤ q) (x : Hd) : Ap p (noteF (noteF (noteF F (with2 x p s)) (with2 x q t)) (with2 x (-1) u)) (noteF G (with2 x p s)) := by
  rw [noteF_none (show (with2 x (-1) u).p = -1 from rfl)]
  refine ⟨?_, ?_⟩
  · rw [noteF_at (show p ≠ (with2 x q t).p from hpq)]
    exact noteF_same h.eq
  · rw [noteF_at (show (-1 : Int) ≠ (with2 x q t).p from by show (-1 : Int) ≠ q; omega), noteF_at (show (-1 : Int) ≠ (with2 x p s).p from by show (-1 : Int) ≠ p; omega), h.no]
theorem wrap32_b (i : Int) : -2147483648 ≤ IntKind.i32.wrap i ∧ IntKind.i32.wrap i < 2147483648 := by rw [IntKind.wrap_i32]; omega
end Go.Proofs.Ytolobmhbmajolaa
