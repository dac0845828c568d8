/- ProducerPlays: its walk. -/
import Derived.Test.YtolobmhbmajolaaPi6
import Derived.Test.YtolobmhbmajolaaPio
namespace Go.Proofs.Ytolobmhbmajolaa
open Go.RowKit
structure R6 (l : List Hd) : Prop where
  r : R5 l
  b : HdB l
theorem R6.nil : R6 [] := ⟨R5.nil, ⟨fun _ h => by cases h⟩⟩
theorem R6.note {l : List Hd} (h : R6 l) {x : Hd} (hx : HdOk x) : R6 (rnote l x) := by
  refine ⟨h.r.note hx, ⟨fun y hy => ?_⟩⟩
  unfold rnote at hy
  split at hy
  · rcases List.mem_append.1 hy with hy | hy
    · refine h.b.p1 y ?_
      unfold rmB at hy
      split at hy
      · exact rm_mem hy
      · exact hy
    · rw [List.mem_singleton.1 hy]
      exact hx.p1
  · exact h.b.p1 y hy
theorem R6.forget {l : List Hd} (h : R6 l) (n : Int) : R6 (rfg n l) := ⟨h.r.forget n, ⟨fun y hy => h.b.p1 y (List.mem_filter.1 hy).1⟩⟩
theorem R6.stp {l : List Hd} (h : R6 l) {o : Oq} (ho : OqOk o) : R6 (stp l o) := by
  unfold Go.Proofs.Ytolobmhbmajolaa.stp
  split
  · exact h.note ho.h
  · split
    · exact h.forget _
    · split
      · obtain ⟨n0, n1⟩ := nxt_b (RF l o.h.p)
        exact h.note ⟨ho.h.p0, ho.h.p1, by show _ ≤ nxt _; omega, n1, ho.h.c0, ho.h.c1, ho.h.b0, ho.h.b1⟩
      · exact h
theorem stp_len (l : List Hd) (o : Oq) : (stp l o).length ≤ l.length + 1 := by
  unfold stp
  split
  · exact rnote_len _ _
  · split
    · have := rfg_len o.n l; omega
    · split
      · exact rnote_len _ _
      · omega
theorem Sep.assoc {P Q R : Res} {y : World} {S : Nat → Prop} (h : Sep (Sep P Q) R y S) : Sep P (Sep Q R) y S := by
  obtain ⟨S12, S3, ⟨S1, S2, h1, h2, d12, e12⟩, h3, d3, e3⟩ := h
  refine ⟨S1, fun i => S2 i ∨ S3 i, h1, ⟨S2, S3, h2, h3, fun i a b => d3 i ((e12 i).2 (Or.inr a)) b, fun i => Iff.rfl⟩, fun i a b => ?_, fun i => ?_⟩
  · rcases b with b | b
    · exact d12 i a b
    · exact d3 i ((e12 i).2 (Or.inl a)) b
  · rw [e3 i, e12 i]
    exact or_assoc
/-- The books and a call's box. -/
abbrev G1 (w : World) (X B : Nat) (l : List Hd) (k : Nat) (o : Oq) (y : World) : Prop := In w X (Sep (PB X (X + 1) l k) (Bx B 31 (ov o))) y
/-- The same, and their clones. -/
abbrev G2 (w : World) (X B : Nat) (l : List Hd) (k : Nat) (o : Oq) (b c : Nat) (l2 : List Hd) (k2 : Nat) (y : World) : Prop := In w X (Sep (Sep (PB X (X + 1) l k) (Bx B 31 (ov o))) (PB b c l2 k2)) y
theorem g1_stab (X B : Nat) (l : List Hd) (k : Nat) (o : Oq) : Stab (Sep (PB X (X + 1) l k) (Bx B 31 (ov o))) := (PB.stab _ _ _ _).sep (Bx.stab _ _ _)
theorem G1.box {w : World} {X B : Nat} {l : List Hd} {k : Nat} {o : Oq} {y : World} (h : G1 w X B l k o y) : y.heap[B]? = some (.cells (ov o) 31 (0, 0)) := by
  obtain ⟨S, ⟨S1, S2, _, h2, _⟩, _⟩ := h
  exact h2.1
theorem G1.new {w : World} {X : Nat} {l : List Hd} {k : Nat} {y : World} (h : In w X (PB X (X + 1) l k) y) (o : Oq) : G1 w X y.heap.size l k o (y.alloc (.cells (ov o) 31)) :=
  h.add (PB.stab _ _ _ _) ((Below.refl _ y).alloc (Nat.le_refl _) _) ⟨heap_new _ _, rfl⟩ (fun i hi => by have e : i = y.heap.size := hi; omega)
theorem G1.step {w : World} {X B : Nat} {l : List Hd} {k : Nat} {o : Oq} {y : World} (h : G1 w X B l k o y) (ho : OqOk o) (hk : k < 2199023255552) (hl : l.length < 2199023255552) (h6 : R6 l) :
    Calls Try.prog 14 #[.pointer (some ⟨X, 0, none⟩), .pointer (some ⟨X + 1, 0, none⟩), .agg (ov o)] y fun e y' => e = .returned (.bool true) ∧ G1 w X B (stp l o) (k + 1) o y' :=
  In.turn (R := fun e => e = .returned (.bool true)) h (turn_left (Bx.stab _ _ _) (fun T hT => step_any X (X + 1) l k o ho hk hl h6.r y T hT))
theorem G1.agree {w : World} {X B : Nat} {l : List Hd} {k : Nat} {o : Oq} {y : World} (h : G1 w X B l k o y) (hk : k ≤ 2199023255552) (hl : l.length ≤ 2199023255552) (h6 : R6 l) :
    Calls Try.prog 13 #[.pointer (some ⟨X, 0, none⟩), .pointer (some ⟨X + 1, 0, none⟩)] y fun e y' => e = .returned (.bool true) ∧ G1 w X B l k o y' := by
  obtain ⟨S, hS, _⟩ := h.drop
  exact (agree_any X (X + 1) l k hk hl h6.r h6.b y S hS).mono fun e y' hh => ⟨hh.1, h.call (g1_stab _ _ _ _ _) hh.2⟩
theorem G1.clone1 {w : World} {X B : Nat} {l : List Hd} {k : Nat} {o : Oq} {y : World} (h : G1 w X B l k o y) (hk : k ≤ 2199023255552) :
    Calls Try.prog 11 #[.pointer (some ⟨X, 0, none⟩)] y fun e y' => ∃ b, e = .returned (.pointer (some ⟨b, 0, none⟩)) ∧ In w X (Sep (Sep (PB X (X + 1) l k) (Bx B 31 (ov o))) (Bok b (RF l) k)) y' := by
  obtain ⟨S, hS, _⟩ := h.drop
  obtain ⟨S', m, fs, hb, hF, hfl, _⟩ := PB.b hS
  refine (bclone_any X m fs (by omega) y hb).mono ?_
  rintro e y' ⟨b, m', gs, rfl, hg, hgF, hgl, hbel, hft⟩
  exact ⟨b, rfl, h.add (g1_stab _ _ _ _ _) hbel ⟨m', gs, hg, fun q => (hgF q).trans (hF q), by omega, rfl⟩ hft⟩
theorem G1.clone2 {w : World} {X B : Nat} {l : List Hd} {k : Nat} {o : Oq} {b : Nat} {y : World} (h : In w X (Sep (Sep (PB X (X + 1) l k) (Bx B 31 (ov o))) (Bok b (RF l) k)) y) (hl : l.length ≤ 2199023255552) :
    Calls Try.prog 12 #[.pointer (some ⟨X + 1, 0, none⟩)] y fun e y' => ∃ c, e = .returned (.pointer (some ⟨c, 0, none⟩)) ∧ G2 w X B l k o b c l k y' := by
  obtain ⟨S, hS, _⟩ := h.drop.drop
  obtain ⟨S', hc⟩ := PB.c hS
  refine (rclone_any (X + 1) l y S' hc hl).mono ?_
  rintro e y' ⟨rfl, ⟨T, hT, hlow⟩, hbel⟩
  exact ⟨_, rfl, (h.add ((g1_stab _ _ _ _ _).sep (Bok.stab _ _ _)) hbel hT hlow).mono fun S hS => hS.assoc⟩
theorem g2_stab (X B : Nat) (l : List Hd) (k : Nat) (o : Oq) (b c : Nat) (l2 : List Hd) (k2 : Nat) : Stab (Sep (Sep (PB X (X + 1) l k) (Bx B 31 (ov o))) (PB b c l2 k2)) := (g1_stab _ _ _ _ _).sep (PB.stab _ _ _ _)
theorem G2.agree {w : World} {X B : Nat} {l : List Hd} {k : Nat} {o : Oq} {b c : Nat} {l2 : List Hd} {k2 : Nat} {y : World} (h : G2 w X B l k o b c l2 k2 y) (hk : k2 ≤ 2199023255552) (hl : l2.length ≤ 2199023255552) (h6 : R6 l2) :
    Calls Try.prog 13 #[.pointer (some ⟨b, 0, none⟩), .pointer (some ⟨c, 0, none⟩)] y fun e y' => e = .returned (.bool true) ∧ G2 w X B l k o b c l2 k2 y' := by
  obtain ⟨S, hS, _⟩ := h.dropL
  exact (agree_any b c l2 k2 hk hl h6.r h6.b y S hS).mono fun e y' hh => ⟨hh.1, h.call (g2_stab _ _ _ _ _ _ _ _ _) hh.2⟩
theorem G2.step {w : World} {X B : Nat} {l : List Hd} {k : Nat} {o : Oq} {b c : Nat} {l2 : List Hd} {k2 : Nat} {y : World} (h : G2 w X B l k o b c l2 k2 y) (u : Oq) (hu : OqOk u) (hk : k2 < 2199023255552) (hl : l2.length < 2199023255552) (h6 : R6 l2) :
    Calls Try.prog 14 #[.pointer (some ⟨b, 0, none⟩), .pointer (some ⟨c, 0, none⟩), .agg (ov u)] y fun e y' => e = .returned (.bool true) ∧ G2 w X B l k o b c (stp l2 u) (k2 + 1) y' :=
  In.turn (R := fun e => e = .returned (.bool true)) h (turn_right (g1_stab _ _ _ _ _) (fun T hT => step_any b c l2 k2 u hu hk hl h6.r y T hT))
theorem cells10' {w : World} {p : Nat} {T : TypeId} {fz : Nat × Nat} {v0 v1 v2 v3 v4 v5 v6 v7 v8 v9 : Value} (h : w.heap[p]? = some (.cells #[v0, v1, v2, v3, v4, v5, v6, v7, v8, v9] T fz)) :
    w.cell? ⟨p, 0, none⟩ = some v0 ∧ w.cell? ⟨p, 1, none⟩ = some v1 ∧ w.cell? ⟨p, 2, none⟩ = some v2 ∧ w.cell? ⟨p, 3, none⟩ = some v3 ∧ w.cell? ⟨p, 4, none⟩ = some v4 ∧ w.cell? ⟨p, 5, none⟩ = some v5 ∧ w.cell? ⟨p, 6, none⟩ = some v6 ∧ w.cell? ⟨p, 7, none⟩ = some v7 ∧ w.cell? ⟨p, 8, none⟩ = some v8 ∧ w.cell? ⟨p, 9, none⟩ = some v9 := ⟨(cell_of h).trans rfl, (cell_of h).trans rfl, (cell_of h).trans rfl, (cell_of h).trans rfl, (cell_of h).trans rfl, (cell_of h).trans rfl, (cell_of h).trans rfl, (cell_of h).trans rfl, (cell_of h).trans rfl, (cell_of h).trans rfl⟩
end Go.Proofs.Ytolobmhbmajolaa
