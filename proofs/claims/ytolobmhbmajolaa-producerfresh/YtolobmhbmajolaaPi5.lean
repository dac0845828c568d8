/- step: one call of both books. -/
import Derived.Test.YtolobmhbmajolaaPi4
namespace Go.Proofs.Ytolobmhbmajolaa
open Go.RowKit
theorem Step.turn {S : Nat → Prop} {y z : World} {P P' : Res} {f : Nat} {args : Array Value} {R : Ending → Prop} (h : Step S y P z) (hc : ∀ T, P z T → Calls Try.prog f args z fun e z' => R e ∧ Step T z P' z') : Calls Try.prog f args z fun e z' => R e ∧ Step S y P' z' := by
  obtain ⟨T, h1, h2, h3⟩ := h
  refine (hc T h1).mono fun e z' hh => ⟨hh.1, ?_⟩
  obtain ⟨T', k1, k2, k3⟩ := hh.2
  refine ⟨T', k1, h2.then k2 (fun i hi hT => (h3 i hT).resolve_right (by omega)), fun i hi => ?_⟩
  rcases k3 i hi with e | e
  · exact h3 i e
  · exact Or.inr (Nat.le_trans h2.size e)
theorem Step.drop {S : Nat → Prop} {y z : World} {P Q : Res} (h : Step S y (Sep P Q) z) : Step S y P z := by
  obtain ⟨S', ⟨S1, S2, h1, _, _, h4⟩, k2, k3⟩ := h
  exact ⟨S1, h1, k2, fun i hi => k3 i ((h4 i).2 (Or.inl hi))⟩
theorem Step.right {S : Nat → Prop} {y z : World} {P Q : Res} (h : Step S y (Sep P Q) z) : ∃ T, Q z T := by
  obtain ⟨S', ⟨S1, S2, _, h2, _⟩, _⟩ := h
  exact ⟨S2, h2⟩
theorem Step.left' {S : Nat → Prop} {y z : World} {P Q : Res} (h : Step S y (Sep P Q) z) : ∃ T, P z T := by
  obtain ⟨S', ⟨S1, S2, h1, _⟩, _⟩ := h
  exact ⟨S1, h1⟩
/-- A block of the call's own. -/
def Bx (B : Nat) (T : TypeId) (cs : Array Value) : Res := fun y S => y.heap[B]? = some (.cells cs T (0, 0)) ∧ S = fun i => i = B
theorem Bx.stab (B : Nat) (T : TypeId) (cs : Array Value) : Stab (Bx B T cs) where
  keep := fun {y y' T S} h hc hS => by
    obtain ⟨h1, rfl⟩ := h
    exact ⟨(hc.block B (lt_of_heap h1) (hS B rfl)).trans h1, rfl⟩
  lt := fun {y S} h i hi => by
    obtain ⟨h1, rfl⟩ := h
    have e : i = B := hi
    rw [e]
    exact lt_of_heap h1
theorem Step.add {S : Nat → Prop} {y z : World} {P : Res} (hP : Stab P) (h : Step S y P z) (T : TypeId) (cs : Array Value) : Step S y (Sep P (Bx z.heap.size T cs)) (z.alloc (.cells cs T)) := by
  obtain ⟨S', k1, k2, k3⟩ := h
  refine ⟨fun i => S' i ∨ i = z.heap.size, ⟨S', _, hP.keep k1 ((Ch.refl (fun _ => False) z).alloc _) (fun _ _ e => e), ⟨heap_new _ _, rfl⟩, fun i hi e => ?_, fun i => Iff.rfl⟩, k2.alloc _, fun i hi => ?_⟩
  · have e' : i = z.heap.size := e
    have := hP.lt k1 i hi
    omega
  · rcases hi with hi | hi
    · exact k3 i hi
    · exact Or.inr (by rw [hi]; exact k2.size)
theorem Step.set {S : Nat → Prop} {y z : World} {P : Res} (hP : Stab P) {B i : Nat} {T : TypeId} {cs cs' : Array Value} {v : Value} (h : Step S y (Sep P (Bx B T cs)) z) (e : cs.setIfInBounds i v = cs') : Step S y (Sep P (Bx B T cs')) (z.setCell ⟨B, i, none⟩ v) := by
  obtain ⟨S', ⟨S1, S2, h1, ⟨h2, rfl⟩, h3, h4⟩, k2, k3⟩ := h
  have hc : Ch (fun j => j = B) z (z.setCell ⟨B, i, none⟩ v) := (Ch.refl _ z).setCell _ _ (fun _ => rfl)
  refine ⟨S', ⟨S1, _, hP.keep h1 hc (fun j hj e => h3 j hj e), ⟨by rw [← e]; exact heap_set h2, rfl⟩, h3, h4⟩, k2.then hc (fun j hj e => ?_), k3⟩
  exact (k3 j ((h4 j).2 (Or.inr e))).resolve_right (by omega)
/-- A call of the law's. -/
structure Oq where
  k : Nat
  h : Hd
  n : Int
structure OqOk (o : Oq) : Prop where
  k : o.k < 256
  h : HdOk o.h
def ov (o : Oq) : Array Value := #[.int .u8 o.k, .int .i64 o.h.b, .int .i64 o.h.l, .bool o.h.pk, .int .i64 o.h.c, .int .i64 o.h.f, .int .i64 o.h.g, .int .i64 o.h.p, .int .i32 o.h.s, .int .i64 o.n]
/-- What a step makes of the document's list. -/
def stp (l : List Hd) (o : Oq) : List Hd :=
  if o.k % 5 = 0 then rnote l o.h else if o.k % 5 = 2 then rfg o.n l else if o.k % 5 = 4 then rnote l ⟨o.h.b, o.h.l, o.h.pk, o.h.c, o.h.f, o.h.g, o.h.p, nxt (RF l o.h.p)⟩ else l
theorem nxt_b (l : List Nt) : 0 ≤ nxt l ∧ nxt l < 2147483648 := by
  unfold nxt
  split
  · exact nx_b _
  · omega
/-- What holds while a step is under way. -/
abbrev Qs (S : Nat → Prop) (y : World) (b c : Nat) (F : Int → List Nt) (k : Nat) (l : List Hd) (A : Array Value) (x : Hd) (z : World) : Prop :=
  Step S y (Sep (Sep (Sep (Bok b F k) (RB c l)) (Bx y.heap.size 31 A)) (Bx (y.heap.size + 1) 29 (hv x).toArray)) z
theorem Qs.stab (y : World) (b c : Nat) (F : Int → List Nt) (k : Nat) (l : List Hd) (A : Array Value) (x : Hd) : Stab (Sep (Sep (Sep (Bok b F k) (RB c l)) (Bx y.heap.size 31 A)) (Bx (y.heap.size + 1) 29 (hv x).toArray)) := (((Bok.stab _ _ _).sep (RB.stab _ _)).sep (Bx.stab _ _ _)).sep (Bx.stab _ _ _)
theorem Qs.call {S : Nat → Prop} {y : World} {b c : Nat} {F : Int → List Nt} {k : Nat} {l : List Hd} {A : Array Value} {x : Hd} {z z' : World} (h : Qs S y b c F k l A x z) (hb : Below z.heap.size z z') : Qs S y b c F k l A x z' := Step.below (Qs.stab _ _ _ _ _ _ _ _) h hb
theorem Qs.drew {S : Nat → Prop} {y : World} {b c : Nat} {F : Int → List Nt} {k : Nat} {l : List Hd} {A : Array Value} {x : Hd} {z : World} (h : Qs S y b c F k l A x z) : Qs S y b c F k l A x z.drew := h.call ⟨rfl, rfl, rfl, Nat.le_refl _, fun _ _ => rfl⟩
theorem Qs.start {S : Nat → Prop} {y : World} {b c k : Nat} {l : List Hd} (h : PB b c l k y S) (A : Array Value) (x : Hd) : Qs S y b c (RF l) k l A x ((y.alloc (.cells A 31)).alloc (.cells (hv x).toArray 29)) := by
  have h1 : Step S y (PB b c l k) y := ⟨S, h, Ch.refl _ _, fun _ hi => Or.inl hi⟩
  have h2 := Step.add (PB.stab b c l k) h1 31 A
  have h3 := Step.add ((PB.stab b c l k).sep (Bx.stab _ _ _)) h2 29 (hv x).toArray
  rw [World.size_alloc] at h3
  exact h3
theorem Qs.head {S : Nat → Prop} {y : World} {b c : Nat} {F : Int → List Nt} {k : Nat} {l : List Hd} {A : Array Value} {x : Hd} {z : World} (h : Qs S y b c F k l A x z) : z.heap[y.heap.size + 1]? = some (.cells (hv x).toArray 29 (0, 0)) := by
  obtain ⟨T, h1, _⟩ := h.right
  exact h1
theorem Qs.op {S : Nat → Prop} {y : World} {b c : Nat} {F : Int → List Nt} {k : Nat} {l : List Hd} {A : Array Value} {x : Hd} {z : World} (h : Qs S y b c F k l A x z) : z.heap[y.heap.size]? = some (.cells A 31 (0, 0)) := by
  obtain ⟨T, h1, _⟩ := h.drop.right
  exact h1
theorem Qs.note1 {S : Nat → Prop} {y : World} {b c : Nat} {F : Int → List Nt} {k : Nat} {l : List Hd} {A : Array Value} {x : Hd} {z : World} (h : Qs S y b c F k l A x z) (u : Hd) (hu : HdOk u) (hk : k < 4611686018427387904) :
    Calls Try.prog 20 #[.pointer (some ⟨b, 0, none⟩), hdA u] z fun e z' => e = .returned (.int .i64 (noteE u)) ∧ Qs S y b c (noteF F u) (k + 1) l A x z' :=
  Step.turn (R := fun e => e = .returned (.int .i64 (noteE u))) h (turn_left (Bx.stab _ _ _) (turn_left (Bx.stab _ _ _) (turn_left (RB.stab _ _) (Bok.note u hu hk))))
theorem Qs.note2 {S : Nat → Prop} {y : World} {b c : Nat} {F : Int → List Nt} {k : Nat} {l : List Hd} {A : Array Value} {x : Hd} {z : World} (h : Qs S y b c F k l A x z) (u : Hd) (hl : l.length < 2199023255552) :
    Calls Try.prog 33 #[.pointer (some ⟨c, 0, none⟩), hdA u] z fun e z' => e = .returned (.int .i64 (noteE u)) ∧ Qs S y b c F k (rnote l u) A x z' :=
  Step.turn (R := fun e => e = .returned (.int .i64 (noteE u))) h (turn_left (Bx.stab _ _ _) (turn_left (Bx.stab _ _ _) (turn_right (Bok.stab _ _ _) (fun T hT => rnote_any c l u hl z T hT))))
theorem Bok.forget {b : Nat} {F : Int → List Nt} {k : Nat} {y : World} (below : Int) (hk : k < 4611686018427387904) {ps ps' : List Int} (h1 : Ids F ps) (h2 : Ids (fun q => fg below (F q)) ps') : ∀ S, Bok b F k y S →
    Calls Try.prog 17 #[.pointer (some ⟨b, 0, none⟩), .int .i64 below] y fun e w' => e = .returned (.int .i64 ((ps.length : Int) - (ps'.length : Int))) ∧ Step S y (Bok b (fun q => fg below (F q)) k) w' := by
  rintro S ⟨m, fs, hb, hF, hfl, rfl⟩
  have e1 : ps.length = fs.length := by rw [h1.uniq (hb.pids hF), List.length_map]
  cases m with
  | none =>
    refine (bforget_none b fs below y hb).mono ?_
    rintro e w' ⟨rfl, rfl, hbel⟩
    have hF0 : ∀ q, F q = [] := fun q => (hF q).symm
    have e2 : ps' = [] := by
      cases hp : ps' with
      | nil => rfl
      | cons a r =>
        have := (h2.mem a).1 (by rw [hp]; simp)
        exact absurd (by rw [hF0]; rfl) this
    refine ⟨?_, (Step.same (Bok.stab b F k) ⟨none, [], hb, hF, hfl, rfl⟩ hbel).mono fun T hT => hT.same (fun q => by rw [hF0]; rfl)⟩
    rw [e1, e2]
    rfl
  | some mb =>
    refine (bforget_some b mb fs below (by omega) y hb).mono ?_
    rintro e w' ⟨fs', rfl, hb', hF', hle, hc, hft⟩
    have hF2 : ∀ q, fv fs' q = fg below (F q) := fun q => (hF' q).trans (by rw [hF q])
    have e2 : ps'.length = fs'.length := by rw [h2.uniq (hb'.pids hF2), List.length_map]
    exact ⟨by rw [e1, e2], _, ⟨some mb, fs', hb', hF2, by omega, rfl⟩, hc, fun i hi => Or.inl (hft i hi)⟩
theorem Qs.forget1 {S : Nat → Prop} {y : World} {b c : Nat} {F : Int → List Nt} {k : Nat} {l : List Hd} {A : Array Value} {x : Hd} {z : World} (h : Qs S y b c F k l A x z) (below : Int) (hk : k < 4611686018427387904) {ps ps' : List Int} (h1 : Ids F ps) (h2 : Ids (fun q => fg below (F q)) ps') :
    Calls Try.prog 17 #[.pointer (some ⟨b, 0, none⟩), .int .i64 below] z fun e z' => e = .returned (.int .i64 ((ps.length : Int) - (ps'.length : Int))) ∧ Qs S y b c (fun q => fg below (F q)) k l A x z' :=
  Step.turn (R := fun e => e = .returned (.int .i64 ((ps.length : Int) - (ps'.length : Int)))) h (turn_left (Bx.stab _ _ _) (turn_left (Bx.stab _ _ _) (turn_left (RB.stab _ _) (Bok.forget below hk h1 h2))))
theorem Qs.forget2 {S : Nat → Prop} {y : World} {b c : Nat} {F : Int → List Nt} {k : Nat} {l : List Hd} {A : Array Value} {x : Hd} {z : World} (h : Qs S y b c F k l A x z) (below : Int) (ok : RbOk l) (hl : l.length ≤ 2199023255552) {ps ps' : List Int} (h1 : Ids (RF l) ps) (h2 : Ids (RF (rfg below l)) ps') :
    Calls Try.prog 34 #[.pointer (some ⟨c, 0, none⟩), .int .i64 below] z fun e z' => e = .returned (.int .i64 ((ps.length : Int) - (ps'.length : Int))) ∧ Qs S y b c F k (rfg below l) A x z' :=
  Step.turn (R := fun e => e = .returned (.int .i64 ((ps.length : Int) - (ps'.length : Int)))) h (turn_left (Bx.stab _ _ _) (turn_left (Bx.stab _ _ _) (turn_right (Bok.stab _ _ _) (fun T hT => by
    refine (rforget_any c l below z T hT ok hl).mono ?_
    rintro e z' ⟨qs, qs', rfl, i1, i2, hst⟩
    exact ⟨by rw [i1.uniq h1, i2.uniq h2], hst⟩))))
end Go.Proofs.Ytolobmhbmajolaa
