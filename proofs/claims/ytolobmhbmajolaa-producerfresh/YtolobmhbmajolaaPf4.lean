/- Things that lie apart in memory. -/
import Derived.Test.YtolobmhbmajolaaPf3
namespace Go.Proofs.Ytolobmhbmajolaa
open Go.RowKit
/-- What lies in a world upon some blocks. -/
abbrev Res := World → (Nat → Prop) → Prop
structure Stab (P : Res) : Prop where
  keep : ∀ {y y' : World} {T S : Nat → Prop}, P y S → Ch T y y' → (∀ i, S i → ¬ T i) → P y' S
  lt : ∀ {y : World} {S : Nat → Prop}, P y S → ∀ i, S i → i < y.heap.size
/-- Two that lie apart. -/
def Sep (P Q : Res) : Res := fun y S => ∃ S1 S2 : Nat → Prop, P y S1 ∧ Q y S2 ∧ (∀ i, S1 i → ¬ S2 i) ∧ ∀ i, S i ↔ S1 i ∨ S2 i
theorem Stab.sep {P Q : Res} (hP : Stab P) (hQ : Stab Q) : Stab (Sep P Q) where
  keep := fun {y y' T S} h hc hS => by
    obtain ⟨S1, S2, h1, h2, h3, h4⟩ := h
    exact ⟨S1, S2, hP.keep h1 hc (fun i hi => hS i ((h4 i).2 (Or.inl hi))), hQ.keep h2 hc (fun i hi => hS i ((h4 i).2 (Or.inr hi))), h3, h4⟩
  lt := fun {y S} h i hi => by
    obtain ⟨S1, S2, h1, h2, h3, h4⟩ := h
    rcases (h4 i).1 hi with h | h
    · exact hP.lt h1 i h
    · exact hQ.lt h2 i h
/-- What a call that may turn S leaves. -/
def Step (S : Nat → Prop) (y : World) (P : Res) (y' : World) : Prop := ∃ S', P y' S' ∧ Ch S y y' ∧ ∀ i, S' i → S i ∨ y.heap.size ≤ i
theorem Step.left {P' Q : Res} (hQ : Stab Q) {y y' : World} {S S1 S2 : Nat → Prop} (h2 : Q y S2) (h3 : ∀ i, S1 i → ¬ S2 i) (h4 : ∀ i, S i ↔ S1 i ∨ S2 i) (h : Step S1 y P' y') : Step S y (Sep P' Q) y' := by
  obtain ⟨S', k1, k2, k3⟩ := h
  refine ⟨fun i => S' i ∨ S2 i, ⟨S', S2, k1, hQ.keep h2 k2 (fun i hi hs => h3 i hs hi), fun i hi hs => ?_, fun i => Iff.rfl⟩, k2.mono (fun i _ hi => (h4 i).2 (Or.inl hi)), fun i hi => ?_⟩
  · rcases k3 i hi with e | e
    · exact h3 i e hs
    · have := hQ.lt h2 i hs; omega
  · rcases hi with hi | hi
    · exact (k3 i hi).imp (fun e => (h4 i).2 (Or.inl e)) id
    · exact Or.inl ((h4 i).2 (Or.inr hi))
theorem Sep.swap {P Q : Res} {y : World} {S : Nat → Prop} (h : Sep P Q y S) : Sep Q P y S := by
  obtain ⟨S1, S2, h1, h2, h3, h4⟩ := h
  exact ⟨S2, S1, h2, h1, fun i a b => h3 i b a, fun i => (h4 i).trans Or.comm⟩
theorem Step.mono {P P' : Res} {S : Nat → Prop} {y y' : World} (h : Step S y P y') (hp : ∀ T, P y' T → P' y' T) : Step S y P' y' := by
  obtain ⟨S', k1, k2, k3⟩ := h
  exact ⟨S', hp _ k1, k2, k3⟩
theorem Step.same {P : Res} (hP : Stab P) {S : Nat → Prop} {y y' : World} (h : P y S) (hb : Below y.heap.size y y') : Step S y P y' := ⟨S, hP.keep h (Ch.of_below hb : Ch (fun _ => False) y y') (fun _ _ e => e), Ch.of_below hb, fun _ hi => Or.inl hi⟩
/-- A thing of the call's own: from H on, in a world behind w. -/
def In (w : World) (H : Nat) (P : Res) (y : World) : Prop := ∃ S : Nat → Prop, P y S ∧ (∀ i, S i → H ≤ i) ∧ Below H w y ∧ H ≤ y.heap.size
theorem In.bel {w : World} {H : Nat} {P : Res} {y : World} (h : In w H P y) : Below H w y := by obtain ⟨S, _, _, h, _⟩ := h; exact h
theorem In.le {w : World} {H : Nat} {P : Res} {y : World} (h : In w H P y) : H ≤ y.heap.size := by obtain ⟨S, _, _, _, h⟩ := h; exact h
theorem In.call {w : World} {H : Nat} {P : Res} {y y' : World} (hP : Stab P) (h : In w H P y) (hb : Below y.heap.size y y') : In w H P y' := by
  obtain ⟨S, h1, h2, h3, h4⟩ := h
  exact ⟨S, hP.keep h1 (Ch.of_below hb : Ch (fun _ => False) y y') (fun _ _ e => e), h2, h3.trans (hb.mono h4), Nat.le_trans h4 hb.size⟩
theorem In.step {w : World} {H : Nat} {P P' : Res} {y y' : World} (h : In w H P y) (hs : ∀ S, P y S → Step S y P' y') : In w H P' y' := by
  obtain ⟨S, h1, h2, h3, h4⟩ := h
  obtain ⟨S', k1, k2, k3⟩ := hs S h1
  refine ⟨S', k1, fun i hi => ?_, h3.trans (k2.below h4 (fun i hi hs => by have := h2 i hs; omega)), Nat.le_trans h4 k2.size⟩
  rcases k3 i hi with e | e
  · exact h2 i e
  · omega
theorem In.mono {w : World} {H : Nat} {P P' : Res} {y : World} (h : In w H P y) (hp : ∀ S, P y S → P' y S) : In w H P' y := by
  obtain ⟨S, h1, h2⟩ := h
  exact ⟨S, hp S h1, h2⟩
/-- A call upon the thing. -/
theorem In.turn {w : World} {H : Nat} {P P' : Res} {y : World} {f : Nat} {args : Array Value} {R : Ending → Prop} (h : In w H P y) (hc : ∀ S, P y S → Calls Try.prog f args y fun e y' => R e ∧ Step S y P' y') : Calls Try.prog f args y fun e y' => R e ∧ In w H P' y' := by
  obtain ⟨S, h1, h2, h3, h4⟩ := h
  refine (hc S h1).mono fun e y' hh => ⟨hh.1, ?_⟩
  obtain ⟨S', k1, k2, k3⟩ := hh.2
  refine ⟨S', k1, fun i hi => ?_, h3.trans (k2.below h4 (fun i hi hs => by have := h2 i hs; omega)), Nat.le_trans h4 k2.size⟩
  rcases k3 i hi with e | e
  · exact h2 i e
  · omega
theorem turn_left {P P' Q : Res} (hQ : Stab Q) {y : World} {f : Nat} {args : Array Value} {R : Ending → Prop} (hc : ∀ S, P y S → Calls Try.prog f args y fun e y' => R e ∧ Step S y P' y') : ∀ S, Sep P Q y S → Calls Try.prog f args y fun e y' => R e ∧ Step S y (Sep P' Q) y' := by
  rintro S ⟨S1, S2, h1, h2, h3, h4⟩
  exact (hc S1 h1).mono fun e y' hh => ⟨hh.1, Step.left hQ h2 h3 h4 hh.2⟩
theorem turn_right {P P' Q : Res} (hQ : Stab Q) {y : World} {f : Nat} {args : Array Value} {R : Ending → Prop} (hc : ∀ S, P y S → Calls Try.prog f args y fun e y' => R e ∧ Step S y P' y') : ∀ S, Sep Q P y S → Calls Try.prog f args y fun e y' => R e ∧ Step S y (Sep Q P') y' := by
  rintro S ⟨S1, S2, h1, h2, h3, h4⟩
  exact (hc S2 h2).mono fun e y' hh => ⟨hh.1, (Step.left hQ h1 (fun i a b => h3 i b a) (fun i => (h4 i).trans Or.comm) hh.2).mono fun T hT => hT.swap⟩
/-- Something new beside what was there. -/
theorem In.add {w : World} {H : Nat} {P Q : Res} {y y' : World} (hP : Stab P) (h : In w H P y) (hb : Below y.heap.size y y') {S : Nat → Prop} (hQ : Q y' S) (hS : ∀ i, S i → y.heap.size ≤ i) : In w H (Sep P Q) y' := by
  obtain ⟨S1, h1, h2, h3, h4⟩ := h
  refine ⟨fun i => S1 i ∨ S i, ⟨S1, S, hP.keep h1 (Ch.of_below hb : Ch (fun _ => False) y y') (fun _ _ e => e), hQ, fun i a b => ?_, fun i => Iff.rfl⟩, fun i hi => ?_, h3.trans (hb.mono h4), Nat.le_trans h4 hb.size⟩
  · have := hP.lt h1 i a; have := hS i b; omega
  · rcases hi with hi | hi
    · exact h2 i hi
    · have := hS i hi; omega
theorem In.drop {w : World} {H : Nat} {P Q : Res} {y : World} (h : In w H (Sep P Q) y) : In w H P y := by
  obtain ⟨S, ⟨S1, S2, h1, h2, h3, h4⟩, k⟩ := h
  exact ⟨S1, h1, fun i hi => k.1 i ((h4 i).2 (Or.inl hi)), k.2⟩
theorem In.dropL {w : World} {H : Nat} {P Q : Res} {y : World} (h : In w H (Sep P Q) y) : In w H Q y := (h.mono fun _ hS => hS.swap).drop
/-- A book of the program's. -/
def Bok (b : Nat) (F : Int → List Nt) (k : Nat) : Res := fun y S => ∃ m fs, Bk y b m fs ∧ (∀ q, fv fs q = F q) ∧ fs.length ≤ k ∧ S = Ft b m fs
theorem Bok.stab (b : Nat) (F : Int → List Nt) (k : Nat) : Stab (Bok b F k) where
  keep := fun {y y' T S} h hc hS => by
    obtain ⟨m, fs, h1, h2, h3, rfl⟩ := h
    exact ⟨m, fs, h1.ch hc hS, h2, h3, rfl⟩
  lt := fun {y S} h i hi => by
    obtain ⟨m, fs, h1, h2, h3, rfl⟩ := h
    exact Ft.lt h1 hi
theorem Bok.same {b : Nat} {F G : Int → List Nt} {k : Nat} {y : World} {S : Nat → Prop} (h : Bok b F k y S) (e : ∀ q, F q = G q) : Bok b G k y S := by
  obtain ⟨m, fs, h1, h2, h3, h4⟩ := h
  exact ⟨m, fs, h1, fun q => (h2 q).trans (e q), h3, h4⟩
theorem Bok.bo {b : Nat} {F : Int → List Nt} {k : Nat} {y : World} {S : Nat → Prop} (h : Bok b F k y S) : Bo y 0 b F k y := by
  obtain ⟨m, fs, h1, h2, h3, h4⟩ := h
  exact ⟨⟨m, fs, h1, h2, h3, fun _ _ => Nat.zero_le _⟩, ⟨rfl, rfl, rfl, Nat.le_refl _, fun _ h => by omega⟩, Nat.zero_le _⟩
theorem Bok.note {b : Nat} {F : Int → List Nt} {k : Nat} {y : World} (x : Hd) (hx : HdOk x) (hk : k < 4611686018427387904) : ∀ S, Bok b F k y S →
    Calls Try.prog 20 #[.pointer (some ⟨b, 0, none⟩), hdA x] y fun e w' => e = .returned (.int .i64 (noteE x)) ∧ Step S y (Bok b (noteF F x) (k + 1)) w' := by
  rintro S ⟨m, fs, h1, h2, h3, rfl⟩
  have up : ∀ {G : Int → List Nt} {z : World} {T : Nat → Prop}, Bok b G k z T → Bok b G (k + 1) z T := fun {G z T} hb => by
    obtain ⟨m, fs, e1, e2, e3, e4⟩ := hb
    exact ⟨m, fs, e1, e2, by omega, e4⟩
  have same : ∀ {w' : World}, Below y.heap.size y w' → Step (Ft b m fs) y (Bok b F (k + 1)) w' := fun hb => (Step.same (Bok.stab b F k) ⟨m, fs, h1, h2, h3, rfl⟩ hb).mono fun T hT => up hT
  by_cases hg : goodB x.b x.c x.p x.s = true
  · by_cases hp : x.p = -1
    · have e1 : noteE x = 0 := by unfold noteE; rw [if_pos hg]
      have e2 : noteF F x = F := by unfold noteF; rw [if_neg (fun h => h.2 hp)]
      rw [e1, e2]
      exact (note_none b x.b x.l x.pk x.c x.f x.g x.p x.s hg hp y).mono fun e w' hh => ⟨hh.1, same hh.2⟩
    · have e1 : noteE x = 0 := by unfold noteE; rw [if_pos hg]
      have e2 : noteF F x = kpF' F x.p ⟨x.b, x.c, x.s⟩ := by unfold noteF; rw [if_pos ⟨hg, hp⟩]
      rw [e1, e2]
      refine (note_good b m fs x.b x.l x.pk x.c x.f x.g x.p x.s hg hx.s1 (good_p hg hp) hx.p1 (by omega) y h1).mono fun e w' hh => ⟨hh.1, ?_⟩
      obtain ⟨m', fs', k1, k2, k3, k4, k5⟩ := hh.2
      exact ⟨_, ⟨m', fs', k1, fun q => (k2 q).trans (by unfold kpF kpF'; rw [h2, h2]), by omega, rfl⟩, k4, k5⟩
  · have e1 : noteE x = 1 := by unfold noteE; rw [if_neg hg]
    have e2 : noteF F x = F := by unfold noteF; rw [if_neg (fun h => hg h.1)]
    rw [e1, e2]
    exact (note_bad _ x.b x.l x.pk x.c x.f x.g x.p x.s (by simpa using hg) y).mono fun e w' hh => ⟨hh.1, same hh.2⟩
theorem Bok.new (w : World) : Bok w.heap.size (fun _ => []) 0 (w.alloc (.cells #[.map none] 60)) (Ft w.heap.size none []) := ⟨none, [], Bk.new w, fun _ => rfl, Nat.le_refl _, rfl⟩
theorem ft_new (w : World) (i : Nat) (h : Ft w.heap.size none [] i) : w.heap.size ≤ i := by
  rcases h with rfl | h | ⟨f, hf, _⟩
  · exact Nat.le_refl _
  · cases h
  · cases hf
end Go.Proofs.Ytolobmhbmajolaa
