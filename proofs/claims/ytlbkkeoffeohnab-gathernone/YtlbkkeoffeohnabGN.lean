/- Texts of the proof, put together: Gn4, Gn5. -/
import Derived.Test.YtlbkkeoffeohnabGM
import Derived.Test.YtlbkkeoffeohnabGF
import Derived.Test.YtlbkkeoffeohnabBcs
import Derived.Deep.LoopGhost
namespace Go.Proofs.Ytlbkkeoffeohnab
open Go.RowKit
/-- The zero gatherer, as a thing. -/
def Zr (z : Nat) : Res := fun y S => Zcell y z ∧ S = fun i => i = z
theorem Zr.stab (z : Nat) : Stab (Zr z) where
  keep := fun {y y' T S} h hc hS => by
    obtain ⟨h, rfl⟩ := h
    exact ⟨(hc.block z (lt_of_heap h) (hS z rfl)).trans h, rfl⟩
  lt := fun {y S} h i hi => by
    obtain ⟨h, rfl⟩ := h
    subst hi
    exact lt_of_heap h
/-- Both: the zero one still zero, or made. -/
def TwoH (z g : Nat) (s1 s2 : Gs) : Res := fun y S => (s1 = Gs0 bL ∧ ∃ jb bb, Sep (Zr z) (Gq g jb bb s2 Non) y S) ∨ ∃ jb1 bb1 jb2 bb2, Gq z jb1 bb1 s1 (Gq g jb2 bb2 s2 Non) y S
theorem TwoH.stab (z g : Nat) (s1 s2 : Gs) : Stab (TwoH z g s1 s2) where
  keep := fun {y y' T S} h hc hS => by
    rcases h with ⟨e, jb, bb, h⟩ | ⟨jb1, bb1, jb2, bb2, h⟩
    · exact Or.inl ⟨e, jb, bb, ((Zr.stab z).sep (Gq.stab Non.stab)).keep h hc hS⟩
    · exact Or.inr ⟨jb1, bb1, jb2, bb2, (Gq.stab (Gq.stab Non.stab)).keep h hc hS⟩
  lt := fun {y S} h => by
    rcases h with ⟨e, jb, bb, h⟩ | ⟨jb1, bb1, jb2, bb2, h⟩
    · exact ((Zr.stab z).sep (Gq.stab Non.stab)).lt h
    · exact (Gq.stab (Gq.stab Non.stab)).lt h
theorem Sep.atR {P Q : Res} (hP : Stab P) {x : World} {S : Nat → Prop} (h : Sep P Q x S) : ∃ T, Q x T ∧ ∀ {x' : World} {Q' : Res} {T' : Nat → Prop}, Turns T x Q' x' T' → ∃ S', Turns S x (Sep P Q') x' S' ∧ ∀ U : Nat → Prop, (∀ i, U i → T i ∨ x.heap.size ≤ i) → (∀ i, U i → ¬ T' i) → (∀ i, U i → ¬ S' i) ∧ ∀ i, U i → S i ∨ x.heap.size ≤ i := by
  obtain ⟨S1, S2, h1, h2, h12, hS⟩ := h
  refine ⟨S2, h2, fun {x' Q' T'} hT => ?_⟩
  obtain ⟨k1, k2, k3⟩ := hT
  refine ⟨fun i => S1 i ∨ T' i, ⟨⟨S1, T', hP.keep h1 k2 h12, k1, fun i a b => ?_, fun i => Iff.rfl⟩, k2.mono (fun i _ hi => (hS i).2 (Or.inr hi)), fun i hi => ?_⟩, fun U u1 u2 => ⟨fun i a b => ?_, fun i a => (u1 i a).imp (fun c => (hS i).2 (Or.inr c)) id⟩⟩
  · rcases k3 i b with c | c
    · exact h12 i a c
    · have := hP.lt h1 i a; omega
  · exact hi.elim (fun a => Or.inl ((hS i).2 (Or.inl a))) (fun a => (k3 i a).imp (fun c => (hS i).2 (Or.inr c)) id)
  · rcases b with b | b
    · rcases u1 i a with c | c
      · exact h12 i b c
      · have := hP.lt h1 i b; omega
    · exact u2 i a b
theorem Gq.at {g jb bb : Nat} {s : Gs} {Q : Res} {x : World} {S : Nat → Prop} (h : Gq g jb bb s Q x S) : ∃ T, Q x T ∧ ∀ {x' : World} {Q' : Res} {T' : Nat → Prop}, Turns T x Q' x' T' → ∃ S', Turns S x (Gq g jb bb s Q') x' S' ∧ ∀ U : Nat → Prop, (∀ i, U i → T i ∨ x.heap.size ≤ i) → (∀ i, U i → ¬ T' i) → (∀ i, U i → ¬ S' i) ∧ ∀ i, U i → S i ∨ x.heap.size ≤ i := by
  obtain ⟨T1, h1, b1⟩ := Sep.atR (CndR.stab jb bb s.b) h
  obtain ⟨T2, h2, b2⟩ := Sep.atR (Gat.stab g jb s) h1
  exact ⟨T2, h2, fun hT => by
    obtain ⟨S2, hS2, u2⟩ := b2 hT
    obtain ⟨S', hS', u1⟩ := b1 hS2
    exact ⟨S', hS', fun U a b => u1 U (u2 U a b).2 (u2 U a b).1⟩⟩
theorem Turns.map {S S' : Nat → Prop} {x x' : World} {P P' : Res} (h : Turns S x P x' S') (hp : P x' S' → P' x' S') : Turns S x P' x' S' := ⟨hp h.1, h.2⟩
theorem gat_cnd {z jb jb' bb' : Nat} {s : Gs} {b : Bnd} {y : World} {T : Nat → Prop} (h : Gat z jb s y T) (hc : Cnd y jb' bb' b) : ¬ T jb' ∧ ¬ T bb' := by
  obtain ⟨v, rs, hg, hh, _, rfl⟩ := h
  constructor
  · rintro (e | e | ⟨q, hq, e⟩)
    · subst e; have := hc.row; unfold Gcell at hg; rw [hg] at this; cases this
    · exact own_ne hh.row hc.row (by decide) e
    · exact own_ne (hh.hds q hq) hc.row (by decide) e
  · rintro (e | e | ⟨q, hq, e⟩)
    · subst e; have := hc.box; unfold Gcell at hg; rw [hg] at this; cases this
    · exact own_ne hh.row hc.box (by decide) e
    · exact own_ne (hh.hds q hq) hc.box (by decide) e
/-- The zero one is made. -/
theorem mk_half {z jb bb : Nat} {s1 : Gs} {Q : Res} (hQ : Stab Q) {x x' : World} {S T : Nat → Prop} (h : Sep (Zr z) Q x S) (hc : Ch (fun i => i = z) x x') (hg : Gat z jb s1 x' T) (hT : ∀ i, T i → i = z ∨ x.heap.size ≤ i) (hn : Cnd x' jb bb s1.b) (hj : x.heap.size ≤ jb) (hb : x.heap.size ≤ bb) : ∃ S', Turns S x (Gq z jb bb s1 Q) x' S' := by
  obtain ⟨S1, S2, ⟨_, rfl⟩, h2, h12, hS⟩ := h
  have nd := gat_cnd hg hn
  have k2 := hQ.keep h2 hc (fun i a b => h12 i b a)
  refine ⟨fun i => (i = jb ∨ i = bb) ∨ (T i ∨ S2 i), ⟨fun i => i = jb ∨ i = bb, fun i => T i ∨ S2 i, ⟨hn, rfl⟩, ⟨T, S2, hg, k2, fun i a b => ?_, fun i => Iff.rfl⟩, fun i a b => ?_, fun i => Iff.rfl⟩, hc.mono (fun i _ hi => (hS i).2 (Or.inl hi)), fun i hi => ?_⟩
  · rcases hT i a with c | c
    · exact h12 i c b
    · have := hQ.lt h2 i b; omega
  · rcases b with b | b
    · rcases a with rfl | rfl
      · exact nd.1 b
      · exact nd.2 b
    · have := hQ.lt h2 i b
      rcases a with rfl | rfl <;> omega
  · rcases hi with (rfl | rfl) | hi | hi
    · exact Or.inr hj
    · exact Or.inr hb
    · exact (hT i hi).imp (fun e => (hS i).2 (Or.inl e)) id
    · exact Or.inl ((hS i).2 (Or.inr hi))
/-- What Add answers of a state, and leaves. -/
def AddA (s : Gs) (r : Rec) (S : Nat → Prop) (x : World) (P : Res) (e : Ending) (x' : World) : Prop := ∃ pk pr q av cv, e = .returned (.tuple #[batA pk pr q (.slice av (addL s r).length cv), .bool (addO s r), .int .i64 (addE s r)]) ∧ AddQ s r pk pr q ∧ ∃ T S', Hb (.slice av (addL s r).length cv) (addL s r) x' T ∧ Turns S x P x' S' ∧ ∀ i, T i → ¬ S' i
theorem two_gadd {z g : Nat} {s1 s2 : Gs} {x : World} {S : Nat → Prop} (h : TwoH z g s1 s2 x S) (hO : GsO s2) (r : Rec) (a : Option Addr) (cap : Nat) (V : Hds x a r.hs) (ht : I64 r.t) (hm : Mod r) :
    Calls Try.prog 6 #[.pointer (some ⟨g, 0, none⟩), recV r a cap] x fun e x' => AddA s2 r S x (TwoH z g s1 (addS s2 r)) e x' := by
  rcases h with ⟨e0, jb, bb, h⟩ | ⟨jb1, bb1, jb2, bb2, h⟩
  · obtain ⟨T, hT, back⟩ := Sep.atR (Zr.stab z) h
    refine (gq_addH Non.stab r a cap x T hT hO V ht hm).mono fun e x' hh => ?_
    obtain ⟨pk, pr, q, av, cv, h1, h2, _, S', h4⟩ := hh
    obtain ⟨U, S0, hU, h5, u1, u2⟩ := h4.part
    obtain ⟨S'', h6, u3⟩ := back h5
    exact ⟨pk, pr, q, av, cv, h1, h2, U, S'', hU, h6.map (fun k => Or.inl ⟨e0, jb, bb, k⟩), (u3 U u2 u1).1⟩
  · obtain ⟨T, hT, back⟩ := h.at
    refine (gq_addH Non.stab r a cap x T hT hO V ht hm).mono fun e x' hh => ?_
    obtain ⟨pk, pr, q, av, cv, h1, h2, _, S', h4⟩ := hh
    obtain ⟨U, S0, hU, h5, u1, u2⟩ := h4.part
    obtain ⟨S'', h6, u3⟩ := back h5
    exact ⟨pk, pr, q, av, cv, h1, h2, U, S'', hU, h6.map (fun k => Or.inr ⟨jb1, bb1, jb2, bb2, k⟩), (u3 U u2 u1).1⟩
theorem two_zadd {z g : Nat} {s1 s2 : Gs} {x : World} {S : Nat → Prop} (h : TwoH z g s1 s2 x S) (hO : GsO s1) (r : Rec) (a : Option Addr) (cap : Nat) (V : Hds x a r.hs) (ht : I64 r.t) (hm : Mod r) :
    Calls Try.prog 6 #[.pointer (some ⟨z, 0, none⟩), recV r a cap] x fun e x' => AddA s1 r S x (TwoH z g (addS s1 r) s2) e x' := by
  rcases h with ⟨e0, jb, bb, h⟩ | ⟨jb1, bb1, jb2, bb2, h⟩
  · subst e0
    have hz : Zcell x z := by obtain ⟨S1, S2, h1, _⟩ := h; exact h1.1
    by_cases h1 : tkB (Gs0 bL).b (ofr [] 0 r) = true
    · have h2 : tkB (Gs0 bL).b (ofr (Gs0 bL).l (Gs0 bL).k r) = true := h1
      have eS : addS (Gs0 bL) r = ⟨(Gs0 bL).b, (Gs0 bL).l ++ [cln r], (Gs0 bL).k + szn r (fst (Gs0 bL).l r) (Gs0 bL).l.length, (Gs0 bL).q⟩ := by unfold addS; rw [if_pos h1, if_pos h2]
      have eL : addL (Gs0 bL) r = [] := by unfold addL; rw [if_neg (fun e => by rw [h2] at e; cases e.2)]
      have eO : addO (Gs0 bL) r = false := by unfold addO; rw [h1, h2]; rfl
      have eE : addE (Gs0 bL) r = 0 := by unfold addE; rw [if_pos h1]
      unfold AddA
      rw [eS, eL, eO, eE]
      refine (zero_join z r a cap x hz V ht hm h1).mono fun e x' hh => ?_
      obtain ⟨he, jb', bb', hW, hc, hch, hj, hb⟩ := hh
      obtain ⟨v', y, k1, k2, k3, k4, k5⟩ := hW
      have hg : Gat z jb' ⟨(Gs0 bL).b, (Gs0 bL).l ++ [cln r], (Gs0 bL).k + szn r (fst (Gs0 bL).l r) (Gs0 bL).l.length, (Gs0 bL).q⟩ x' (fun i => i = z ∨ HS v' ([] ++ [y]) i) := ⟨v', [y], k2, k3, by rw [List.map_singleton, k1]; rfl, rfl⟩
      obtain ⟨S', hS'⟩ := mk_half (Gq.stab Non.stab) h hch hg (fun i hi => hi.imp id (fun e => (k5 i e).elim (fun e => by
        rcases e with e | ⟨q, hq, _⟩
        · cases e
        · simp at hq) id)) hc hj hb
      exact ⟨_, _, _, _, _, he, ⟨(fun e => by rw [eO] at e; cases e), fun _ => ⟨rfl, rfl⟩⟩, fun _ => False, S', Hb.nil x', hS'.map (fun k => Or.inr ⟨jb', bb', jb, bb, k⟩), fun _ e => e.elim⟩
    · have h1' : tkB (Gs0 bL).b (ofr [] 0 r) = false := by simpa using h1
      have eS : addS (Gs0 bL) r = Gs0 bL := by unfold addS; rw [if_neg h1]
      have eL : addL (Gs0 bL) r = [] := by unfold addL; rw [if_neg (fun e => h1 e.1)]
      have eO : addO (Gs0 bL) r = false := by unfold addO; rw [h1']; rfl
      have eE : addE (Gs0 bL) r = refE (sze r r.t 0) := by unfold addE; rw [if_neg h1]
      unfold AddA
      rw [eS, eL, eO, eE]
      refine (zero_no z r a cap x hz V ht hm h1').mono fun e x' hh => ?_
      obtain ⟨he, jb', bb', hg0, hc, hch, hj, hb⟩ := hh
      have hg : Gat z jb' (Gs0 bL) x' (fun i => i = z ∨ HS (.slice none 0 0) [] i) := ⟨_, [], hg0, held_nil x', rfl, rfl⟩
      obtain ⟨S', hS'⟩ := mk_half (Gq.stab Non.stab) h hch hg (fun i hi => hi.imp id (fun e => by
        rcases e with e | ⟨q, hq, _⟩
        · cases e
        · simp at hq)) hc hj hb
      exact ⟨_, _, _, _, _, he, ⟨(fun e => by rw [eO] at e; cases e), fun _ => ⟨rfl, rfl⟩⟩, fun _ => False, S', Hb.nil x', hS'.map (fun k => Or.inr ⟨jb', bb', jb, bb, k⟩), fun _ e => e.elim⟩
  · refine (gq_addH (Gq.stab Non.stab) r a cap x S h hO V ht hm).mono fun e x' hh => ?_
    obtain ⟨pk, pr, q, av, cv, h1, h2, _, S', h4⟩ := hh
    obtain ⟨U, S0, hU, h5, u1, _⟩ := h4.part
    exact ⟨pk, pr, q, av, cv, h1, h2, U, S0, hU, h5.map (fun k => Or.inr ⟨jb1, bb1, jb2, bb2, k⟩), u1⟩
/-- What Flush answers of a state, and leaves. -/
def FlA (s : Gs) (S : Nat → Prop) (x : World) (P : Res) (e : Ending) (x' : World) : Prop := ∃ pk pr q av cv, e = .returned (.tuple #[batA pk pr q (.slice av s.l.length cv), .bool (decide (0 < s.l.length))]) ∧ ∃ T S', Hb (.slice av s.l.length cv) s.l x' T ∧ Turns S x P x' S' ∧ ∀ i, T i → ¬ S' i
theorem two_gflush {z g : Nat} {s1 s2 : Gs} {x : World} {S : Nat → Prop} (h : TwoH z g s1 s2 x S) (hO : GsO s2) :
    Calls Try.prog 7 #[.pointer (some ⟨g, 0, none⟩)] x fun e x' => FlA s2 S x (TwoH z g s1 (flS s2)) e x' := by
  rcases h with ⟨e0, jb, bb, h⟩ | ⟨jb1, bb1, jb2, bb2, h⟩
  · obtain ⟨T, hT, back⟩ := Sep.atR (Zr.stab z) h
    refine (gq_flushH Non.stab x T hT hO).mono fun e x' hh => ?_
    obtain ⟨pk, pr, q, av, cv, h1, _, _, S', h4⟩ := hh
    obtain ⟨U, S0, hU, h5, u1, u2⟩ := h4.part
    obtain ⟨S'', h6, u3⟩ := back h5
    exact ⟨pk, pr, q, av, cv, h1, U, S'', hU, h6.map (fun k => Or.inl ⟨e0, jb, bb, k⟩), (u3 U u2 u1).1⟩
  · obtain ⟨T, hT, back⟩ := h.at
    refine (gq_flushH Non.stab x T hT hO).mono fun e x' hh => ?_
    obtain ⟨pk, pr, q, av, cv, h1, _, _, S', h4⟩ := hh
    obtain ⟨U, S0, hU, h5, u1, u2⟩ := h4.part
    obtain ⟨S'', h6, u3⟩ := back h5
    exact ⟨pk, pr, q, av, cv, h1, U, S'', hU, h6.map (fun k => Or.inr ⟨jb1, bb1, jb2, bb2, k⟩), (u3 U u2 u1).1⟩
theorem two_zflush {z g : Nat} {s1 s2 : Gs} {x : World} {S : Nat → Prop} (h : TwoH z g s1 s2 x S) (hO : GsO s1) :
    Calls Try.prog 7 #[.pointer (some ⟨z, 0, none⟩)] x fun e x' => FlA s1 S x (TwoH z g (flS s1) s2) e x' := by
  rcases h with ⟨e0, jb, bb, h⟩ | ⟨jb1, bb1, jb2, bb2, h⟩
  · subst e0
    have hz : Zcell x z := by obtain ⟨S1, S2, h1, _⟩ := h; exact h1.1
    have eS : flS (Gs0 bL) = Gs0 bL := rfl
    rw [eS]
    refine (zero_flush z x hz).mono fun e x' hh => ?_
    exact ⟨_, _, _, _, _, hh.1, fun _ => False, S, Hb.nil x', ⟨(TwoH.stab z g (Gs0 bL) s2).keep (Or.inl ⟨rfl, jb, bb, h⟩) (Ch.of_below hh.2 : Ch (fun _ => False) x x') (fun _ _ e => e), Ch.of_below hh.2, fun _ hi => Or.inl hi⟩, fun _ e => e.elim⟩
  · refine (gq_flushH (Gq.stab Non.stab) x S h hO).mono fun e x' hh => ?_
    obtain ⟨pk, pr, q, av, cv, h1, _, _, S', h4⟩ := hh
    obtain ⟨U, S0, hU, h5, u1, _⟩ := h4.part
    exact ⟨pk, pr, q, av, cv, h1, U, S0, hU, h5.map (fun k => Or.inr ⟨jb1, bb1, jb2, bb2, k⟩), u1⟩
theorem two_gseq {z g : Nat} {s1 s2 : Gs} {x : World} {S : Nat → Prop} (h : TwoH z g s1 s2 x S) :
    Calls Try.prog 9 #[.pointer (some ⟨g, 0, none⟩)] x fun e x' => e = .returned (.int .i32 s2.q) ∧ x' = x := by
  rcases h with ⟨e0, jb, bb, h⟩ | ⟨jb1, bb1, jb2, bb2, h⟩
  · obtain ⟨T, hT, _⟩ := Sep.atR (Zr.stab z) h
    exact gq_seq x T hT
  · obtain ⟨T, hT, _⟩ := h.at
    exact gq_seq x T hT
theorem two_zseq {z g : Nat} {s1 s2 : Gs} {x : World} {S : Nat → Prop} (h : TwoH z g s1 s2 x S) :
    Calls Try.prog 9 #[.pointer (some ⟨z, 0, none⟩)] x fun e x' => e = .returned (.int .i32 s1.q) ∧ x' = x := by
  rcases h with ⟨e0, jb, bb, h⟩ | ⟨jb1, bb1, jb2, bb2, h⟩
  · subst e0
    have hz : Zcell x z := by obtain ⟨S1, S2, h1, _⟩ := h; exact h1.1
    exact zero_seq z x hz
  · exact gq_seq x S h
end Go.Proofs.Ytlbkkeoffeohnab
namespace Go.Proofs.Ytlbkkeoffeohnab
open Go.RowKit
set_option maxRecDepth 20000 in
set_option maxHeartbeats 1000000 in
theorem zero_clone (g : Nat) (w : World) (h : Zcell w g) : Calls Try.prog 11 #[.pointer (some ⟨g, 0, none⟩)] w fun e w' => e = .returned (.pointer (some ⟨w.heap.size, 0, none⟩)) ∧ Below w.heap.size w w' := by
  obtain ⟨c0, c1, c2, c3, c4, c5, c6⟩ := cells7 h
  have hlt := lt_of_heap h
  clear h
  go_enter Try.func11, Try.ntmps11
  go_wp2_with fail
  refine wp_loop_rounds 1 ?_
  rw [rounds_succ]
  go_wp2_with fail
  go_ret
  exact ⟨rfl, (Below.refl _ w).alloc (Nat.le_refl _) _⟩
/-- Both gatherers, and where they may turn. -/
structure N0 (w : World) (z g : Nat) (s1 s2 : Gs) (x : World) (S : Nat → Prop) : Prop where
  two : TwoH z g s1 s2 x S
  hS : ∀ i, S i → w.heap.size ≤ i
  bel : Below w.heap.size w x
  o1 : GsO s1
  o2 : GsO s2
  hh : ∀ y ∈ s1.l, y.hs.length ≤ 1024
theorem N0.new {w : World} {z g : Nat} {s1 s2 : Gs} {x y : World} {S : Nat → Prop} (h : N0 w z g s1 s2 x S) (k : Below x.heap.size x y) : N0 w z g s1 s2 y S :=
  ⟨(TwoH.stab z g s1 s2).keep h.two (Ch.of_below k : Ch (fun _ => False) x y) (fun _ _ e => e), h.hS, h.bel.trans (k.mono h.bel.size), h.o1, h.o2, h.hh⟩
theorem N0.al {w : World} {z g : Nat} {s1 s2 : Gs} {x : World} {S : Nat → Prop} (h : N0 w z g s1 s2 x S) (o : Obj) : N0 w z g s1 s2 (x.alloc o) S := h.new ((Below.refl _ _).alloc (Nat.le_refl _) _)
theorem N0.no {w : World} {z g : Nat} {s1 s2 : Gs} {x : World} {S : Nat → Prop} (h : N0 w z g s1 s2 x S) : ∀ i, x.heap.size ≤ i → ¬ S i := fun i hi e => by have := (TwoH.stab z g s1 s2).lt h.two i e; omega
theorem N0.turn {w : World} {z g : Nat} {s1 s2 s1' s2' : Gs} {x x' : World} {S S' : Nat → Prop} (h : N0 w z g s1 s2 x S) (hT : Turns S x (TwoH z g s1' s2') x' S') (o1 : GsO s1') (o2 : GsO s2') (hh : ∀ y ∈ s1'.l, y.hs.length ≤ 1024) : N0 w z g s1' s2' x' S' := by
  obtain ⟨h1, h2, _⟩ := hT.base h.hS h.bel h.bel.size
  exact ⟨hT.1, h1, h2, o1, o2, hh⟩
theorem N0.far {w : World} {z g : Nat} {s1 s2 : Gs} {x y : World} {S : Nat → Prop} {p : Nat} (h : N0 w z g s1 s2 x S) (hp : w.heap.size ≤ p) (hn : ¬ S p) (k : Ch (fun i => i = p) x y) : N0 w z g s1 s2 y S :=
  ⟨(TwoH.stab z g s1 s2).keep h.two k (fun i a e => by subst e; exact hn a), h.hS, h.bel.trans (k.below h.bel.size (fun i hi e => by omega)), h.o1, h.o2, h.hh⟩
theorem addS_hs {s : Gs} {r : Rec} (h : ∀ y ∈ s.l, y.hs.length ≤ 1024) : ∀ y ∈ (addS s r).l, y.hs.length ≤ 1024 := by
  have hc : tkB s.b (ofr [] 0 r) = true → (cln r).hs.length ≤ 1024 := fun h1 => by
    have := (sze_ok (tk_ok h1)).2.2.1
    simpa [cln] using this
  intro y hy
  unfold addS at hy
  split at hy
  · rename_i h1
    split at hy
    · rcases List.mem_append.1 hy with e | e
      · exact h y e
      · rw [List.mem_singleton] at e; subst e; exact hc h1
    · rw [List.mem_singleton] at hy; subst hy; exact hc h1
  · exact h y hy
theorem flS_hs (s : Gs) : ∀ y ∈ (flS s).l, y.hs.length ≤ 1024 := fun y hy => by rw [flS_l] at hy; simp at hy
theorem n_zadd {w : World} {z g : Nat} {s1 s2 : Gs} {x : World} {S : Nat → Prop} (h : N0 w z g s1 s2 x S) (r : Rec) (a : Option Addr) (cap : Nat) (V : Hds w a r.hs) (ht : I64 r.t) (hm : Mod r) :
    Calls Try.prog 6 #[.pointer (some ⟨z, 0, none⟩), recV r a cap] x fun e x' => ∃ pk pr q av cv T S', e = .returned (.tuple #[.agg #[.int .i64 0, .bool pk, .int .i64 pr, .int .i32 q, .slice av (addL s1 r).length cv], .bool (addO s1 r), .int .i64 (addE s1 r)]) ∧ AddQ s1 r pk pr q ∧ Hb (.slice av (addL s1 r).length cv) (addL s1 r) x' T ∧ (∀ i, T i → ¬ S' i) ∧ Ch S x x' ∧ N0 w z g (addS s1 r) s2 x' S' ∧ ∀ p o, x.heap[p]? = some o → ¬ S p → x'.heap[p]? = some o ∧ ¬ S' p :=
  (two_zadd h.two h.o1 r a cap (V.below h.bel) ht hm).mono fun e x' hh => by
    obtain ⟨pk, pr, q, av, cv, h1, h2, T, S', h3, h4, h5⟩ := hh
    exact ⟨pk, pr, q, av, cv, T, S', h1, h2, h3, h5, h4.2.1, h.turn h4 (addS_ok h.o1 ht) h.o2 (addS_hs h.hh), fun p o hp hn => h4.far hp hn⟩
theorem n_gadd {w : World} {z g : Nat} {s1 s2 : Gs} {x : World} {S : Nat → Prop} (h : N0 w z g s1 s2 x S) (r : Rec) (a : Option Addr) (cap : Nat) (V : Hds w a r.hs) (ht : I64 r.t) (hm : Mod r) :
    Calls Try.prog 6 #[.pointer (some ⟨g, 0, none⟩), recV r a cap] x fun e x' => ∃ pk pr q av cv T S', e = .returned (.tuple #[.agg #[.int .i64 0, .bool pk, .int .i64 pr, .int .i32 q, .slice av (addL s2 r).length cv], .bool (addO s2 r), .int .i64 (addE s2 r)]) ∧ AddQ s2 r pk pr q ∧ Hb (.slice av (addL s2 r).length cv) (addL s2 r) x' T ∧ (∀ i, T i → ¬ S' i) ∧ Ch S x x' ∧ N0 w z g s1 (addS s2 r) x' S' ∧ ∀ p o, x.heap[p]? = some o → ¬ S p → x'.heap[p]? = some o ∧ ¬ S' p :=
  (two_gadd h.two h.o2 r a cap (V.below h.bel) ht hm).mono fun e x' hh => by
    obtain ⟨pk, pr, q, av, cv, h1, h2, T, S', h3, h4, h5⟩ := hh
    exact ⟨pk, pr, q, av, cv, T, S', h1, h2, h3, h5, h4.2.1, h.turn h4 h.o1 (addS_ok h.o2 ht) h.hh, fun p o hp hn => h4.far hp hn⟩
theorem n_zflush {w : World} {z g : Nat} {s1 s2 : Gs} {x : World} {S : Nat → Prop} (h : N0 w z g s1 s2 x S) :
    Calls Try.prog 7 #[.pointer (some ⟨z, 0, none⟩)] x fun e x' => ∃ pk pr q av cv T S', e = .returned (.tuple #[.agg #[.int .i64 0, .bool pk, .int .i64 pr, .int .i32 q, .slice av s1.l.length cv], .bool (decide (0 < s1.l.length))]) ∧ Hb (.slice av (s1.l).length cv) (s1.l) x' T ∧ (∀ i, T i → ¬ S' i) ∧ Ch S x x' ∧ N0 w z g (flS s1) s2 x' S' ∧ ∀ p o, x.heap[p]? = some o → ¬ S p → x'.heap[p]? = some o ∧ ¬ S' p :=
  (two_zflush h.two h.o1).mono fun e x' hh => by
    obtain ⟨pk, pr, q, av, cv, h1, T, S', h3, h4, h5⟩ := hh
    exact ⟨pk, pr, q, av, cv, T, S', h1, h3, h5, h4.2.1, h.turn h4 (flS_ok h.o1) h.o2 (flS_hs s1), fun p o hp hn => h4.far hp hn⟩
theorem n_gflush {w : World} {z g : Nat} {s1 s2 : Gs} {x : World} {S : Nat → Prop} (h : N0 w z g s1 s2 x S) :
    Calls Try.prog 7 #[.pointer (some ⟨g, 0, none⟩)] x fun e x' => ∃ pk pr q av cv T S', e = .returned (.tuple #[.agg #[.int .i64 0, .bool pk, .int .i64 pr, .int .i32 q, .slice av s2.l.length cv], .bool (decide (0 < s2.l.length))]) ∧ Hb (.slice av (s2.l).length cv) (s2.l) x' T ∧ (∀ i, T i → ¬ S' i) ∧ Ch S x x' ∧ N0 w z g s1 (flS s2) x' S' ∧ ∀ p o, x.heap[p]? = some o → ¬ S p → x'.heap[p]? = some o ∧ ¬ S' p :=
  (two_gflush h.two h.o2).mono fun e x' hh => by
    obtain ⟨pk, pr, q, av, cv, h1, T, S', h3, h4, h5⟩ := hh
    exact ⟨pk, pr, q, av, cv, T, S', h1, h3, h5, h4.2.1, h.turn h4 h.o1 (flS_ok h.o2) h.hh, fun p o hp hn => h4.far hp hn⟩
theorem n_same {x : World} {L : List Rec} {a1 a2 : Option Addr} {c1 c2 : Nat} {T1 T2 : Nat → Prop} (h1 : Hb (.slice a1 L.length c1) L x T1) (h2 : Hb (.slice a2 L.length c2) L x T2) (hn : L.length ≤ 65536) (hh : ∀ y ∈ L, y.hs.length ≤ 1024) :
    Calls Try.prog 10 #[.slice a1 L.length c1, .slice a2 L.length c2] x fun e x' => e = .returned (.bool true) ∧ Below x.heap.size x x' := by
  obtain ⟨rs, b1, d1, f1, e1, V1⟩ := hb_rcs h1
  obtain ⟨ss, b2, d2, f2, e2, V2⟩ := hb_rcs h2
  injection f1 with f1 _ _
  injection f2 with f2 _ _
  subst f1 f2
  have l1 : rs.length = L.length := by have := congrArg List.length e1; rwa [List.length_map] at this
  have l2 : ss.length = L.length := by have := congrArg List.length e2; rwa [List.length_map] at this
  have := xsr_any rs ss a1 a2 c1 c2 x V1 V2 (by omega) (fun y hy => by
    have := hh y.r (by rw [← e1]; exact List.mem_map_of_mem hy); omega)
  rw [l1, l2, samL_yes (samL_map (e1.trans e2.symm))] at this
  exact this
theorem n_zclone {w : World} {z g : Nat} {s1 s2 : Gs} {x : World} {S : Nat → Prop} (h : N0 w z g s1 s2 x S) :
    Calls Try.prog 11 #[.pointer (some ⟨z, 0, none⟩)] x fun e x' => e = .returned (.pointer (some ⟨x.heap.size, 0, none⟩)) ∧ Below x.heap.size x x' := by
  rcases h.two with ⟨e0, jb, bb, h0⟩ | ⟨jb1, bb1, jb2, bb2, h0⟩
  · have hz : Zcell x z := by obtain ⟨S1, S2, h1, _⟩ := h0; exact h1.1
    exact zero_clone z x hz
  · obtain ⟨S1, S2, h1, ⟨S3, S4, ⟨v, rs, hg, hH, hrs, _⟩, _⟩, _⟩ := h0
    have hl : rs.length = s1.l.length := by have := congrArg List.length hrs; rwa [List.length_map] at this
    refine (clone_any z jb1 s1 v rs x hg hH (fun y hy => ?_) (by have := h.o1.ok.n; omega)).mono fun e x' hh => ⟨hh.1.1, hh.2⟩
    have := h.hh y.r (by rw [← hrs]; exact List.mem_map_of_mem hy)
    omega
end Go.Proofs.Ytlbkkeoffeohnab
