/- Texts of the proof, put together: Gb2, Gb3, Gb4, Gb5. -/
import Derived.Test.YtlbkkeoffeohnabGB1
import Derived.Test.YtlbkkeoffeohnabBse
import Derived.Test.YtlbkkeoffeohnabBcs
namespace Go.Proofs.Ytlbkkeoffeohnab
open Go.RowKit
/-- What Add makes of a state. -/
def addS (s : Gs) (r : Rec) : Gs :=
  if tkB s.b (ofr [] 0 r) = true then (if tkB s.b (ofr s.l s.k r) = true then ⟨s.b, s.l ++ [cln r], s.k + szn r (fst s.l r) s.l.length, s.q⟩ else ⟨s.b, [cln r], szn r r.t 0, behZ s.b.pr s.q s.l.length⟩) else s
/-- What it hands out, if it hands anything out, and why it refuses. -/
def addL (s : Gs) (r : Rec) : List Rec := if tkB s.b (ofr [] 0 r) = true ∧ tkB s.b (ofr s.l s.k r) = false then s.l else []
def addO (s : Gs) (r : Rec) : Bool := tkB s.b (ofr [] 0 r) && !tkB s.b (ofr s.l s.k r)
def addE (s : Gs) (r : Rec) : Nat := if tkB s.b (ofr [] 0 r) = true then 0 else refE (sze r r.t 0)
structure GsO (s : Gs) : Prop where
  ok : GsOk s
  z : s.l = [] → s.k = 0
  y : s.l ≠ [] → 0 < s.k
theorem szn_pos {r : Rec} {f n : Int} (h : sze r f n = 0) : 0 < szn r f n := by
  unfold szn
  rw [if_pos h]
  unfold fm own
  simp only [List.length_append, List.length_cons]
  omega
theorem beh_q {pr q : Int} {n : Nat} : (-1 ≤ behZ pr q n ∧ behZ pr q n ≤ 2147483647) ∧ (pr = -1 ∨ 0 ≤ behZ pr q n) := by
  unfold behZ
  by_cases h : pr = -1
  · rw [if_pos h]; exact ⟨by omega, Or.inl h⟩
  · rw [if_neg h]; exact ⟨by omega, Or.inr (by omega)⟩
theorem tk_sz {b : Bnd} {l : List Rec} {k : Nat} {r : Rec} (ok : BndOk b) (h : tkB b (ofr l k r) = true) : sze r (fst l r) l.length = 0 ∧ k + szn r (fst l r) l.length ≤ 16777216 := by
  obtain ⟨_, _, h3, h4, _⟩ := tk_parts h
  have h5 := ok.P.2
  simp only [ofr] at h3 h4
  exact ⟨h3, by omega⟩
theorem addS_b (s : Gs) (r : Rec) : (addS s r).b = s.b := by unfold addS; (repeat' split) <;> rfl
theorem addS_ok {s : Gs} {r : Rec} (h : GsO s) (hr : I64 r.t) : GsO (addS s r) := by
  have hb := h.ok.b
  unfold addS
  split
  · rename_i h1
    have hc : I64 (cln r).t := hr
    split
    · rename_i h2
      have k := tk_sz hb h2
      refine ⟨⟨hb, ?_, k.2, fun x hx => ?_, h.ok.q, h.ok.p⟩, fun e => absurd e (by simp), fun _ => ?_⟩
      · have := tk_n h.ok h2; rw [List.length_append]; simp; omega
      · rcases List.mem_append.1 hx with hx | hx
        · exact h.ok.t x hx
        · rw [List.mem_singleton] at hx; subst hx; exact hc
      · have := szn_pos k.1; show 0 < s.k + _; omega
    · have k := tk_sz (l := []) (k := 0) hb h1
      have e : fst [] r = r.t := rfl
      rw [e] at k
      have e0 : (([] : List Rec).length : Int) = 0 := rfl
      rw [e0] at k
      have q := beh_q (pr := s.b.pr) (q := s.q) (n := s.l.length)
      refine ⟨⟨hb, (by show 1 ≤ 65536; decide), (by have := k.2; show szn r r.t 0 ≤ 16777216; omega), fun x hx => ?_, q.1, q.2⟩, fun e => absurd e (by simp), fun _ => szn_pos k.1⟩
      rw [List.mem_singleton] at hx; subst hx; exact hc
  · exact h
theorem fl_ok {s : Gs} (h : GsO s) (n : Nat) : GsO ⟨s.b, [], 0, behZ s.b.pr s.q n⟩ := by
  have q := beh_q (pr := s.b.pr) (q := s.q) (n := n)
  exact ⟨⟨h.ok.b, Nat.zero_le _, Nat.zero_le _, fun x hx => by simp at hx, q.1, q.2⟩, fun _ => rfl, fun e => absurd rfl e⟩
theorem gs0_ok {b : Bnd} (hb : BndIn b) (h : sndG b.pr b.sq = true) : GsO (Gs0 b) := by
  have hq : (-1 ≤ b.sq ∧ b.sq ≤ 2147483647) ∧ (b.pr = -1 ∨ 0 ≤ b.sq) := by
    unfold sndG at h
    simp only [Bool.or_eq_true, Bool.and_eq_true, decide_eq_true_eq] at h
    have := hb.sq
    omega
  exact ⟨⟨cnt_ok hb, Nat.zero_le _, Nat.zero_le _, fun x hx => by simp [Gs0] at hx, hq.1, hq.2⟩, fun _ => rfl, fun e => absurd rfl e⟩
theorem Hb.nil (y : World) : Hb (.slice none 0 0) [] y (fun _ => False) := ⟨[], held_nil y, rfl, funext fun i => propext ⟨fun e => e.elim, fun e => by
  rcases e with e | ⟨x, hx, _⟩
  · cases e
  · simp at hx⟩⟩
theorem Step.withNil {P : Res} {S : Nat → Prop} {y y' : World} (h : Step S y P y') : Step S y (Sep P (Hb (.slice none 0 0) [])) y' := by
  obtain ⟨S', h1, h2, h3⟩ := h
  exact ⟨S', ⟨S', fun _ => False, h1, Hb.nil y', fun _ _ e => e, fun i => ⟨Or.inl, fun e => e.elim id (fun e => e.elim)⟩⟩, h2, h3⟩
theorem WaitP.step {g jb : Nat} {s s0 : Gs} {r : Rec} {w w' : World} {v : Value} {rs : List RI} (h : WaitP g jb s r w v rs w') (_hg : Gcell w g jb s0 v) (e : s.l = rs.map RI.r ++ [cln r]) : Step (fun i => i = g ∨ HS v rs i) w (Gat g jb s) w' := by
  obtain ⟨v', x, h1, h2, h3, h4, h5⟩ := h
  refine ⟨fun i => i = g ∨ HS v' (rs ++ [x]) i, ⟨v', rs ++ [x], h2, h3, by rw [List.map_append, e, ← h1]; rfl, rfl⟩, h4.mono (fun i _ hi => hi.imp id Or.inl), fun i hi => ?_⟩
  rcases hi with hi | hi
  · exact Or.inl (Or.inl hi)
  · exact (h5 i hi).imp Or.inr id
/-- What is handed out bears, or nothing is handed out. -/
def AddQ (s : Gs) (r : Rec) (pk : Bool) (pr q : Int) : Prop := (addO s r = true → pk = s.b.pk ∧ pr = s.b.pr ∧ q = s.q) ∧ (addO s r = false → pr = 0 ∧ q = 0)
theorem AddQ.eq {s : Gs} {r : Rec} {pk pk' : Bool} {pr q pr' q' : Int} (h : AddQ s r pk pr q) (h' : AddQ s r pk' pr' q') : pr' = pr ∧ q' = q := by
  cases e : addO s r
  · exact ⟨(h'.2 e).1.trans (h.2 e).1.symm, (h'.2 e).2.trans (h.2 e).2.symm⟩
  · exact ⟨(h'.1 e).2.1.trans (h.1 e).2.1.symm, (h'.1 e).2.2.trans (h.1 e).2.2.symm⟩
/-- Add upon a gatherer. -/
theorem add_res (g jb bb : Nat) (s : Gs) (r : Rec) (a : Option Addr) (cap : Nat) (w : World) (hO : GsO s) (hC : Cnd w jb bb s.b) (V : Hds w a r.hs) (ht : I64 r.t) (hm : Mod r) : ∀ S, Gat g jb s w S →
    Calls Try.prog 6 #[.pointer (some ⟨g, 0, none⟩), recV r a cap] w fun e w' => ∃ pk pr q v, e = .returned (.tuple #[batA pk pr q v, .bool (addO s r), .int .i64 (addE s r)]) ∧ AddQ s r pk pr q ∧ Step S w (Sep (Gat g jb (addS s r)) (Hb v (addL s r))) w' := by
  rintro S ⟨v, rs, h, hH, hrs, rfl⟩
  have hSt : Gat g jb s w (fun i => i = g ∨ HS v rs i) := ⟨v, rs, h, hH, hrs, rfl⟩
  by_cases h1 : tkB s.b (ofr [] 0 r) = true
  · by_cases h2 : tkB s.b (ofr s.l s.k r) = true
    · have eS : addS s r = ⟨s.b, s.l ++ [cln r], s.k + szn r (fst s.l r) s.l.length, s.q⟩ := by unfold addS; rw [if_pos h1, if_pos h2]
      have eL : addL s r = [] := by unfold addL; rw [if_neg (fun e => by rw [h2] at e; cases e.2)]
      have eO : addO s r = false := by unfold addO; rw [h1, h2]; rfl
      have eE : addE s r = 0 := by unfold addE; rw [if_pos h1]
      rw [eS, eL, eO, eE]
      refine (add_join g jb bb s r a cap v rs w h hH hrs hO.ok hC V ht hm h1 h2).mono fun e w' hh => ⟨_, _, _, _, hh.1, ⟨fun e => (by rw [eO] at e; cases e), fun _ => ⟨rfl, rfl⟩⟩, ?_⟩
      exact (hh.2.step h (by rw [hrs])).withNil
    · have h2 : tkB s.b (ofr s.l s.k r) = false := by simpa using h2
      have eS : addS s r = ⟨s.b, [cln r], szn r r.t 0, behZ s.b.pr s.q s.l.length⟩ := by unfold addS; rw [if_pos h1, if_neg (by rw [h2]; decide)]
      have eL : addL s r = s.l := by unfold addL; rw [if_pos ⟨h1, h2⟩]
      have eO : addO s r = true := by unfold addO; rw [h1, h2]; rfl
      have eE : addE s r = 0 := by unfold addE; rw [if_pos h1]
      rw [eS, eL, eO, eE]
      refine (add_full g jb bb s r a cap v rs w h hH hrs hO.ok hC V ht hm h1 h2 hO.z).mono fun e w' hh => ⟨_, _, _, _, hh.1, ⟨fun _ => ⟨rfl, rfl, rfl⟩, fun e => (by rw [eO] at e; cases e)⟩, ?_⟩
      obtain ⟨v', x, k1, k2, k3, k4, k5⟩ := hh.2.1
      have hx5 : ∀ i, HS v' ([] ++ [x]) i → w.heap.size ≤ i := fun i hi => (k5 i hi).elim (fun e => by
        rcases e with e | ⟨q, hq, _⟩
        · cases e
        · simp at hq) id
      refine ⟨fun i => (i = g ∨ HS v' ([] ++ [x]) i) ∨ HS v rs i, ⟨_, _, ⟨v', [x], k2, k3, by rw [List.map_singleton, k1], rfl⟩, ⟨rs, hh.2.2, hrs, rfl⟩, fun i hi hj => ?_, fun i => Iff.rfl⟩, k4.mono (fun i _ hi => hi.elim Or.inl (fun e => by cases e)), fun i hi => ?_⟩
      · rcases hi with rfl | hi
        · exact held_ng h hH _ hj rfl
        · have := hx5 i hi; have := hH.hlt i hj; omega
      · rcases hi with (hi | hi) | hi
        · exact Or.inl (Or.inl hi)
        · exact Or.inr (hx5 i hi)
        · exact Or.inl (Or.inr hi)
  · have h1' : tkB s.b (ofr [] 0 r) = false := by simpa using h1
    have eS : addS s r = s := by unfold addS; rw [if_neg h1]
    have eL : addL s r = [] := by unfold addL; rw [if_neg (fun e => h1 e.1)]
    have eO : addO s r = false := by unfold addO; rw [h1']; rfl
    have eE : addE s r = refE (sze r r.t 0) := by unfold addE; rw [if_neg h1]
    rw [eS, eL, eO, eE]
    refine (add_no g jb bb s r a cap v rs w h hH hrs hO.ok hC V ht hm h1').mono fun e w' hh => ⟨_, _, _, _, hh.1, ⟨fun e => (by rw [eO] at e; cases e), fun _ => ⟨rfl, rfl⟩⟩, ?_⟩
    exact (Step.same (Gat.stab g jb s) hSt hh.2).withNil
/-- Flush upon a gatherer. -/
theorem flush_res (g jb : Nat) (s : Gs) (w : World) (hO : GsO s) : ∀ S, Gat g jb s w S →
    Calls Try.prog 7 #[.pointer (some ⟨g, 0, none⟩)] w fun e w' => ∃ pk pr q v, e = .returned (.tuple #[batA pk pr q v, .bool (decide (0 < s.l.length))]) ∧ (0 < s.l.length → pk = s.b.pk ∧ pr = s.b.pr ∧ q = s.q) ∧ Step S w (Sep (Gat g jb (if 0 < s.l.length then ⟨s.b, [], 0, behZ s.b.pr s.q s.l.length⟩ else s)) (Hb v s.l)) w' := by
  rintro S ⟨v, rs, h, hH, hrs, rfl⟩
  have hSt : Gat g jb s w (fun i => i = g ∨ HS v rs i) := ⟨v, rs, h, hH, hrs, rfl⟩
  have hl : rs.length = s.l.length := by have := congrArg List.length hrs; rwa [List.length_map] at this
  by_cases h0 : 0 < s.l.length
  · rw [if_pos h0, decide_eq_true h0]
    obtain ⟨av, cv, rfl, _⟩ := hH.slice
    have hng := held_ng h hH
    rw [hl] at h
    refine (flush_some g jb s av s.l.length cv w h0 hO.ok.n hO.ok h).mono fun e w' hh => ?_
    rw [← hl] at hh
    refine ⟨_, _, _, _, hh.1, fun _ => ⟨rfl, rfl, rfl⟩, fun i => i = g ∨ HS (.slice av rs.length cv) rs i, ⟨fun i => i = g, HS (.slice av rs.length cv) rs, ⟨.slice none 0 0, [], hl ▸ hh.2.1, held_nil w', rfl, funext fun i => propext ⟨Or.inl, fun e => e.elim id (fun e => ?_)⟩⟩, ⟨rs, hH.ch hh.2.2 (fun i hi e => hng i hi e), hrs, rfl⟩, fun i hi hj => hng i hj hi, fun i => Iff.rfl⟩, hh.2.2.mono (fun i _ hi => Or.inl hi), fun i hi => Or.inl hi⟩
    rcases e with e | ⟨x, hx, _⟩
    · cases e
    · simp at hx
  · rw [if_neg h0, decide_eq_false h0]
    have e0 : rs = [] := List.eq_nil_of_length_eq_zero (by omega)
    subst e0
    have el : s.l = [] := hrs.symm
    obtain ⟨av, cv, rfl, _⟩ := hH.slice
    refine (flush_none g jb s av cv w h).mono fun e w' hh => ⟨_, _, _, _, hh.1, fun e => absurd e h0, ?_⟩
    rw [el]
    exact (Step.same (Gat.stab g jb s) hSt hh.2).withNil
end Go.Proofs.Ytlbkkeoffeohnab
namespace Go.Proofs.Ytlbkkeoffeohnab
open Go.RowKit
/-- The conditions' row and the bounds' box, as a thing. -/
def CndR (jb bb : Nat) (b : Bnd) : Res := fun y S => Cnd y jb bb b ∧ S = fun i => i = jb ∨ i = bb
theorem CndR.stab (jb bb : Nat) (b : Bnd) : Stab (CndR jb bb b) where
  keep := fun {y y' T S} h hc hS => by
    obtain ⟨h, rfl⟩ := h
    exact ⟨h.ch hc (hS bb (Or.inr rfl)) (hS jb (Or.inl rfl)), rfl⟩
  lt := fun {y S} h i hi => by
    obtain ⟨h, rfl⟩ := h
    rcases hi with rfl | rfl
    · exact lt_of_heap h.row
    · exact lt_of_heap h.box
/-- Nothing. -/
def Non : Res := fun _ S => S = fun _ => False
theorem Non.stab : Stab Non := ⟨fun h _ _ => h, fun h i hi => by subst h; exact hi.elim⟩
/-- A gatherer, its conditions, and whatever else. -/
def Gq (g jb bb : Nat) (s : Gs) (Q : Res) : Res := Sep (CndR jb bb s.b) (Sep (Gat g jb s) Q)
theorem Gq.stab {g jb bb : Nat} {s : Gs} {Q : Res} (hQ : Stab Q) : Stab (Gq g jb bb s Q) := (CndR.stab jb bb s.b).sep ((Gat.stab g jb s).sep hQ)
/-- How a thing turns: into another, upon its own blocks and new ones. -/
def Turns (S : Nat → Prop) (x : World) (P : Res) (x' : World) (S' : Nat → Prop) : Prop := P x' S' ∧ Ch S x x' ∧ ∀ i, S' i → S i ∨ x.heap.size ≤ i
theorem row_rcs {w : World} {B : Nat} {v : Value} {l : List RI} (h : w.ownsRow B 40 6 v l.length (rcs l)) (hh : ∀ x ∈ l, Hds w x.a x.r.hs) : ∃ a cap, v = .slice a l.length cap ∧ Rcs w a l := by
  have hlt := World.ownsRow.lt h
  have hcell := fun (g : Nat) (hg : v.ownBlock = some g) => World.ownsRow.cells h hg
  obtain ⟨hl, hr⟩ := h
  rcases hr with ⟨rfl, h1⟩ | ⟨g, cap, cur, rfl, _⟩
  · exact ⟨none, 0, by rw [h1], hh, Or.inl (List.eq_nil_of_length_eq_zero h1)⟩
  · refine ⟨some ⟨g, 0, none⟩, cap, rfl, hh, Or.inr ⟨g, 0, rfl, (hlt g rfl).2, fun j hj => ?_⟩⟩
    have e : ∀ i, (⟨g, 0, none⟩ : Addr).add i = ⟨g, 0 + i, none⟩ := fun i => Go.WideShapes.add_plain _ _ _
    have k : ∀ i v, i < 6 → (rc1 (l.getD j dri))[i]? = some v → w.cell? ⟨g, 0 + (j * 6 + i), none⟩ = some v := fun i v hi hv => by
      have := hcell g rfl _ _ (rcs_at l j i v hj hi hv); rw [e] at this; exact this
    exact ⟨by have := k 0 _ (by omega) rfl; simpa [Nat.add_assoc] using this, by have := k 1 _ (by omega) rfl; simpa [Nat.add_assoc] using this, by have := k 2 _ (by omega) rfl; simpa [Nat.add_assoc] using this, by have := k 3 _ (by omega) rfl; simpa [Nat.add_assoc] using this, by have := k 4 _ (by omega) rfl; simpa [Nat.add_assoc] using this, by have := k 5 _ (by omega) rfl; simpa [Nat.add_assoc] using this⟩
theorem hb_rcs {x : World} {v : Value} {l : List Rec} {S : Nat → Prop} (h : Hb v l x S) : ∃ rs a cap, v = .slice a l.length cap ∧ rs.map RI.r = l ∧ Rcs x a rs := by
  obtain ⟨rs, h1, h2, _⟩ := h
  obtain ⟨a, cap, e, hr⟩ := h1.slice
  exact ⟨rs, a, cap, by rw [e, ← h2, List.length_map], h2, hr⟩
/-- Add, beside whatever else; what is handed out is a thing of its own. -/
theorem gq_addH {g jb bb : Nat} {s : Gs} {Q : Res} (hQ : Stab Q) (r : Rec) (a : Option Addr) (cap : Nat) (x : World) (S : Nat → Prop) (h : Gq g jb bb s Q x S) (hO : GsO s) (V : Hds x a r.hs) (ht : I64 r.t) (hm : Mod r) :
    Calls Try.prog 6 #[.pointer (some ⟨g, 0, none⟩), recV r a cap] x fun e x' => ∃ pk pr q av cv, e = .returned (.tuple #[batA pk pr q (.slice av (addL s r).length cv), .bool (addO s r), .int .i64 (addE s r)]) ∧ AddQ s r pk pr q ∧ (∃ rs, rs.map RI.r = addL s r ∧ Rcs x' av rs) ∧ ∃ S', Turns S x (Gq g jb bb (addS s r) (Sep (Hb (.slice av (addL s r).length cv) (addL s r)) Q)) x' S' := by
  obtain ⟨S1, S2, h1, ⟨S3, S4, h3, h4, h34, h2i⟩, h12, hSi⟩ := h
  refine (add_res g jb bb s r a cap x hO h1.1 V ht hm S3 h3).mono fun e x' hh => ?_
  obtain ⟨pk, pr, q, v, he, hq, S3', ⟨T1, T2, k1, k2, k12, ki⟩, hc, hs⟩ := hh
  obtain ⟨rs, av, cv, rfl, hrs, hr⟩ := hb_rcs k2
  have hnS1 : ∀ i, S1 i → ¬ S3 i := fun i a b => h12 i a ((h2i i).2 (Or.inl b))
  have hnew : ∀ i, S3' i → S3 i ∨ x.heap.size ≤ i := hs
  refine ⟨pk, pr, q, av, cv, he, hq, ⟨rs, hrs, hr⟩, fun i => S1 i ∨ (T1 i ∨ (T2 i ∨ S4 i)), ⟨⟨S1, fun i => T1 i ∨ (T2 i ∨ S4 i), ?_, ⟨T1, fun i => T2 i ∨ S4 i, k1, ⟨T2, S4, k2, hQ.keep h4 hc (fun i a b => h34 i b a), fun i a b => ?_, fun i => Iff.rfl⟩, fun i a b => ?_, fun i => Iff.rfl⟩, fun i a b => ?_, fun i => Iff.rfl⟩, hc.mono (fun i _ hi => (hSi i).2 (Or.inr ((h2i i).2 (Or.inl hi)))), fun i hi => ?_⟩⟩
  · rw [addS_b]
    exact (CndR.stab jb bb s.b).keep h1 hc hnS1
  · rcases hnew i ((ki i).2 (Or.inr a)) with c | c
    · exact h34 i c b
    · have := hQ.lt h4 i b; omega
  · rcases b with b | b
    · exact k12 i a b
    · rcases hnew i ((ki i).2 (Or.inl a)) with c | c
      · exact h34 i c b
      · have := hQ.lt h4 i b; omega
  · have hl := (CndR.stab jb bb s.b).lt h1 i a
    have key : S3' i → False := fun b => by
      rcases hnew i b with c | c
      · exact hnS1 i a c
      · omega
    rcases b with b | b | b
    · exact key ((ki i).2 (Or.inl b))
    · exact key ((ki i).2 (Or.inr b))
    · exact h12 i a ((h2i i).2 (Or.inr b))
  · have key : S3' i → S i ∨ x.heap.size ≤ i := fun b => (hnew i b).imp (fun c => (hSi i).2 (Or.inr ((h2i i).2 (Or.inl c)))) id
    rcases hi with b | b | b | b
    · exact Or.inl ((hSi i).2 (Or.inl b))
    · exact key ((ki i).2 (Or.inl b))
    · exact key ((ki i).2 (Or.inr b))
    · exact Or.inl ((hSi i).2 (Or.inr ((h2i i).2 (Or.inr b))))
/-- What was handed out is let go. -/
theorem Gq.drop {g jb bb : Nat} {s : Gs} {P Q : Res} {x : World} {S : Nat → Prop} (h : Gq g jb bb s (Sep P Q) x S) : ∃ S', Gq g jb bb s Q x S' ∧ ∀ i, S' i → S i := by
  obtain ⟨S1, S2, h1, ⟨S3, S4, h3, ⟨S5, S6, h5, h6, h56, h4i⟩, h34, h2i⟩, h12, hSi⟩ := h
  exact ⟨fun i => S1 i ∨ (S3 i ∨ S6 i), ⟨S1, fun i => S3 i ∨ S6 i, h1, ⟨S3, S6, h3, h6, fun i a b => h34 i a ((h4i i).2 (Or.inr b)), fun i => Iff.rfl⟩, fun i a b => h12 i a ((h2i i).2 (b.imp id (fun c => (h4i i).2 (Or.inr c)))), fun i => Iff.rfl⟩, fun i hi => (hSi i).2 (hi.imp id (fun b => (h2i i).2 (b.imp id (fun c => (h4i i).2 (Or.inr c)))))⟩
theorem Turns.drop {g jb bb : Nat} {s : Gs} {P Q : Res} {x x' : World} {S S' : Nat → Prop} (h : Turns S x (Gq g jb bb s (Sep P Q)) x' S') : ∃ S'', Turns S x (Gq g jb bb s Q) x' S'' := by
  obtain ⟨h1, h2, h3⟩ := h
  obtain ⟨S'', k1, k2⟩ := h1.drop
  exact ⟨S'', k1, h2, fun i hi => h3 i (k2 i hi)⟩
theorem gq_add {g jb bb : Nat} {s : Gs} {Q : Res} (hQ : Stab Q) (r : Rec) (a : Option Addr) (cap : Nat) (x : World) (S : Nat → Prop) (h : Gq g jb bb s Q x S) (hO : GsO s) (V : Hds x a r.hs) (ht : I64 r.t) (hm : Mod r) :
    Calls Try.prog 6 #[.pointer (some ⟨g, 0, none⟩), recV r a cap] x fun e x' => ∃ pk pr q av cv, e = .returned (.tuple #[batA pk pr q (.slice av (addL s r).length cv), .bool (addO s r), .int .i64 (addE s r)]) ∧ AddQ s r pk pr q ∧ (∃ rs, rs.map RI.r = addL s r ∧ Rcs x' av rs) ∧ ∃ S', Turns S x (Gq g jb bb (addS s r) Q) x' S' :=
  (gq_addH hQ r a cap x S h hO V ht hm).mono fun e x' hh => by
    obtain ⟨pk, pr, q, av, cv, h1, h2, h3, S', h4⟩ := hh
    exact ⟨pk, pr, q, av, cv, h1, h2, h3, h4.drop⟩
/-- What Flush makes of a state. -/
def flS (s : Gs) : Gs := if 0 < s.l.length then ⟨s.b, [], 0, behZ s.b.pr s.q s.l.length⟩ else s
theorem flS_b (s : Gs) : (flS s).b = s.b := by unfold flS; split <;> rfl
theorem flS_ok {s : Gs} (h : GsO s) : GsO (flS s) := by
  unfold flS
  split
  · exact fl_ok h _
  · exact h
theorem flS_l (s : Gs) : (flS s).l = [] := by
  unfold flS
  split
  · rfl
  · rename_i h; exact List.eq_nil_of_length_eq_zero (by omega)
theorem gq_flushH {g jb bb : Nat} {s : Gs} {Q : Res} (hQ : Stab Q) (x : World) (S : Nat → Prop) (h : Gq g jb bb s Q x S) (hO : GsO s) :
    Calls Try.prog 7 #[.pointer (some ⟨g, 0, none⟩)] x fun e x' => ∃ pk pr q av cv, e = .returned (.tuple #[batA pk pr q (.slice av s.l.length cv), .bool (decide (0 < s.l.length))]) ∧ (0 < s.l.length → pk = s.b.pk ∧ pr = s.b.pr ∧ q = s.q) ∧ (∃ rs, rs.map RI.r = s.l ∧ Rcs x' av rs) ∧ ∃ S', Turns S x (Gq g jb bb (flS s) (Sep (Hb (.slice av s.l.length cv) s.l) Q)) x' S' := by
  obtain ⟨S1, S2, h1, ⟨S3, S4, h3, h4, h34, h2i⟩, h12, hSi⟩ := h
  refine (flush_res g jb s x hO S3 h3).mono fun e x' hh => ?_
  obtain ⟨pk, pr, q, v, he, hq, S3', ⟨T1, T2, k1, k2, k12, ki⟩, hc, hs⟩ := hh
  obtain ⟨rs, av, cv, rfl, hrs, hr⟩ := hb_rcs k2
  have hnS1 : ∀ i, S1 i → ¬ S3 i := fun i a b => h12 i a ((h2i i).2 (Or.inl b))
  have hnew : ∀ i, S3' i → S3 i ∨ x.heap.size ≤ i := hs
  refine ⟨pk, pr, q, av, cv, he, hq, ⟨rs, hrs, hr⟩, fun i => S1 i ∨ (T1 i ∨ (T2 i ∨ S4 i)), ⟨⟨S1, fun i => T1 i ∨ (T2 i ∨ S4 i), ?_, ⟨T1, fun i => T2 i ∨ S4 i, k1, ⟨T2, S4, k2, hQ.keep h4 hc (fun i a b => h34 i b a), fun i a b => ?_, fun i => Iff.rfl⟩, fun i a b => ?_, fun i => Iff.rfl⟩, fun i a b => ?_, fun i => Iff.rfl⟩, hc.mono (fun i _ hi => (hSi i).2 (Or.inr ((h2i i).2 (Or.inl hi)))), fun i hi => ?_⟩⟩
  · rw [flS_b]
    exact (CndR.stab jb bb s.b).keep h1 hc hnS1
  · rcases hnew i ((ki i).2 (Or.inr a)) with c | c
    · exact h34 i c b
    · have := hQ.lt h4 i b; omega
  · rcases b with b | b
    · exact k12 i a b
    · rcases hnew i ((ki i).2 (Or.inl a)) with c | c
      · exact h34 i c b
      · have := hQ.lt h4 i b; omega
  · have hl := (CndR.stab jb bb s.b).lt h1 i a
    have key : S3' i → False := fun b => by
      rcases hnew i b with c | c
      · exact hnS1 i a c
      · omega
    rcases b with b | b | b
    · exact key ((ki i).2 (Or.inl b))
    · exact key ((ki i).2 (Or.inr b))
    · exact h12 i a ((h2i i).2 (Or.inr b))
  · have key : S3' i → S i ∨ x.heap.size ≤ i := fun b => (hnew i b).imp (fun c => (hSi i).2 (Or.inr ((h2i i).2 (Or.inl c)))) id
    rcases hi with b | b | b | b
    · exact Or.inl ((hSi i).2 (Or.inl b))
    · exact key ((ki i).2 (Or.inl b))
    · exact key ((ki i).2 (Or.inr b))
    · exact Or.inl ((hSi i).2 (Or.inr ((h2i i).2 (Or.inr b))))
theorem gq_flush {g jb bb : Nat} {s : Gs} {Q : Res} (hQ : Stab Q) (x : World) (S : Nat → Prop) (h : Gq g jb bb s Q x S) (hO : GsO s) :
    Calls Try.prog 7 #[.pointer (some ⟨g, 0, none⟩)] x fun e x' => ∃ pk pr q av cv, e = .returned (.tuple #[batA pk pr q (.slice av s.l.length cv), .bool (decide (0 < s.l.length))]) ∧ (0 < s.l.length → pk = s.b.pk ∧ pr = s.b.pr ∧ q = s.q) ∧ (∃ rs, rs.map RI.r = s.l ∧ Rcs x' av rs) ∧ ∃ S', Turns S x (Gq g jb bb (flS s) Q) x' S' :=
  (gq_flushH hQ x S h hO).mono fun e x' hh => by
    obtain ⟨pk, pr, q, av, cv, h1, h2, h3, S', h4⟩ := hh
    exact ⟨pk, pr, q, av, cv, h1, h2, h3, h4.drop⟩
theorem gq_waiting {g jb bb : Nat} {s : Gs} {Q : Res} (x : World) (S : Nat → Prop) (h : Gq g jb bb s Q x S) :
    Calls Try.prog 8 #[.pointer (some ⟨g, 0, none⟩)] x fun e x' => e = .returned (.tuple #[.int .i64 s.l.length, .int .i64 s.k]) ∧ ∃ k, x' = x.drewN k := by
  obtain ⟨S1, S2, h1, ⟨S3, S4, ⟨v, rs, hg, hh, hrs, _⟩, _⟩, _⟩ := h
  obtain ⟨a, c, rfl, _⟩ := hh.slice
  have e : rs.length = s.l.length := by have := congrArg List.length hrs; rwa [List.length_map] at this
  rw [e] at hg
  exact waiting_any g jb s a _ c x hg
theorem gq_seq {g jb bb : Nat} {s : Gs} {Q : Res} (x : World) (S : Nat → Prop) (h : Gq g jb bb s Q x S) :
    Calls Try.prog 9 #[.pointer (some ⟨g, 0, none⟩)] x fun e x' => e = .returned (.int .i32 s.q) ∧ x' = x := by
  obtain ⟨S1, S2, h1, ⟨S3, S4, ⟨v, rs, hg, hh, hrs, _⟩, _⟩, _⟩ := h
  exact seq_any g jb s v x hg
theorem gq_new (b : Bnd) (w : World) (h : sndG b.pr b.sq = true) : Calls Try.prog 5 #[bndV b] w fun e w' => ∃ g jb bb S, e = .returned (.tuple #[.pointer (some ⟨g, 0, none⟩), .int .i64 0]) ∧ Gq g jb bb (Gs0 b) Non w' S ∧ (∀ i, S i → w.heap.size ≤ i) ∧ Below w.heap.size w w' := by
  refine (new_yes b w h).mono fun e w' hh => ?_
  obtain ⟨g, jb, bb, he, hg, hc, l1, l2, l3, hb⟩ := hh
  have n1 : jb ≠ g := fun e => by have := hc.row; rw [e] at this; unfold Gcell at hg; rw [hg] at this; cases this
  have n2 : bb ≠ g := fun e => by have := hc.box; rw [e] at this; unfold Gcell at hg; rw [hg] at this; cases this
  have e0 : (fun i => i = g) = fun i => i = g ∨ HS (.slice none 0 0) [] i := funext fun i => propext ⟨Or.inl, fun e => e.elim id (fun e => by
    rcases e with e | ⟨x, hx, _⟩
    · cases e
    · simp at hx)⟩
  refine ⟨g, jb, bb, fun i => (i = jb ∨ i = bb) ∨ (i = g ∨ False), he, ⟨fun i => i = jb ∨ i = bb, fun i => i = g ∨ False, ⟨hc, rfl⟩, ⟨fun i => i = g, fun _ => False, ⟨_, [], hg, held_nil w', rfl, e0⟩, rfl, fun _ _ e => e, fun i => Iff.rfl⟩, fun i a b => ?_, fun i => Iff.rfl⟩, fun i hi => ?_, hb⟩
  · rcases b with rfl | b
    · rcases a with rfl | rfl
      · exact n1 rfl
      · exact n2 rfl
    · exact b
  · rcases hi with (rfl | rfl) | rfl | hi
    · exact l2
    · exact l3
    · exact l1
    · exact hi.elim
/-- What was handed out lies apart from what may turn. -/
theorem Turns.part {g jb bb : Nat} {s : Gs} {v : Value} {l : List Rec} {Q : Res} {x x' : World} {S S' : Nat → Prop} (h : Turns S x (Gq g jb bb s (Sep (Hb v l) Q)) x' S') : ∃ T S'', Hb v l x' T ∧ Turns S x (Gq g jb bb s Q) x' S'' ∧ (∀ i, T i → ¬ S'' i) ∧ ∀ i, T i → S i ∨ x.heap.size ≤ i := by
  obtain ⟨⟨S1, S2, h1, ⟨S3, S4, h3, ⟨S5, S6, h5, h6, h56, h4i⟩, h34, h2i⟩, h12, hSi⟩, hc, hs⟩ := h
  refine ⟨S5, fun i => S1 i ∨ (S3 i ∨ S6 i), h5, ⟨⟨S1, fun i => S3 i ∨ S6 i, h1, ⟨S3, S6, h3, h6, fun i a b => h34 i a ((h4i i).2 (Or.inr b)), fun i => Iff.rfl⟩, fun i a b => h12 i a ((h2i i).2 (b.imp id (fun c => (h4i i).2 (Or.inr c)))), fun i => Iff.rfl⟩, hc, fun i hi => hs i ((hSi i).2 (hi.imp id (fun b => (h2i i).2 (b.imp id (fun c => (h4i i).2 (Or.inr c))))))⟩, fun i a b => ?_, fun i a => hs i ((hSi i).2 (Or.inr ((h2i i).2 (Or.inr ((h4i i).2 (Or.inl a))))))⟩
  rcases b with b | b | b
  · exact h12 i b ((h2i i).2 (Or.inr ((h4i i).2 (Or.inl a))))
  · exact h34 i b ((h4i i).2 (Or.inl a))
  · exact h56 i a b
end Go.Proofs.Ytlbkkeoffeohnab
namespace Go.Proofs.Ytlbkkeoffeohnab
open Go.RowKit
theorem Gq.al {g jb bb : Nat} {s : Gs} {Q : Res} {x : World} {S : Nat → Prop} (hQ : Stab Q) (h : Gq g jb bb s Q x S) (o : Obj) : Gq g jb bb s Q (x.alloc o) S := (Gq.stab hQ).keep h ((Ch.refl (fun _ => False) x).alloc o) (fun _ _ e => e)
theorem Gq.dr {g jb bb : Nat} {s : Gs} {Q : Res} {x : World} {S : Nat → Prop} (hQ : Stab Q) (h : Gq g jb bb s Q x S) (n : Nat) : Gq g jb bb s Q (x.drewN n) S := (Gq.stab hQ).keep h ((Ch.refl (fun _ => False) x).drewN n) (fun _ _ e => e)
theorem Turns.far {S S' : Nat → Prop} {x x' : World} {P : Res} {p : Nat} {o : Obj} (h : Turns S x P x' S') (hp : x.heap[p]? = some o) (hn : ¬ S p) : x'.heap[p]? = some o ∧ ¬ S' p :=
  ⟨(h.2.1.block p (lt_of_heap hp) hn).trans hp, fun e => (h.2.2 p e).elim hn (fun e => by have := lt_of_heap hp; omega)⟩
theorem Turns.base {S S' : Nat → Prop} {x x' w : World} {P : Res} {H : Nat} (h : Turns S x P x' S') (hS : ∀ i, S i → H ≤ i) (hb : Below H w x) (hH : H ≤ x.heap.size) : (∀ i, S' i → H ≤ i) ∧ Below H w x' ∧ H ≤ x'.heap.size :=
  ⟨fun i hi => (h.2.2 i hi).elim (hS i) (fun e => Nat.le_trans hH e), hb.trans (h.2.1.below hH (fun i hi e => by have := hS i e; omega)), Nat.le_trans hH h.2.1.size⟩
theorem cells3' {x : World} {P : Nat} {T : TypeId} {v0 v1 v2 : Value} (h : x.heap[P]? = some (.cells #[v0, v1, v2] T (0, 0))) : x.cell? ⟨P, 0, none⟩ = some v0 ∧ x.cell? ⟨P, 1, none⟩ = some v1 ∧ x.cell? ⟨P, 2, none⟩ = some v2 := ⟨(cell_of h).trans rfl, (cell_of h).trans rfl, (cell_of h).trans rfl⟩
def bF : Bnd := ⟨3, 100, 1000, 10, false, 7, 2147483646⟩
def rF (t : Int) : Rec := ⟨t, false, ⟨#[]⟩, false, ⟨#[]⟩, []⟩
def sF0 : Gs := Gs0 bF
def sF1 : Gs := addS sF0 (rF 0)
def sF2 : Gs := addS sF1 (rF 5)
def sF3 : Gs := addS sF2 (rF 10)
def sF4 : Gs := addS sF3 (rF 10)
theorem rF_mod (t : Int) : Mod (rF t) := ⟨(by show 0 ≤ _; decide), (by show 0 ≤ _; decide), (by intro x hx; cases hx), (by show 0 ≤ _; decide), fun _ => by show 100 + (ol false ⟨#[]⟩).length + (ol false ⟨#[]⟩).length + (hl []).length ≤ _; decide⟩
set_option maxRecDepth 100000 in
theorem fF : (addO sF0 (rF 0) = false ∧ addE sF0 (rF 0) = 0 ∧ (addL sF0 (rF 0)).length = 0) ∧ (addO sF1 (rF 5) = false ∧ addE sF1 (rF 5) = 0 ∧ (addL sF1 (rF 5)).length = 0) ∧ (addO sF2 (rF 10) = false ∧ addE sF2 (rF 10) = 0 ∧ (addL sF2 (rF 10)).length = 0) ∧ (addO sF3 (rF 10) = true ∧ addE sF3 (rF 10) = 0 ∧ (addL sF3 (rF 10)).length = 3) ∧ sF3.l.length = 3 ∧ sF3.k = 21 ∧ sF3.b.pr = 7 ∧ sF3.q = 2147483646 ∧ sF4.q = 1 := by decide +kernel
theorem sF_ok : GsO sF0 ∧ GsO sF1 ∧ GsO sF2 ∧ GsO sF3 := by
  have h0 : GsO sF0 := gs0_ok ⟨by unfold I64; decide, by unfold I64; decide, by decide⟩ (by decide)
  have h1 : GsO sF1 := addS_ok h0 (by unfold I64; decide)
  have h2 : GsO sF2 := addS_ok h1 (by unfold I64; decide)
  exact ⟨h0, h1, h2, addS_ok h2 (by unfold I64; decide)⟩
set_option maxRecDepth 20000 in
set_option maxHeartbeats 4000000 in
theorem fixed_any (w : World) : Calls Try.prog 4 #[] w fun e w' => e = .returned (.bool true) ∧ Below w.heap.size w w' := by
  obtain ⟨f0, f1, f2, f3, e1, e2, e3, e4, e5⟩ := fF
  obtain ⟨o0, o1, o2, o3⟩ := sF_ok
  have HN : Hid (∀ x, Calls Try.prog 5 #[.agg #[.int .i64 3, .int .i64 100, .int .i64 1000, .int .i64 10, .bool false, .int .i64 7, .int .i32 2147483646]] x fun e w' => ∃ g jb bb S, e = .returned (.tuple #[.pointer (some ⟨g, 0, none⟩), .int .i64 0]) ∧ Gq g jb bb sF0 Non w' S ∧ (∀ i, S i → x.heap.size ≤ i) ∧ Below x.heap.size x w') := fun x => gq_new bF x (by decide)
  have HA0 : Hid (∀ g jb bb x S, Gq g jb bb sF0 Non x S → Calls Try.prog 6 #[.pointer (some ⟨g, 0, none⟩), .agg #[.int .i64 0, .bool false, .string ⟨#[]⟩, .bool false, .string ⟨#[]⟩, .slice none 0 0]] x fun e x' => ∃ pk pr q av cv, e = .returned (.tuple #[.agg #[.int .i64 0, .bool pk, .int .i64 pr, .int .i32 q, .slice av 0 cv], .bool false, .int .i64 0]) ∧ ∃ S', Turns S x (Gq g jb bb sF1 Non) x' S') := fun g jb bb x S h => (gq_add Non.stab (rF 0) none 0 x S h o0 (Or.inl rfl) (by unfold I64; decide) (rF_mod _)).mono fun e x' hh => by
    obtain ⟨pk, pr, q, av, cv, h1, h2, _, S', h4⟩ := hh
    rw [f0.1, f0.2.1, f0.2.2] at h1
    exact ⟨pk, pr, q, av, cv, h1, S', h4⟩
  have HA1 : Hid (∀ g jb bb x S, Gq g jb bb sF1 Non x S → Calls Try.prog 6 #[.pointer (some ⟨g, 0, none⟩), .agg #[.int .i64 5, .bool false, .string ⟨#[]⟩, .bool false, .string ⟨#[]⟩, .slice none 0 0]] x fun e x' => ∃ pk pr q av cv, e = .returned (.tuple #[.agg #[.int .i64 0, .bool pk, .int .i64 pr, .int .i32 q, .slice av 0 cv], .bool false, .int .i64 0]) ∧ ∃ S', Turns S x (Gq g jb bb sF2 Non) x' S') := fun g jb bb x S h => (gq_add Non.stab (rF 5) none 0 x S h o1 (Or.inl rfl) (by unfold I64; decide) (rF_mod _)).mono fun e x' hh => by
    obtain ⟨pk, pr, q, av, cv, h1, h2, _, S', h4⟩ := hh
    rw [f1.1, f1.2.1, f1.2.2] at h1
    exact ⟨pk, pr, q, av, cv, h1, S', h4⟩
  have HA2 : Hid (∀ g jb bb x S, Gq g jb bb sF2 Non x S → Calls Try.prog 6 #[.pointer (some ⟨g, 0, none⟩), .agg #[.int .i64 10, .bool false, .string ⟨#[]⟩, .bool false, .string ⟨#[]⟩, .slice none 0 0]] x fun e x' => ∃ pk pr q av cv, e = .returned (.tuple #[.agg #[.int .i64 0, .bool pk, .int .i64 pr, .int .i32 q, .slice av 0 cv], .bool false, .int .i64 0]) ∧ ∃ S', Turns S x (Gq g jb bb sF3 Non) x' S') := fun g jb bb x S h => (gq_add Non.stab (rF 10) none 0 x S h o2 (Or.inl rfl) (by unfold I64; decide) (rF_mod _)).mono fun e x' hh => by
    obtain ⟨pk, pr, q, av, cv, h1, h2, _, S', h4⟩ := hh
    rw [f2.1, f2.2.1, f2.2.2] at h1
    exact ⟨pk, pr, q, av, cv, h1, S', h4⟩
  have HA3 : Hid (∀ g jb bb x S, Gq g jb bb sF3 Non x S → Calls Try.prog 6 #[.pointer (some ⟨g, 0, none⟩), .agg #[.int .i64 10, .bool false, .string ⟨#[]⟩, .bool false, .string ⟨#[]⟩, .slice none 0 0]] x fun e x' => ∃ pk pr q av cv, e = .returned (.tuple #[.agg #[.int .i64 0, .bool pk, .int .i64 pr, .int .i32 q, .slice av 3 cv], .bool true, .int .i64 0]) ∧ pr = 7 ∧ q = 2147483646 ∧ ∃ S', Turns S x (Gq g jb bb sF4 Non) x' S') := fun g jb bb x S h => (gq_add Non.stab (rF 10) none 0 x S h o3 (Or.inl rfl) (by unfold I64; decide) (rF_mod _)).mono fun e x' hh => by
    obtain ⟨pk, pr, q, av, cv, h1, h2, _, S', h4⟩ := hh
    rw [f3.1, f3.2.1, f3.2.2] at h1
    exact ⟨pk, pr, q, av, cv, h1, (h2.1 f3.1).2.1.trans e3, (h2.1 f3.1).2.2.trans e4, S', h4⟩
  have HWt : Hid (∀ g jb bb x S, Gq g jb bb sF3 Non x S → Calls Try.prog 8 #[.pointer (some ⟨g, 0, none⟩)] x fun e x' => e = .returned (.tuple #[.int .i64 3, .int .i64 21]) ∧ ∃ k, x' = x.drewN k) := fun g jb bb x S h => by
    have := gq_waiting x S h
    rw [e1, e2] at this
    exact this
  have HSq : Hid (∀ g jb bb x S, Gq g jb bb sF4 Non x S → Calls Try.prog 9 #[.pointer (some ⟨g, 0, none⟩)] x fun e x' => e = .returned (.int .i32 1) ∧ x' = x) := fun g jb bb x S h => by
    have := gq_seq x S h
    rw [e5] at this
    exact this
  clear f0 f1 f2 f3 e1 e2 e3 e4 e5 o0 o1 o2 o3
  go_enter Try.func4, Try.ntmps4
  go_wp2_with (go_at_call 5; refine (HN.out _).mono ?_; rintro e x0 ⟨g, jb, bb, S0, rfl, hG, hS, hb⟩; have N0 : Hid (¬ S0 x0.heap.size) := (fun e => Nat.lt_irrefl _ ((Gq.stab Non.stab).lt hG _ e)); have G0 := hid (hG.al Non.stab (.cells #[.int .i64 0, .int .i64 5, .int .i64 10] 2)); have SS0 := hid hS; have B0 : Hid (Below w.heap.size w (x0.alloc (.cells #[.int .i64 0, .int .i64 5, .int .i64 10] 2))) := hb.alloc hb.size _; have R0 := hid (heap_new x0 (.cells #[.int .i64 0, .int .i64 5, .int .i64 10] 2)); obtain ⟨r0, r1, r2⟩ := cells3' R0.out; clear hG hS hb)
  refine wp_loop_rounds 4 ?_
  rw [rounds_succ]
  go_wp2_with (go_at_call 6; refine (HA0.out g jb bb _ S0 G0.out).mono ?_; rintro e x1 ⟨pk, pr, q, av, cv, rfl, S1, hT⟩; obtain ⟨hR, hN⟩ := hT.far R0.out N0.out; obtain ⟨hS, hB, hH⟩ := hT.base SS0.out B0.out B0.out.size; have G1 := hid (hT.1.al Non.stab (.cells #[.int .i64 0, .bool pk, .int .i64 pr, .int .i32 q, .slice av 0 cv] 28)); have N1 := hid hN; have SS1 := hid hS; have B1 := hid (hB.alloc hH (.cells #[.int .i64 0, .bool pk, .int .i64 pr, .int .i32 q, .slice av 0 cv] 28)); have R1 := hid (heap_alloc_at (o' := (.cells #[.int .i64 0, .bool pk, .int .i64 pr, .int .i32 q, .slice av 0 cv] 28)) hR); obtain ⟨r0, r1, r2⟩ := cells3' R1.out; clear hT hR hN hS hB hH)
  rw [rounds_succ]
  go_wp2_with (go_at_call 6; refine (HA1.out g jb bb _ S1 G1.out).mono ?_; rintro e x2 ⟨pk, pr, q, av, cv, rfl, S2, hT⟩; obtain ⟨hR, hN⟩ := hT.far R1.out N1.out; obtain ⟨hS, hB, hH⟩ := hT.base SS1.out B1.out B1.out.size; have G2 := hid (hT.1.al Non.stab (.cells #[.int .i64 0, .bool pk, .int .i64 pr, .int .i32 q, .slice av 0 cv] 28)); have N2 := hid hN; have SS2 := hid hS; have B2 := hid (hB.alloc hH (.cells #[.int .i64 0, .bool pk, .int .i64 pr, .int .i32 q, .slice av 0 cv] 28)); have R2 := hid (heap_alloc_at (o' := (.cells #[.int .i64 0, .bool pk, .int .i64 pr, .int .i32 q, .slice av 0 cv] 28)) hR); obtain ⟨r0, r1, r2⟩ := cells3' R2.out; clear hT hR hN hS hB hH)
  rw [rounds_succ]
  go_wp2_with (go_at_call 6; refine (HA2.out g jb bb _ S2 G2.out).mono ?_; rintro e x3 ⟨pk, pr, q, av, cv, rfl, S3, hT⟩; obtain ⟨hR, hN⟩ := hT.far R2.out N2.out; obtain ⟨hS, hB, hH⟩ := hT.base SS2.out B2.out B2.out.size; have G3 := hid (hT.1.al Non.stab (.cells #[.int .i64 0, .bool pk, .int .i64 pr, .int .i32 q, .slice av 0 cv] 28)); have N3 := hid hN; have SS3 := hid hS; have B3 := hid (hB.alloc hH (.cells #[.int .i64 0, .bool pk, .int .i64 pr, .int .i32 q, .slice av 0 cv] 28)); have R3 := hid (heap_alloc_at (o' := (.cells #[.int .i64 0, .bool pk, .int .i64 pr, .int .i32 q, .slice av 0 cv] 28)) hR); obtain ⟨r0, r1, r2⟩ := cells3' R3.out; clear hT hR hN hS hB hH)
  rw [rounds_succ]
  go_wp2_with (first | (go_at_call 8; refine (HWt.out g jb bb _ S3 G3.out).mono ?_; rintro e w' ⟨rfl, kk, rfl⟩; have G3a := hid (G3.out.dr Non.stab kk)) | (go_at_call 6; refine (HA3.out g jb bb _ S3 G3a.out).mono ?_; rintro e x4 ⟨pk, pr, q, av, cv, rfl, rfl, rfl, S4, hT⟩; obtain ⟨hS, hB, hH⟩ := hT.base SS3.out (belN B3.out) (B3.out.size); have G4 := hid (hT.1.al Non.stab (.cells #[.int .i64 0, .bool pk, .int .i64 7, .int .i32 2147483646, .slice av 3 cv] 28)); have B4 := hid (hB.alloc hH (.cells #[.int .i64 0, .bool pk, .int .i64 7, .int .i32 2147483646, .slice av 3 cv] 28)); clear hT hS hB hH) | (go_at_call 9; refine (HSq.out g jb bb _ S4 G4.out).mono ?_; rintro e w' ⟨rfl, rfl⟩))
  go_ret
  exact ⟨rfl, B4.out⟩
end Go.Proofs.Ytlbkkeoffeohnab
namespace Go.Proofs.Ytlbkkeoffeohnab
open Go.RowKit
/-- The law's own list. -/
def Wt (v : Value) (l : List RI) : Res := fun y S => y.ownsRow 0 40 6 v l.length (rcs l) ∧ S = fun i => v.ownBlock = some i
theorem Wt.stab (v : Value) (l : List RI) : Stab (Wt v l) where
  keep := fun {y y' T S} h hc hS => by
    obtain ⟨h, rfl⟩ := h
    exact ⟨own_apart h (fun g hg => hc.block g (World.ownsRow.lt h g hg).2 (hS g hg)), rfl⟩
  lt := fun {y S} h i hi => by
    obtain ⟨h, rfl⟩ := h
    exact (World.ownsRow.lt h i hi).2
theorem Wt.nil (y : World) : Wt (.slice none 0 0) [] y (fun _ => False) := ⟨World.ownsRow_nil _ _ _ _, funext fun i => propext ⟨fun e => e.elim, fun e => by cases e⟩⟩
/-- Another thing in the place of the last. -/
theorem Gq.turn {g jb bb : Nat} {s : Gs} {Q Q' : Res} {x x' : World} {S : Nat → Prop} (h : Gq g jb bb s Q x S) (hq : ∀ T, Q x T → ∃ T', Turns T x Q' x' T') : ∃ S', Turns S x (Gq g jb bb s Q') x' S' := by
  obtain ⟨S1, S2, h1, ⟨S3, S4, h3, h4, h34, h2i⟩, h12, hSi⟩ := h
  obtain ⟨T', k1, k2, k3⟩ := hq S4 h4
  refine ⟨fun i => S1 i ∨ (S3 i ∨ T' i), ⟨S1, fun i => S3 i ∨ T' i, (CndR.stab jb bb s.b).keep h1 k2 (fun i a b => h12 i a ((h2i i).2 (Or.inr b))), ⟨S3, T', (Gat.stab g jb s).keep h3 k2 h34, k1, fun i a b => ?_, fun i => Iff.rfl⟩, fun i a b => ?_, fun i => Iff.rfl⟩, k2.mono (fun i _ hi => (hSi i).2 (Or.inr ((h2i i).2 (Or.inr hi)))), fun i hi => ?_⟩
  · rcases k3 i b with c | c
    · exact h34 i a c
    · have := (Gat.stab g jb s).lt h3 i a; omega
  · rcases b with b | b
    · exact h12 i a ((h2i i).2 (Or.inl b))
    · rcases k3 i b with c | c
      · exact h12 i a ((h2i i).2 (Or.inr c))
      · have := (CndR.stab jb bb s.b).lt h1 i a; omega
  · rcases hi with b | b | b
    · exact Or.inl ((hSi i).2 (Or.inl b))
    · exact Or.inl ((hSi i).2 (Or.inr ((h2i i).2 (Or.inl b))))
    · exact (k3 i b).imp (fun c => (hSi i).2 (Or.inr ((h2i i).2 (Or.inr c)))) id
theorem Gq.last {g jb bb : Nat} {s : Gs} {Q : Res} {x : World} {S : Nat → Prop} (h : Gq g jb bb s Q x S) : ∃ T, Q x T ∧ ∀ i, T i → S i := by
  obtain ⟨S1, S2, h1, ⟨S3, S4, h3, h4, h34, h2i⟩, h12, hSi⟩ := h
  exact ⟨S4, h4, fun i hi => (hSi i).2 (Or.inr ((h2i i).2 (Or.inr hi)))⟩
theorem gq_nilwt {g jb bb : Nat} {s : Gs} {Q : Res} {x : World} {S : Nat → Prop} (h : Gq g jb bb s Q x S) : ∃ S', Turns S x (Gq g jb bb s (Wt (.slice none 0 0) [])) x S' :=
  h.turn fun _ _ => ⟨fun _ => False, Wt.nil x, Ch.refl _ _, fun _ e => e.elim⟩
theorem gq_grow {g jb bb : Nat} {s : Gs} {v : Value} {l : List RI} {x x' : World} {S : Nat → Prop} {g4 cap4 : Nat} {y : RI} (h : Gq g jb bb s (Wt v l) x S)
    (hown : x'.ownsRow 0 40 6 (.slice (some ⟨g4, 0, none⟩) (l.length + 1) cap4) (l.length + 1) (rcs l ++ rc1 y))
    (hcase : (v = .slice (some ⟨g4, 0, none⟩) l.length cap4 ∧ x.grownBy x' (some g4)) ∨ (g4 = x.heap.size ∧ Below x.heap.size x x')) :
    ∃ S', Turns S x (Gq g jb bb s (Wt (.slice (some ⟨g4, 0, none⟩) (l.length + 1) cap4) (l ++ [y]))) x' S' :=
  h.turn fun T hT => by
    obtain ⟨hr, rfl⟩ := hT
    have e1 : (l ++ [y]).length = l.length + 1 := by simp
    have e2 : rcs (l ++ [y]) = rcs l ++ rc1 y := by rw [rcs_app]; simp [rcs]
    refine ⟨fun i => g4 = i, ⟨by rw [e1, e2]; exact hown, funext fun i => propext ⟨fun e => by subst e; rfl, fun e => by simpa [Value.ownBlock] using e⟩⟩, ?_, fun i hi => ?_⟩
    · rcases hcase with ⟨rfl, hc⟩ | ⟨_, hc⟩
      · exact ⟨hc.os, hc.tape, hc.output, hc.size, fun i hi hn => hc.block i hi (fun e => hn e.symm)⟩
      · exact Ch.of_below hc
    · subst hi
      rcases hcase with ⟨rfl, _⟩ | ⟨rfl, _⟩
      · exact Or.inl rfl
      · exact Or.inr (Nat.le_refl _)
/-- A call of a script. -/
structure GOp where
  k : Int
  x : RI
def dgo : GOp := ⟨0, dri⟩
def Gop7 (w : World) (b o : Nat) (p : GOp) : Prop := w.cell? ⟨b, o, none⟩ = some (.int .i64 p.k) ∧ w.cell? ⟨b, o + 1, none⟩ = some (.int .i64 p.x.r.t) ∧ w.cell? ⟨b, o + 2, none⟩ = some (.bool p.x.r.kh) ∧ w.cell? ⟨b, o + 3, none⟩ = some (.string p.x.r.kd) ∧ w.cell? ⟨b, o + 4, none⟩ = some (.bool p.x.r.vh) ∧ w.cell? ⟨b, o + 5, none⟩ = some (.string p.x.r.vd) ∧ w.cell? ⟨b, o + 6, none⟩ = some (.slice p.x.a p.x.r.hs.length p.x.cap)
/-- A script where it lies. -/
def Gops (w : World) (a : Option Addr) (os : List GOp) : Prop := (∀ o ∈ os, Hds w o.x.a o.x.r.hs) ∧ (os = [] ∨ ∃ b off, a = some ⟨b, off, none⟩ ∧ b < w.heap.size ∧ ∀ j, j < os.length → Gop7 w b (off + j * 7) (os.getD j dgo))
theorem goD_mem {l : List GOp} {j : Nat} (h : j < l.length) : l.getD j dgo ∈ l := by
  rw [List.getD_eq_getElem?_getD, List.getElem?_eq_getElem h, Option.getD_some]
  exact List.getElem_mem h
theorem bdbd (h : Bool) (d : ByteArray) : bd h (bd h d) = bd h d := by cases h <;> rfl
theorem sam_cln (r : Rec) : SamR (cln r) r := by
  refine ⟨rfl, ⟨rfl, bdbd _ _⟩, ⟨rfl, bdbd _ _⟩, List.length_map .., fun j hj => ?_⟩
  have hj' : j < r.hs.length := by simpa [cln] using hj
  have e : (cln r).hs.getD j df = ((r.hs.getD j df).1, (r.hs.getD j df).2.1, bd (r.hs.getD j df).2.1 (r.hs.getD j df).2.2) := by
    unfold cln
    dsimp only
    rw [List.getD_eq_getElem?_getD, List.getElem?_map, List.getD_eq_getElem?_getD, List.getElem?_eq_getElem hj']
    rfl
  rw [e]
  exact ⟨rfl, rfl, bdbd _ _⟩
/-- What was handed out says what the law's own list says. -/
theorem sam_wait {rs lw : List RI} (h : rs.map RI.r = lw.map (fun x => cln x.r)) : samL rs lw = true := by
  have hl : rs.length = lw.length := by have := congrArg List.length h; rwa [List.length_map, List.length_map] at this
  refine samL_yes ⟨hl, fun j hj => ?_⟩
  have hj2 : j < lw.length := hl ▸ hj
  have e1 := congrArg (fun z => z[j]?) h
  simp only [List.getElem?_map, List.getElem?_eq_getElem hj, List.getElem?_eq_getElem hj2, Option.map_some] at e1
  have e2 := Option.some.inj e1
  rw [List.getD_eq_getElem?_getD, List.getElem?_eq_getElem hj, List.getD_eq_getElem?_getD, List.getElem?_eq_getElem hj2]
  show SamR rs[j].r lw[j].r
  rw [e2]
  exact sam_cln _
end Go.Proofs.Ytlbkkeoffeohnab
