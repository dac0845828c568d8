/- What a book that forgets is: plain facts. -/
import Derived.Test.YtolobmhbmajolaaPg1
import Derived.Maps.RangeWalk
namespace Go.Proofs.Ytolobmhbmajolaa
open Go.RowKit Go.Maps
abbrev kl (q : Int) : Lit := .int .i64 q
def cur1 (below : Int) (left : Lit → Bool) (f : Tl) : Option Tl := if left (kl f.id) = true then some f else if fg below f.ns = [] then none else some ⟨f.id, f.bk, fg below f.ns⟩
def cur (below : Int) (left : Lit → Bool) (fs : List Tl) : List Tl := fs.filterMap (cur1 below left)
theorem fm_congr {α β : Type} {f g : α → Option β} : ∀ {l : List α}, (∀ x ∈ l, f x = g x) → l.filterMap f = l.filterMap g
  | [], _ => rfl
  | x :: r, h => by rw [List.filterMap_cons, List.filterMap_cons, h x (by simp), fm_congr (l := r) (fun y hy => h y (by simp [hy]))]
theorem cur1_id {below : Int} {left : Lit → Bool} {f g : Tl} (h : cur1 below left f = some g) : g.id = f.id ∧ g.bk = f.bk := by
  unfold cur1 at h
  split at h
  · injection h with h; rw [h]; exact ⟨rfl, rfl⟩
  · split at h
    · cases h
    · injection h with h; rw [← h]; exact ⟨rfl, rfl⟩
theorem cur_mem {below : Int} {left : Lit → Bool} {fs : List Tl} {g : Tl} (h : g ∈ cur below left fs) : ∃ f ∈ fs, cur1 below left f = some g := List.mem_filterMap.1 h
theorem cur_start (below : Int) (fs : List Tl) (left : Lit → Bool) (h : ∀ f ∈ fs, left (kl f.id) = true) : cur below left fs = fs := by
  unfold cur
  induction fs with
  | nil => rfl
  | cons f r ih =>
    have : cur1 below left f = some f := by unfold cur1; rw [if_pos (h f (by simp))]
    rw [List.filterMap_cons, this]
    dsimp only
    rw [ih (fun g hg => h g (by simp [hg]))]
abbrev stk (left : Lit → Bool) (q : Int) : Lit → Bool := fun z => left z && !z.sameKey (kl q)
theorem same_kl (a b : Int) : (kl a).sameKey (kl b) = decide (a = b) := by
  show decide (IntKind.i64 = IntKind.i64 ∧ a = b) = _
  simp
theorem stk_ne {left : Lit → Bool} {a q : Int} (h : a ≠ q) : stk left q (kl a) = left (kl a) := by
  show (left (kl a) && !(kl a).sameKey (kl q)) = _
  rw [same_kl]
  simp [h]
theorem stk_eq {left : Lit → Bool} {q : Int} : stk left q (kl q) = false := by
  show (left (kl q) && !(kl q).sameKey (kl q)) = _
  rw [same_kl]
  simp
theorem cur1_ne {below : Int} {left : Lit → Bool} {f : Tl} {q : Int} (h : f.id ≠ q) : cur1 below (stk left q) f = cur1 below left f := by unfold cur1; rw [stk_ne h]
/-- A producer whose batches stay, some of them. -/
theorem cur_keep {below : Int} {left : Lit → Bool} {fs : List Tl} {f0 : Tl} (h0 : f0 ∈ fs) (hids : fs.Pairwise (fun f g => f.id < g.id)) (hl : left (kl f0.id) = true) (hn : fg below f0.ns ≠ []) : dm (cur below (stk left f0.id) fs) = dm (cur below left fs) := by
  have key : ∀ l : List Tl, (∀ f ∈ l, f.id = f0.id → f = f0) → (cur below (stk left f0.id) l).map ent = (cur below left l).map ent := by
    intro l
    induction l with
    | nil => intro _; rfl
    | cons f r ih =>
      intro hl'
      have ihr := ih (fun g hg => hl' g (by simp [hg]))
      unfold cur at *
      rw [List.filterMap_cons, List.filterMap_cons]
      by_cases e : f.id = f0.id
      · obtain rfl := hl' f (by simp) e
        have e1 : cur1 below (stk left f.id) f = some ⟨f.id, f.bk, fg below f.ns⟩ := by unfold cur1; rw [stk_eq, if_neg (by decide), if_neg hn]
        have e2 : cur1 below left f = some f := by unfold cur1; rw [if_pos hl]
        rw [e1, e2]
        dsimp only
        rw [List.map_cons, List.map_cons, ihr]
        rfl
      · rw [cur1_ne e]
        cases cur1 below left f with
        | none => exact ihr
        | some g => dsimp only; rw [List.map_cons, List.map_cons, ihr]
  unfold dm
  rw [key fs (fun f hf e => ?_)]
  have h1 := look_of hids hf
  have h2 := look_of hids h0
  rw [e, h2] at h1
  injection h1 with h1
  exact h1.symm
/-- A producer that is forgotten. -/
theorem cur_del {below : Int} {left : Lit → Bool} {fs : List Tl} {f0 : Tl} (h0 : f0 ∈ fs) (hids : fs.Pairwise (fun f g => f.id < g.id)) (hn : fg below f0.ns = []) : (dm (cur below left fs)).del (kl f0.id) = dm (cur below (stk left f0.id) fs) := by
  have key : ∀ l : List Tl, (∀ f ∈ l, f.id = f0.id → f = f0) → ((cur below left l).map ent).filter (fun p => !p.1.sameKey (kl f0.id)) = (cur below (stk left f0.id) l).map ent := by
    intro l
    induction l with
    | nil => intro _; rfl
    | cons f r ih =>
      intro hl'
      have ihr := ih (fun g hg => hl' g (by simp [hg]))
      unfold cur at *
      rw [List.filterMap_cons, List.filterMap_cons]
      by_cases e : f.id = f0.id
      · obtain rfl := hl' f (by simp) e
        have e1 : cur1 below (stk left f.id) f = none := by unfold cur1; rw [stk_eq, if_neg (by decide), if_pos hn]
        rw [e1]
        cases hc : cur1 below left f with
        | none => exact ihr
        | some g =>
          dsimp only
          have : (ent g).1.sameKey (kl f.id) = true := by rw [same_id, (cur1_id hc).1]; simp
          rw [List.map_cons, List.filter_cons, this]
          exact ihr
      · rw [cur1_ne e]
        cases hc : cur1 below left f with
        | none => exact ihr
        | some g =>
          dsimp only
          have : (ent g).1.sameKey (kl f0.id) = false := by rw [same_id, (cur1_id hc).1]; simp [e]
          rw [List.map_cons, List.map_cons, List.filter_cons, this]
          simp only [Bool.not_false, if_true]
          rw [ihr]
  unfold dm DataW.del
  dsimp only
  rw [key fs (fun f hf e => ?_)]
  have h1 := look_of hids hf
  have h2 := look_of hids h0
  rw [e, h2] at h1
  injection h1 with h1
  exact h1.symm
/-- How many are forgotten. -/
theorem cur_len_keep {below : Int} {left : Lit → Bool} {fs : List Tl} {f0 : Tl} (h0 : f0 ∈ fs) (hids : fs.Pairwise (fun f g => f.id < g.id)) (hl : left (kl f0.id) = true) (hn : fg below f0.ns ≠ []) : (cur below (stk left f0.id) fs).length = (cur below left fs).length := by
  have := cur_keep h0 hids hl hn
  unfold dm at this
  injection this with this
  have := congrArg List.length this
  rwa [List.length_map, List.length_map] at this
theorem cur_len_del {below : Int} {left : Lit → Bool} {f0 : Tl} (hl : left (kl f0.id) = true) (hn : fg below f0.ns = []) : ∀ {fs : List Tl}, f0 ∈ fs → fs.Pairwise (fun f g => f.id < g.id) → (cur below left fs).length = (cur below (stk left f0.id) fs).length + 1
  | [], h0, _ => by cases h0
  | f :: r, h0, hids => by
    obtain ⟨p1, p2⟩ := List.pairwise_cons.1 hids
    unfold cur
    rw [List.filterMap_cons, List.filterMap_cons]
    by_cases e : f.id = f0.id
    · have hf : f = f0 := by
        rcases List.mem_cons.1 h0 with h | h
        · exact h.symm
        · have := p1 f0 h; omega
      subst hf
      have e1 : cur1 below (stk left f.id) f = none := by unfold cur1; rw [stk_eq, if_neg (by decide), if_pos hn]
      have e2 : cur1 below left f = some f := by unfold cur1; rw [if_pos hl]
      rw [e1, e2]
      dsimp only
      have : r.filterMap (cur1 below (stk left f.id)) = r.filterMap (cur1 below left) := by
        refine fm_congr fun g hg => cur1_ne ?_
        have := p1 g hg
        omega
      rw [this, List.length_cons]
    · have h0' : f0 ∈ r := by
        rcases List.mem_cons.1 h0 with h | h
        · exact absurd (by rw [h]) e
        · exact h
      have ih := cur_len_del hl hn h0' p2
      unfold cur at ih
      rw [cur1_ne e]
      cases cur1 below left f with
      | none => exact ih
      | some g => dsimp only; rw [List.length_cons, List.length_cons, ih]
theorem cur_pair {R : Int → Nat → Int → Nat → Prop} {below : Int} {left : Lit → Bool} {fs : List Tl} (h : fs.Pairwise (fun f g => R f.id f.bk g.id g.bk)) : (cur below left fs).Pairwise (fun f g => R f.id f.bk g.id g.bk) := by
  unfold cur
  rw [List.pairwise_filterMap]
  refine h.imp fun {f g} hfg f' hf' g' hg' => ?_
  obtain ⟨e1, e2⟩ := cur1_id hf'
  obtain ⟨e3, e4⟩ := cur1_id hg'
  rw [e1, e2, e3, e4]
  exact hfg
/-- What is kept at the end. -/
theorem cur_fv {below : Int} {left : Lit → Bool} {fs : List Tl} (hids : fs.Pairwise (fun f g => f.id < g.id)) (hl : ∀ z, left z = false) (q : Int) : fv (cur below left fs) q = fg below (fv fs q) := by
  have hp : (cur below left fs).Pairwise (fun f g => f.id < g.id) := cur_pair (R := fun a _ c _ => a < c) hids
  cases hq : look q fs with
  | none =>
    rw [fv_no hq]
    show fv _ q = []
    refine fv_no (List.find?_eq_none.2 fun g hg => ?_)
    obtain ⟨f, hf, e⟩ := cur_mem hg
    have := look_no hq f hf
    rw [(cur1_id e).1]
    simpa using this
  | some f =>
    obtain ⟨hf, rfl⟩ := look_mem hq
    rw [fv_of hq]
    by_cases hn : fg below f.ns = []
    · rw [hn]
      refine fv_no (List.find?_eq_none.2 fun g hg => ?_)
      obtain ⟨f', hf', e⟩ := cur_mem hg
      rw [(cur1_id e).1]
      intro h
      have e' : f'.id = f.id := by simpa using h
      have h1 := look_of hids hf'
      rw [e', hq] at h1
      injection h1 with h1
      subst h1
      unfold cur1 at e
      rw [hl, if_neg (by decide), if_pos hn] at e
      cases e
    · have hm : (⟨f.id, f.bk, fg below f.ns⟩ : Tl) ∈ cur below left fs := List.mem_filterMap.2 ⟨f, hf, by unfold cur1; rw [hl, if_neg (by decide), if_neg hn]⟩
      exact fv_of (look_of hp hm)
theorem fg_mem {below : Int} {l : List Nt} {x : Nt} (h : x ∈ fg below l) : x ∈ l := (List.mem_filter.1 h).1
end Go.Proofs.Ytolobmhbmajolaa
