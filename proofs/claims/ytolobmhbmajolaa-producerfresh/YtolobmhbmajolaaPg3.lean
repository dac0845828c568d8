/- A book forgets. -/
import Derived.Test.YtolobmhbmajolaaPg2
import Derived.Test.YtolobmhbmajolaaPf4
namespace Go.Proofs.Ytolobmhbmajolaa
open Go.RowKit Go.Maps
theorem RP_ptr (v : Value) (y : DataW Unit × List MemPlace) (h : RP v = some y) : ∃ c : Option Addr, v = .pointer c := by
  unfold RP at h
  split at h
  · exact ⟨_, rfl⟩
  · exact ⟨_, rfl⟩
  · cases h
theorem key_is {x : Int} {k : Lit} (hk : keyOf Try.prog 2 (.int .i64 x) = some k) : k = kl x := by
  obtain ⟨z, e1, e2, _⟩ := Maps.keyOf_int_inv Try.under2 hk
  cases e1
  exact e2
theorem ent_is {fs : List Tl} {x : Int} {c : Option Addr} {y : DataW Unit × List MemPlace} (hR : RP (.pointer c) = some y) (hat : ∀ zd, (dm fs).atKey (kl x) zd = y.1) : ∃ f ∈ fs, f.id = x ∧ c = some ⟨f.bk, 0, none⟩ := by
  have h1 := hat .nil
  have h2 := hat (.map [])
  rw [atKey_dm] at h1 h2
  cases hl : look x fs with
  | none => rw [hl] at h1 h2; rw [← h1] at h2; cases h2
  | some f =>
    rw [hl] at h1
    obtain ⟨hf, e⟩ := look_mem hl
    refine ⟨f, hf, e, ?_⟩
    obtain ⟨y1, y2⟩ := y
    cases h1
    have := RP_inv hR
    injection this
theorem ranges_ch {w w' : World} {b r n : Nat} {D : DataW Unit} {left : Lit → Bool} {cnt : Nat} (h : w.ranges Try.prog 2 RP b r n D left cnt) (hb : w'.heap[b]? = w.heap[b]?) (hr : w'.heap[r]? = w.heap[r]?) : w'.ranges Try.prog 2 RP b r n D left cnt := by
  unfold World.ranges at h ⊢
  rw [hb, hr]
  exact h
theorem len_dm {w : World} {m : Option Nat} {fs : List Tl} (h : Mp w m fs) (w' : World) (hw : w'.heap = w.heap) (ty : TypeId) : (Builtin.len_ #[58] ty #[.map m]).run Try.prog w' = .ok (.int .i64 fs.length) w' := by
  cases m with
  | none =>
    have e : fs = [] := h
    subst e
    exact Maps.len_nil Try.underMap ty
  | some b =>
    have h' : w'.ownsMap Try.prog 2 RP b fs.length (dm fs) := by
      obtain ⟨es, clock, hb, r⟩ := h
      exact ⟨es, clock, by rw [hw]; exact hb, r⟩
    have := h'.len Try.underMap ty
    rw [this]
    unfold dm
    rw [Maps.size_eq, List.length_map]
/-- What holds in the loop. -/
structure Fo (w : World) (b mb r : Nat) (fs : List Tl) (below : Int) (left : Lit → Bool) (cnt : Nat) (y : World) : Prop where
  rg : y.ranges Try.prog 2 RP mb r fs.length (dm (cur below left fs)) left cnt
  til : ∀ f ∈ fs, TA y f.bk (if left (kl f.id) = true then f.ns else fg below f.ns)
  blk : y.heap[b]? = some (.cells #[.map (some mb)] 60 (0, 0))
  ch : Ch (Ft b (some mb) fs) w y
  r1 : w.heap.size ≤ r
  r2 : r < y.heap.size
theorem turned_ch {w w' : World} {b : Nat} (h : w.mapTurned w' b) : Ch (fun i => i = b) w w' := by
  obtain ⟨es, clock, es', clock', h1, rfl⟩ := h
  exact ⟨rfl, rfl, rfl, by simp [Go.ChangeMaps.setBlock], fun k _ hs => by simp only [Go.ChangeMaps.setBlock]; rw [Array.getElem?_setIfInBounds_ne (fun e => hs e.symm)]⟩
theorem TA.n {w : World} {p : Nat} {ns : List Nt} (h : TA w p ns) : w.cell? ⟨p, 0, none⟩ = some (.int .i64 ns.length) := by
  obtain ⟨a0, a1, a2, a3, a4, h1, h2, hh⟩ := h
  exact (cell_of hh).trans rfl
theorem Bk.inj {w : World} {b : Nat} {m : Option Nat} {fs : List Tl} (h : Bk w b m fs) {f g : Tl} (hf : f ∈ fs) (hg : g ∈ fs) (e : f.id = g.id) : f = g := by
  have h1 := look_of h.ids hf
  have h2 := look_of h.ids hg
  rw [e, h2] at h1
  injection h1 with h1
  exact h1.symm
theorem Bk.bk_inj {w : World} {b : Nat} {m : Option Nat} {fs : List Tl} (h : Bk w b m fs) {f g : Tl} (hf : f ∈ fs) (hg : g ∈ fs) (e : f.bk = g.bk) : f = g := by
  have key : ∀ l : List Tl, l.Pairwise (fun f g => f.bk ≠ g.bk) → g ∈ l → f ∈ l → f = g := by
    intro l
    induction l with
    | nil => intro _ h; cases h
    | cons y r ih =>
      intro hp hg hf
      obtain ⟨p1, p2⟩ := List.pairwise_cons.1 hp
      rcases List.mem_cons.1 hg with hg1 | hg1
      · rcases List.mem_cons.1 hf with hf1 | hf1
        · rw [hg1, hf1]
        · exact absurd e.symm (by rw [hg1]; exact p1 f hf1)
      · rcases List.mem_cons.1 hf with hf1 | hf1
        · exact absurd e (by rw [hf1]; exact p1 g hg1)
        · exact ih p2 hg1 hf1
  exact key fs h.apt hg hf
theorem Fo.next {w y w1 : World} {b mb r : Nat} {fs : List Tl} {below : Int} {left : Lit → Bool} {cnt cnt1 : Nat} {f : Tl} (h0 : Bk w b (some mb) fs) (h : Fo w b mb r fs below left cnt y)
    (hrg : w1.ranges Try.prog 2 RP mb r fs.length (dm (cur below left fs)) (stk left f.id) cnt1) (hg : y.grownBy w1 (some r)) (hf : f ∈ fs) (hl : left (kl f.id) = true) :
    Calls Try.prog 35 #[.pointer (some ⟨f.bk, 0, none⟩), .int .i64 below] w1 fun e w2 => e = .returned (.tuple #[]) ∧ w2.cell? ⟨f.bk, 0, none⟩ = some (.int .i64 (fg below f.ns).length) ∧ w2.cell? ⟨b, 0, none⟩ = some (.map (some mb)) ∧
      w2.ranges Try.prog 2 RP mb r fs.length (dm (cur below left fs)) (stk left f.id) cnt1 ∧
      (fg below f.ns ≠ [] → Fo w b mb r fs below (stk left f.id) cnt1 w2) ∧
      (fg below f.ns = [] → ∀ w3 cnt3, w3.ranges Try.prog 2 RP mb r fs.length ((dm (cur below left fs)).del (kl f.id)) (fun z => stk left f.id z && !z.sameKey (kl f.id)) cnt3 → w2.mapTurned w3 mb → Fo w b mb r fs below (stk left f.id) cnt3 w3) := by
  have hc1 : Ch (fun i => i = r) y w1 := ⟨hg.os, hg.tape, hg.output, hg.size, fun k hk hs => hg.block k hk (fun e => hs (by injection e))⟩
  have ltw : ∀ g ∈ fs, g.bk < w.heap.size := fun g hgm => (h0.til g hgm).lt
  have hbw : b < w.heap.size := lt_of_heap h0.blk
  have hmw : mb < w.heap.size := Ft.lt h0 (Or.inr (Or.inl rfl))
  have hyw := h.ch.size
  have hr1 := h.r1
  have hr2 := h.r2
  have til1 : ∀ g ∈ fs, TA w1 g.bk (if left (kl g.id) = true then g.ns else fg below g.ns) := fun g hgm => (h.til g hgm).at (hc1.block _ (by have := ltw g hgm; omega) (by have := ltw g hgm; omega))
  have tf := til1 f hf
  rw [if_pos hl] at tf
  refine (forget_any f.bk f.ns below w1 tf).mono ?_
  rintro e w2 ⟨rfl, hc2, hT2⟩
  have hfb : f.bk ≠ b := h0.b_bk hf
  have hfm : mb ≠ f.bk := by
    obtain ⟨c, hcc⟩ := (h0.til f hf).heap
    exact mp_cells h0.map hcc
  have hfw := ltw f hf
  have hw1 := hc1.size
  have hblk : w2.heap[b]? = some (.cells #[.map (some mb)] 60 (0, 0)) := ((hc2.block b (by omega) (fun e => hfb e.symm)).trans (hc1.block b (by omega) (by omega))).trans h.blk
  have hrg2 : w2.ranges Try.prog 2 RP mb r fs.length (dm (cur below left fs)) (stk left f.id) cnt1 := ranges_ch hrg (hc2.block mb (by omega) hfm) (hc2.block r (by omega) (by omega))
  have til2 : ∀ g ∈ fs, TA w2 g.bk (if stk left f.id (kl g.id) = true then g.ns else fg below g.ns) := by
    intro g hgm
    by_cases e : g.id = f.id
    · obtain rfl := h0.inj hgm hf e
      rw [stk_eq, if_neg (by decide)]
      exact hT2
    · rw [stk_ne e]
      exact (til1 g hgm).at (hc2.block _ (by have := ltw g hgm; omega) (fun e' => e (by rw [h0.bk_inj hgm hf e'])))
  have hchw : Ch (Ft b (some mb) fs) w w2 := (h.ch.then hc1 (fun i hi e => by omega)).then hc2 (fun i hi e => Or.inr (Or.inr ⟨f, hf, e⟩))
  refine ⟨rfl, hT2.n, (cell_of hblk).trans rfl, hrg2, fun hn => ?_, fun hn w3 cnt3 hrg3 ht => ?_⟩
  · refine ⟨?_, til2, hblk, hchw, hr1, by have := hc2.size; omega⟩
    rw [cur_keep hf h0.ids hl hn]
    exact hrg2
  · have hc3 := turned_ch ht
    have hw2 := hc2.size
    refine ⟨?_, fun g hgm => (til2 g hgm).at (hc3.block _ (by have := ltw g hgm; omega) (fun e => ?_)), (hc3.block b (by omega) (fun e => ?_)).trans hblk, hchw.then hc3 (fun i hi e => Or.inr (Or.inl (by rw [e]))), hr1, by have := hc3.size; omega⟩
    · rw [cur_del hf h0.ids hn, Maps.strike_twice] at hrg3
      exact hrg3
    · obtain ⟨c, hcc⟩ := (h0.til g hgm).heap
      exact mp_cells h0.map hcc e.symm
    · exact mp_cells h0.map h0.blk e.symm
theorem ranges_own {w : World} {b r n : Nat} {D : DataW Unit} {left : Lit → Bool} {cnt : Nat} (h : w.ranges Try.prog 2 RP b r n D left cnt) : w.ownsMap Try.prog 2 RP b n D := h.owns
theorem Fo.done {w y : World} {b mb r : Nat} {fs : List Tl} {below : Int} {left : Lit → Bool} {cnt : Nat} (h0 : Bk w b (some mb) fs) (h : Fo w b mb r fs below left cnt y) (hl : ∀ z, left z = false) :
    Bk y b (some mb) (cur below left fs) ∧ (∀ q, fv (cur below left fs) q = fg below (fv fs q)) ∧ Ch (Ft b (some mb) fs) w y ∧ ∀ i, Ft b (some mb) (cur below left fs) i → Ft b (some mb) fs i := by
  refine ⟨⟨h.blk, own_tight (ranges_own h.rg), fun g hg => ?_, cur_pair (R := fun _ a _ c => a ≠ c) h0.apt, cur_pair (R := fun a _ c _ => a < c) h0.ids, fun g hg => ?_⟩, fun q => cur_fv h0.ids hl q, h.ch, fun i hi => ?_⟩
  · obtain ⟨f, hf, e⟩ := cur_mem hg
    unfold cur1 at e
    rw [hl, if_neg (by decide)] at e
    split at e
    · cases e
    · injection e with e
      rw [← e]
      have := h.til f hf
      rw [hl, if_neg (by decide)] at this
      exact this
  · obtain ⟨f, hf, e⟩ := cur_mem hg
    unfold cur1 at e
    rw [hl, if_neg (by decide)] at e
    split at e
    · cases e
    · rename_i hn
      injection e with e
      rw [← e]
      exact ⟨hn, fun x hx => (h0.ok f hf).2.1 x (fg_mem hx), (h0.ok f hf).2.2⟩
  · rcases hi with hi | hi | ⟨g, hg, hi⟩
    · exact Or.inl hi
    · exact Or.inr (Or.inl hi)
    · obtain ⟨f, hf, e⟩ := cur_mem hg
      exact Or.inr (Or.inr ⟨f, hf, by rw [hi, (cur1_id e).2]⟩)
end Go.Proofs.Ytolobmhbmajolaa
