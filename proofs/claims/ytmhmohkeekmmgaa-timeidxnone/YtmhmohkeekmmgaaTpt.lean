/- An index and the document's, apart. -/
import Derived.Test.YtmhmohkeekmmgaaTfd
import Derived.Test.YtmhmohkeekmmgaaTxb
namespace Go.Proofs.Ytmhmohkeekmmgaa
open Go.RowKit
structure Pt (w wr : World) (B x y : Nat) (v v' : Value) (l l' : List En) : Prop where
  ix : Ix 60 wr x v l
  iy : Ix 47 wr y v' l'
  ap : ∀ g, v.ownBlock = some g → v'.ownBlock ≠ some g
  lo : ∀ i, IS x v i ∨ IS y v' i → B ≤ i
  bel : Below B w wr
  le : B ≤ wr.heap.size
theorem ix_ne {w : World} {x y : Nat} {v v' : Value} {l l' : List En} (h : Ix 60 w x v l) (h' : Ix 47 w y v' l') : x ≠ y := by
  rintro rfl
  have := h.blk
  rw [h'.blk] at this
  injection this with this
  injection this with _ this _
  exact absurd this (by decide)
theorem ix_row {T : TypeId} {w : World} {x : Nat} {v : Value} {l : List En} {v' : Value} {l' : List En} (h : Ix T w x v l) (hT : T ≠ 29) (h' : OwE w 0 v' l') {i : Nat} (hi : v'.ownBlock = some i) : i ≠ x := by
  rintro rfl
  obtain ⟨cur, hc⟩ := h'.at hi
  rw [h.blk] at hc
  injection hc with hc
  injection hc with _ hc _
  exact hT hc
theorem Pt.disj {w wr : World} {B x y : Nat} {v v' : Value} {l l' : List En} (h : Pt w wr B x y v v' l l') {i : Nat} (h1 : IS x v i) : ¬ IS y v' i := by
  rintro (rfl | h2)
  · rcases h1 with h1 | h1
    · exact ix_ne h.ix h.iy h1.symm
    · exact ix_row h.iy (by decide) h.ix.row h1 rfl
  · rcases h1 with rfl | h1
    · exact ix_row h.ix (by decide) h.iy.row h2 rfl
    · exact h.ap i h1 h2
theorem Pt.later {w wr wx : World} {B x y : Nat} {v v' : Value} {l l' : List En} (h : Pt w wr B x y v v' l l') (hb : Below wr.heap.size wr wx) : Pt w wx B x y v v' l l' :=
  ⟨h.ix.below hb, h.iy.below hb, h.ap, h.lo, h.bel.trans (hb.mono h.le), Nat.le_trans h.le hb.size⟩
theorem Pt.stepx {w wr w' : World} {B x y : Nat} {v v1 v' : Value} {l l1 l' : List En} (h : Pt w wr B x y v v' l l') (hx : Ix 60 w' x v1 l1) (hc : Ch (IS x v) wr w') (hm : Moved wr v v1) : Pt w w' B x y v1 v' l1 l' := by
  refine ⟨hx, h.iy.ch hc (fun i hi hs => h.disj hs hi), fun g hg hg' => ?_, ?_, h.bel.trans (hc.below h.le (fun i hi hs => ?_)), Nat.le_trans h.le hc.size⟩
  · rcases hm g hg with h4 | h4
    · exact h.ap g h4 hg'
    · have := h.iy.lt g (Or.inr hg'); omega
  · rintro i ((rfl | hi) | hi)
    · exact h.lo _ (Or.inl (Or.inl rfl))
    · rcases hm i hi with h4 | h4
      · exact h.lo _ (Or.inl (Or.inr h4))
      · exact Nat.le_trans h.le h4
    · exact h.lo _ (Or.inr hi)
  · have := h.lo i (Or.inl hs)
    omega
theorem Pt.stepy {w wr w' : World} {B x y : Nat} {v v1' v' : Value} {l l1' l' : List En} (h : Pt w wr B x y v v' l l') (hy : Ix 47 w' y v1' l1') (hc : Ch (IS y v') wr w') (hm : Moved wr v' v1') : Pt w w' B x y v v1' l l1' := by
  refine ⟨h.ix.ch hc (fun i hi hs => h.disj hi hs), hy, fun g hg hg' => ?_, ?_, h.bel.trans (hc.below h.le (fun i hi hs => ?_)), Nat.le_trans h.le hc.size⟩
  · rcases hm g hg' with h4 | h4
    · exact h.ap g hg h4
    · have := h.ix.lt g (Or.inr hg); omega
  · rintro i (hi | (rfl | hi))
    · exact h.lo _ (Or.inl hi)
    · exact h.lo _ (Or.inr (Or.inl rfl))
    · rcases hm i hi with h4 | h4
      · exact h.lo _ (Or.inr (Or.inr h4))
      · exact Nat.le_trans h.le h4
  · have := h.lo i (Or.inr hs)
    omega
theorem Pt.ip {w wr : World} {B x y : Nat} {v v' : Value} {l l' : List En} (h : Pt w wr B x y v v' l l') : Ip wr (some ⟨x, 0, none⟩) v l := Or.inl ⟨x, rfl, h.ix⟩
/-- Two new ones. -/
theorem Pt.start (w : World) : Pt w ((w.alloc (.cells #[.slice none 0 0] 60)).alloc (.cells #[.slice none 0 0] 47)) w.heap.size w.heap.size (w.heap.size + 1) (.slice none 0 0) (.slice none 0 0) [] [] := by
  have h2 := Ix.new 47 (w.alloc (.cells #[.slice none 0 0] 60))
  rw [show (w.alloc (.cells #[.slice none 0 0] 60)).heap.size = w.heap.size + 1 from by simp] at h2
  refine ⟨(Ix.new _ _).alloc _, h2, (fun g hg => by cases hg), ?_, ((Below.refl _ _).alloc (Nat.le_refl _) _).alloc (by simp) _, by simp; omega⟩
  rintro i ((rfl | hi) | (rfl | hi))
  · exact Nat.le_refl _
  · cases hi
  · omega
  · cases hi
theorem pt_app (w wx : World) (B x y : Nat) (v v' : Value) (l l' : List En) (e : En) (h : Pt w wx B x y v v' l l') (hn : l.length ≤ 8796093022207) : Calls Try.prog 12 #[.pointer (some ⟨x, 0, none⟩), enV e] wx fun r w' => r = .returned (.int .i64 (addC l e)) ∧ ∃ v1, Pt w w' B x y v1 v' (addE l e) l' ∧ Ch (IS x v) wx w' :=
  (append_any x e v l wx h.ix hn).mono fun _ _ ⟨h1, v1, h2, h3, h4⟩ => ⟨h1, v1, h.stepx h2 h3 h4, h3⟩
theorem pt_rapp (w wx : World) (B x y : Nat) (v v' : Value) (l l' : List En) (e : En) (h : Pt w wx B x y v v' l l') (hn : l'.length ≤ 8796093022207) : Calls Try.prog 13 #[.pointer (some ⟨y, 0, none⟩), enV e] wx fun r w' => r = .returned (.int .i64 (addC l' e)) ∧ ∃ v1, Pt w w' B x y v v1 l (addE l' e) ∧ Ch (IS y v') wx w' :=
  (rappend_any y e v' l' wx h.iy hn).mono fun _ _ ⟨h1, v1, h2, h3, h4⟩ => ⟨h1, v1, h.stepy h2 h3 h4, h3⟩
theorem pt_found (w wx : World) (B x y : Nat) (t : Int) (v v' : Value) (l : List En) (h : Pt w wx B x y v v' l l) (hO : Ord l) (hn : l.length ≤ 8796093022208) : Calls Try.prog 16 #[.pointer (some ⟨x, 0, none⟩), .pointer (some ⟨y, 0, none⟩), .int .i64 t] wx fun r w' => r = .returned (.bool true) ∧ Pt w w' B x y v v' l l ∧ Below wx.heap.size wx w' :=
  (found_yes _ y t v v' l wx h.ip h.iy hO hn).mono fun _ _ ⟨h1, h2⟩ => ⟨h1, h.later h2, h2⟩
theorem pt_cut (w wx : World) (B x y : Nat) (n : Int) (v v' : Value) (l l' : List En) (h : Pt w wx B x y v v' l l') : Calls Try.prog 14 #[.pointer (some ⟨x, 0, none⟩), .int .i64 n] wx fun r w' => r = .returned (.int .i64 (cutC l n)) ∧ ∃ v1, Pt w w' B x y v1 v' (cutE l n) l' ∧ Ch (IS x v) wx w' :=
  (cut_any _ n v l wx h.ip).mono fun _ _ ⟨h1, h2⟩ => by
    obtain ⟨v1, h3, h4, h5⟩ := h2.some
    exact ⟨h1, v1, h.stepx h3 h4 h5, h4⟩
theorem pt_rcut (w wx : World) (B x y : Nat) (n : Int) (v v' : Value) (l l' : List En) (h : Pt w wx B x y v v' l l') (hn : l'.length ≤ 8796093022208) : Calls Try.prog 15 #[.pointer (some ⟨y, 0, none⟩), .int .i64 n] wx fun r w' => r = .returned (.int .i64 (cutC l' n)) ∧ ∃ v1, Pt w w' B x y v v1 l (cutE l' n) ∧ Ch (IS y v') wx w' :=
  (rcut_any y n v' l' wx h.iy hn).mono fun _ _ ⟨h1, v1, h2, h3, h4⟩ => ⟨h1, v1, h.stepy h2 h3 h4, h3⟩
end Go.Proofs.Ytmhmohkeekmmgaa
