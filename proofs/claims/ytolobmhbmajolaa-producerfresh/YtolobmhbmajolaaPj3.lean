/- Rows that are written over. -/
import Derived.Test.YtolobmhbmajolaaPj2
namespace Go.Proofs.Ytolobmhbmajolaa
open Go.RowKit
theorem own_set {w : World} {B size g n cap i : Nat} {e : TypeId} {l : List Value} {v : Value} (h : w.ownsRow B e size (.slice (some ⟨g, 0, none⟩) n cap) n l) : (w.setCell ⟨g, i, none⟩ v).ownsRow B e size (.slice (some ⟨g, 0, none⟩) n cap) n (l.set i v) := by
  obtain ⟨h1, h2⟩ := h
  refine ⟨by rw [List.length_set]; exact h1, ?_⟩
  rcases h2 with ⟨e', _⟩ | ⟨g', cap', cur, e', h3, h4, h5, h6, h7, h8⟩
  · cases e'
  · cases e'
    refine Or.inr ⟨g, cap, _, rfl, h3, heap_set h4, h5, h6, by rw [Array.size_setIfInBounds]; exact h7, ?_⟩
    rw [Array.toList_setIfInBounds, List.take_set, h8]
theorem hvs_set {L : List Hd} {j : Nat} (hj : j < L.length) (x : Hd) : hvs (L.set j x) = ((((((((hvs L).set (j * 8) (.int .i64 x.b)).set (j * 8 + 1) (.int .i64 x.l)).set (j * 8 + 2) (.bool x.pk)).set (j * 8 + 3) (.int .i64 x.c)).set (j * 8 + 4) (.int .i64 x.f)).set (j * 8 + 5) (.int .i64 x.g)).set (j * 8 + 6) (.int .i64 x.p)).set (j * 8 + 7) (.int .i32 x.s) := by
  have e : L = L.take j ++ L.getD j hd0 :: L.drop (j + 1) := by
    rw [List.getD_eq_getElem?_getD, List.getElem?_eq_getElem hj]
    simp
  generalize L.getD j hd0 = y at e
  have hl : (L.take j).length = j := by rw [List.length_take]; omega
  generalize L.take j = A at *
  generalize L.drop (j + 1) = C at *
  subst e
  have hA : (hvs A).length = j * 8 := by rw [hvs_len, hl]
  have e1 : (A ++ y :: C).set j x = A ++ x :: C := by
    rw [List.set_append_right _ _ (by omega), hl, Nat.sub_self]
    rfl
  have e2 : ∀ z, hvs (A ++ z :: C) = hvs A ++ (hv z ++ hvs C) := fun z => by simp [hvs]
  rw [e1, e2, e2]
  have st : ∀ (T : List Value) (k : Nat) (v : Value), (hvs A ++ T).set (j * 8 + k) v = hvs A ++ T.set k v := fun T k v => by
    rw [List.set_append_right _ _ (by omega), hA, Nat.add_sub_cancel_left]
  have st0 : ∀ (T : List Value) (v : Value), (hvs A ++ T).set (j * 8) v = hvs A ++ T.set 0 v := fun T v => st T 0 v
  rw [st0, st, st, st, st, st, st, st]
  rfl
/-- A row of heads of one's own, as a thing. -/
def Rw (g n cap : Nat) (L : List Hd) : Res := fun y S => OwH y 0 (.slice (some ⟨g, 0, none⟩) n cap) L ∧ L.length = n ∧ S = fun i => i = g
theorem Rw.stab (g n cap : Nat) (L : List Hd) : Stab (Rw g n cap L) where
  keep := fun {y y' T S} h hc hS => by
    obtain ⟨h1, h2, rfl⟩ := h
    exact ⟨h1.keep (fun i hi hlt => by
      injection hi with hi
      exact hc.block i hlt (hS i hi.symm)), h2, rfl⟩
  lt := fun {y S} h i hi => by
    obtain ⟨h1, h2, rfl⟩ := h
    have e : i = g := hi
    rw [e]
    exact (World.ownsRow.lt h1 g rfl).2
theorem Rw.hds {g n cap : Nat} {L : List Hd} {y : World} {S : Nat → Prop} (h : Rw g n cap L y S) : Hds y (some ⟨g, 0, none⟩) L ∧ n ≤ cap ∧ cap ≤ maxLen := by
  obtain ⟨h1, h2, _⟩ := h
  obtain ⟨a, cap', e, hd, h3, h4⟩ := h1.hds
  injection e with e1 e2 e3
  subst e1 e3
  exact ⟨hd, by omega, h4⟩
theorem Rw.froz {g n cap : Nat} {L : List Hd} {y : World} {S : Nat → Prop} (h : Rw g n cap L y S) : ∀ i, y.frozen? ⟨g, i, none⟩ = false := by
  obtain ⟨h1, h2, _⟩ := h
  rcases h1.2 with ⟨e, _⟩ | ⟨g', cap', cur, e, _, hh, _⟩
  · cases e
  · cases e
    exact fun i => froz_of hh
theorem Rw.set8 {g n cap : Nat} {L : List Hd} {R : Res} (hR : Stab R) {w : World} {H : Nat} {y : World} (h : In w H (Sep (Rw g n cap L) R) y) {j : Nat} (hj : j < n) (x : Hd) :
    In w H (Sep (Rw g n cap (L.set j x)) R) ((((((((y.setCell ⟨g, j * 8, none⟩ (.int .i64 x.b)).setCell ⟨g, j * 8 + 1, none⟩ (.int .i64 x.l)).setCell ⟨g, j * 8 + 2, none⟩ (.bool x.pk)).setCell ⟨g, j * 8 + 3, none⟩ (.int .i64 x.c)).setCell ⟨g, j * 8 + 4, none⟩ (.int .i64 x.f)).setCell ⟨g, j * 8 + 5, none⟩ (.int .i64 x.g)).setCell ⟨g, j * 8 + 6, none⟩ (.int .i64 x.p)).setCell ⟨g, j * 8 + 7, none⟩ (.int .i32 x.s)) := by
  refine h.step ?_
  rintro S ⟨S1, S2, h1, h2, h3, h4⟩
  refine Step.left hR h2 h3 h4 ?_
  obtain ⟨k1, k2, rfl⟩ := h1
  refine ⟨_, ⟨?_, by rw [List.length_set]; exact k2, rfl⟩, ((((((((Ch.refl (fun i => i = g) y).setCell _ _ (fun _ => rfl)).setCell _ _ (fun _ => rfl)).setCell _ _ (fun _ => rfl)).setCell _ _ (fun _ => rfl)).setCell _ _ (fun _ => rfl)).setCell _ _ (fun _ => rfl)).setCell _ _ (fun _ => rfl)).setCell _ _ (fun _ => rfl), fun _ hi => Or.inl hi⟩
  unfold OwH at k1 ⊢
  rw [List.length_set, hvs_set (by omega)]
  rw [k2] at k1 ⊢
  exact own_set (own_set (own_set (own_set (own_set (own_set (own_set (own_set k1)))))))
theorem In.rw {g n cap : Nat} {L : List Hd} {R : Res} {w : World} {H : Nat} {y : World} (h : In w H (Sep (Rw g n cap L) R) y) : ∃ S, Rw g n cap L y S := by
  obtain ⟨S, h1, _⟩ := h.drop
  exact ⟨S, h1⟩
/-- What lies in a part of a row. -/
theorem Hds.pre {w : World} {a : Option Addr} {l r : List Hd} (h : Hds w a (l ++ r)) : Hds w a l := by
  rcases h with e | ⟨b, off, rfl, h2, h3⟩
  · exact Or.inl (List.append_eq_nil_iff.1 e).1
  · refine Or.inr ⟨b, off, rfl, h2, fun j hj => ?_⟩
    have := h3 j (by rw [List.length_append]; omega)
    have e : (l ++ r).getD j hd0 = l.getD j hd0 := by rw [List.getD_eq_getElem?_getD, List.getD_eq_getElem?_getD, List.getElem?_append_left hj]
    rwa [e] at this
/-- What is written over, so far. -/
def ovr (hs : List Hd) (x : Hd) (j : Nat) : List Hd := List.replicate j x ++ hs.drop j
theorem ovr_set (hs r : List Hd) (x : Hd) {j : Nat} (hj : j < hs.length) : (ovr hs x j ++ r).set j x = ovr hs x (j + 1) ++ r := by
  unfold ovr
  rw [drop_next hs hd0 hj, List.append_assoc, List.set_append_right _ _ (by rw [List.length_replicate]; omega), List.length_replicate, Nat.sub_self, List.replicate_succ']
  simp
theorem ovr_at (hs r : List Hd) (x : Hd) {j : Nat} (hj : j < hs.length) : (ovr hs x j ++ r).getD j hd0 = hs.getD j hd0 := by
  unfold ovr
  rw [drop_next hs hd0 hj, List.append_assoc, List.getD_eq_getElem?_getD, List.getElem?_append_right (by rw [List.length_replicate]; omega), List.length_replicate, Nat.sub_self]
  rfl
theorem ovr_len (hs : List Hd) (x : Hd) {j : Nat} (hj : j ≤ hs.length) : (ovr hs x j).length = hs.length := by
  unfold ovr
  rw [List.length_append, List.length_replicate, List.length_drop]
  omega
end Go.Proofs.Ytolobmhbmajolaa
