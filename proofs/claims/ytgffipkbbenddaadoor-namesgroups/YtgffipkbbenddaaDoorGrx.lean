/- Groups of names, as the document makes them; there is one such list alone. -/
import Derived.Test.YtgffipkbbenddaaDoorGrn
namespace Go.Proofs.YtgffipkbbenddaaDoor
open Go.Lib
def zs (b : Nat) : Sg := ⟨b, false, false, false⟩
/-- The segments with one of this base. -/
def wi (b : Nat) : List Sg → List Sg
  | [] => [zs b]
  | s :: l => if (b : Int) < s.b then zs b :: s :: l else if s.b = b then s :: l else s :: wi b l
/-- Its file is there. -/
def mb (b k : Nat) (l : List Sg) : List Sg := l.map fun s : Sg => if s.b = (b : Int) then setb s k else s
/-- A text laid into texts in order. -/
def ins (t : List UInt8) : List (List UInt8) → List (List UInt8)
  | [] => [t]
  | x :: l => if t < x then t :: x :: l else x :: ins t l
theorem ins_split {t y : List UInt8} {B : List (List UInt8)} (hy : t < y) : ∀ A : List (List UInt8), (∀ x ∈ A, ¬ t < x) → ins t (A ++ y :: B) = A ++ t :: y :: B
  | [], _ => by rw [List.nil_append, ins, if_pos hy]; rfl
  | x :: A, h => by
    rw [List.cons_append, ins, if_neg (h x (List.mem_cons_self ..)), ins_split hy A (fun z hz => h z (List.mem_cons_of_mem _ hz))]
    rfl
theorem ins_end {t : List UInt8} : ∀ A : List (List UInt8), (∀ x ∈ A, ¬ t < x) → ins t A = A ++ [t]
  | [], _ => rfl
  | x :: A, h => by
    rw [ins, if_neg (h x (List.mem_cons_self ..)), ins_end A (fun z hz => h z (List.mem_cons_of_mem _ hz))]
    rfl
theorem ins_perm (t : List UInt8) : ∀ l : List (List UInt8), (ins t l).Perm (l ++ [t])
  | [] => List.Perm.refl _
  | x :: l => by
    rw [ins]
    split
    · exact (List.perm_append_singleton t (x :: l)).symm
    · exact (ins_perm t l).cons x
theorem ins_mem {t x : List UInt8} {l : List (List UInt8)} (h : x ∈ ins t l) : x = t ∨ x ∈ l := by
  have := (ins_perm t l).mem_iff.1 h
  rw [List.mem_append, List.mem_singleton] at this
  exact this.symm
theorem ins_sorted (t : List UInt8) : ∀ l : List (List UInt8), l.Pairwise (fun x y => x ≤ y) → (ins t l).Pairwise (fun x y => x ≤ y)
  | [], _ => by simp [ins]
  | x :: l, h => by
    rw [List.pairwise_cons] at h
    rw [ins]
    split
    · rename_i hx
      rw [List.pairwise_cons]
      refine ⟨fun y hy => ?_, List.pairwise_cons.2 h⟩
      have hx' : t ≤ x := List.le_of_lt hx
      rcases List.mem_cons.1 hy with rfl | hy
      · exact hx'
      · exact List.le_trans hx' (h.1 y hy)
    · rename_i hx
      rw [List.pairwise_cons]
      refine ⟨fun y hy => ?_, ins_sorted t l h.2⟩
      rcases ins_mem hy with rfl | hy
      · exact List.not_lt.1 hx
      · exact h.1 y hy
theorem wi_split {b : Nat} {s : Sg} {B : List Sg} (hs : (b : Int) ≤ s.b) : ∀ A : List Sg, (∀ x ∈ A, x.b < b) → wi b (A ++ s :: B) = if s.b = b then A ++ s :: B else A ++ zs b :: s :: B
  | [], _ => by
    rw [List.nil_append, wi]
    by_cases e : s.b = b
    · rw [if_neg (by omega : ¬ (b : Int) < s.b)]
      simp only [e, if_true]
    · have h1 : (b : Int) < s.b := by omega
      simp only [h1, e, if_true, if_false]
      rfl
  | x :: A, h => by
    have hx := h x (List.mem_cons_self ..)
    rw [List.cons_append, wi, if_neg (by omega), if_neg (by omega), wi_split hs A (fun z hz => h z (List.mem_cons_of_mem _ hz))]
    split <;> rfl
theorem wi_end {b : Nat} : ∀ A : List Sg, (∀ x ∈ A, x.b < b) → wi b A = A ++ [zs b]
  | [], _ => rfl
  | x :: A, h => by
    have hx := h x (List.mem_cons_self ..)
    rw [wi, if_neg (by omega), if_neg (by omega), wi_end A (fun z hz => h z (List.mem_cons_of_mem _ hz))]
    rfl
theorem mb_id {b k : Nat} {l : List Sg} (h : ∀ s ∈ l, s.b ≠ b) : mb b k l = l := by
  unfold mb
  rw [List.map_congr_left (g := id) (fun s hs => by rw [if_neg (h s hs)]; rfl), List.map_id]
/-- Where a base stands among rising ones. -/
theorem cutAt (b : Int) : ∀ l : List Sg, (∃ A B : List Sg, l = A ++ B ∧ (∀ x ∈ A, x.b < b) ∧ (∀ s B', B = s :: B' → b ≤ s.b))
  | [] => ⟨[], [], rfl, by simp, by simp⟩
  | s :: l => by
    by_cases h : s.b < b
    · obtain ⟨A, B, rfl, hA, hB⟩ := cutAt b l
      refine ⟨s :: A, B, rfl, fun x hx => ?_, hB⟩
      rcases List.mem_cons.1 hx with rfl | hx
      · exact h
      · exact hA x hx
    · exact ⟨[], s :: l, rfl, by simp, fun u B' e => by cases e; omega⟩
theorem Gr.with {l : List Sg} {P : List (List UInt8)} {b k : Nat} (h : Gr l P) (hb : b ≤ 4611686018427387904) (hk : k ≤ 2) : Gr (mb b k (wi b l)) (P ++ [nm b k]) := by
  obtain ⟨A, B, rfl, hA, hB⟩ := cutAt (b : Int) l
  have hr := h.rise
  rw [List.pairwise_append] at hr
  have iA : mb b k A = A := mb_id fun s hs e => by have := hA s hs; omega
  cases B with
  | nil =>
    rw [List.append_nil, wi_end A hA]
    have e : mb b k (A ++ [zs b]) = A ++ [setb (zs b) k] := by
      show (A ++ [zs b]).map _ = _
      rw [List.map_append]
      show mb b k A ++ [if (zs b).b = (b : Int) then setb (zs b) k else zs b] = _
      rw [iA, if_pos (show (zs b).b = (b : Int) from rfl)]
    rw [e]
    exact Gr.fresh (A := A) (B := []) h hb hk hA (by simp)
  | cons s B =>
    have hs := hB s B rfl
    rw [wi_split hs A hA]
    have hr2 := hr.2.1
    rw [List.pairwise_cons] at hr2
    have iB : mb b k B = B := mb_id fun u hu e => by have := hr2.1 u hu; omega
    by_cases e : s.b = b
    · rw [if_pos e]
      have e2 : mb b k (A ++ s :: B) = A ++ setb s k :: B := by
        show (A ++ s :: B).map _ = _
        rw [List.map_append, List.map_cons]
        show mb b k A ++ (if s.b = (b : Int) then setb s k else s) :: mb b k B = _
        rw [iA, iB, if_pos e]
      rw [e2]
      exact Gr.more h hb hk e
    · rw [if_neg e]
      have e2 : mb b k (A ++ zs b :: s :: B) = A ++ setb (zs b) k :: s :: B := by
        show (A ++ zs b :: s :: B).map _ = _
        rw [List.map_append, List.map_cons, List.map_cons]
        show mb b k A ++ (if (zs b).b = (b : Int) then setb (zs b) k else zs b) :: (if s.b = (b : Int) then setb s k else s) :: mb b k B = _
        rw [iA, iB, if_pos (show (zs b).b = (b : Int) from rfl), if_neg e]
      rw [e2]
      refine Gr.fresh (A := A) (B := s :: B) h hb hk hA fun u hu => ?_
      rcases List.mem_cons.1 hu with rfl | hu
      · omega
      · have := hr2.1 u hu
        omega
def rg1 (st : List Sg × List (List UInt8)) (t : List UInt8) : List Sg × List (List UInt8) :=
  match prs t with
  | some (b, k) => (mb b k (wi b st.1), st.2)
  | none => (st.1, ins t st.2)
def rgp (T : List (List UInt8)) : List Sg × List (List UInt8) := T.foldl rg1 ([], [])
theorem rg1_some {st : List Sg × List (List UInt8)} {t : List UInt8} {b k : Nat} (h : prs t = some (b, k)) : rg1 st t = (mb b k (wi b st.1), st.2) := by unfold rg1; rw [h]
theorem rg1_none {st : List Sg × List (List UInt8)} {t : List UInt8} (h : prs t = none) : rg1 st t = (st.1, ins t st.2) := by unfold rg1; rw [h]
theorem rgp_all : ∀ (R P : List (List UInt8)) (st : List Sg × List (List UInt8)), Gr st.1 P → st.2.Perm (P.filter bad) → st.2.Pairwise (fun x y => x ≤ y) → Gr (R.foldl rg1 st).1 (P ++ R) ∧ (R.foldl rg1 st).2.Perm ((P ++ R).filter bad) ∧ (R.foldl rg1 st).2.Pairwise (fun x y => x ≤ y)
  | [], P, st, h1, h2, h3 => by rw [List.append_nil]; exact ⟨h1, h2, h3⟩
  | t :: R, P, st, h1, h2, h3 => by
    have e : P ++ t :: R = (P ++ [t]) ++ R := by simp
    rw [List.foldl_cons, e]
    cases hp : prs t with
    | none =>
      rw [rg1_none hp]
      refine rgp_all R (P ++ [t]) _ (h1.stray hp) ?_ (ins_sorted t _ h3)
      rw [List.filter_append, List.filter_cons_of_pos (by unfold bad; rw [hp]; rfl), List.filter_nil]
      exact (ins_perm t st.2).trans (h2.append_right [t])
    | some q =>
      obtain ⟨b, k⟩ := q
      obtain ⟨hb, hk, e2⟩ := prs_some hp
      rw [rg1_some hp]
      have hbad : bad t = false := by unfold bad; rw [hp]; rfl
      clear hp
      have h5 : Gr (mb b k (wi b st.1)) (P ++ [t]) := by rw [e2]; exact h1.with hb hk
      refine rgp_all R (P ++ [t]) _ h5 ?_ h3
      rw [List.filter_append, List.filter_cons_of_neg (by rw [hbad]; decide), List.filter_nil, List.append_nil]
      exact h2
/-- Rising segments with the same bases and the same bits are the same. -/
theorem Gr.uniq {P Q : List (List UInt8)} (hPQ : ∀ x, x ∈ P ↔ x ∈ Q) {l l' : List Sg} (h : Gr l P) (h' : Gr l' Q) : l = l' := by
  have key : ∀ s ∈ l, s ∈ l' := fun s hs => by
    obtain ⟨b, hb, e, h1, k, hk, h2⟩ := h.each s hs
    obtain ⟨s', hs', e'⟩ := h'.all b k hb hk ((hPQ _).1 h2)
    obtain ⟨b', hb', e2, h1', _⟩ := h'.each s' hs'
    obtain rfl : b' = b := by rw [e'] at e2; exact (Int.ofNat.inj e2).symm
    have : s = s' := by
      have hx : ∀ i, i ≤ 2 → bit s i = bit s' i := fun i hi => by
        have a1 := h1 i hi
        have a2 := h1' i hi
        rw [hPQ] at a1
        cases q1 : bit s i <;> cases q2 : bit s' i <;> simp_all
      have x0 := hx 0 (by omega)
      have x1 := hx 1 (by omega)
      have x2 := hx 2 (by omega)
      obtain ⟨sb, sx, sy, sz⟩ := s
      obtain ⟨tb, tx, ty, tz⟩ := s'
      simp only [bit] at x0 x1 x2
      simp only at e e'
      rw [e, e', x0, x1, x2]
    rw [this]
    exact hs'
  have key' : ∀ s ∈ l', s ∈ l := fun s hs => by
    obtain ⟨b, hb, e, h1, k, hk, h2⟩ := h'.each s hs
    obtain ⟨s', hs', e'⟩ := h.all b k hb hk ((hPQ _).2 h2)
    have hm := key s' hs'
    have : s' = s := by
      rcases List.pairwise_iff_getElem.1 h'.rise with hr
      obtain ⟨i, hi, rfl⟩ := List.getElem_of_mem hm
      obtain ⟨j, hj, rfl⟩ := List.getElem_of_mem hs
      rcases Nat.lt_trichotomy i j with hij | hij | hij
      · have := hr i j hi hj hij; omega
      · subst hij; rfl
      · have := hr j i hj hi hij; omega
    rw [← this]
    exact hs'
  have nd : ∀ {m : List Sg}, m.Pairwise (fun a b => a.b < b.b) → m.Nodup := fun hm => hm.imp fun {a b} hlt e => by rw [e] at hlt; exact absurd hlt (Int.lt_irrefl _)
  have hp : l.Perm l' := (List.perm_ext_iff_of_nodup (nd h.rise) (nd h'.rise)).2 fun s => ⟨key s, key' s⟩
  exact List.Perm.eq_of_pairwise (le := fun a b : Sg => a.b < b.b) (fun a b _ _ h1 h2 => by omega) h.rise h'.rise hp
theorem rgp_eq (T : List (List UInt8)) : rgp T = grp (srt T) := by
  obtain ⟨h1, h2, h3⟩ := rgp_all T [] ([], []) Gr.nil (List.Perm.refl _) List.Pairwise.nil
  obtain ⟨g1, g2⟩ := grp_sorted (srt_sorted T)
  have e1 : (rgp T).1 = (grp (srt T)).1 := Gr.uniq (P := [] ++ T) (Q := srt T) (fun x => by rw [List.nil_append]; exact (srt_perm T).mem_iff.symm) h1 g1
  have e2 : (rgp T).2 = (grp (srt T)).2 := by
    refine List.Perm.eq_of_pairwise (le := fun x y : List UInt8 => x ≤ y) (fun a b _ _ x y => List.le_antisymm x y) h3 (by rw [g2]; exact (srt_sorted T).filter bad) ?_
    rw [g2]
    exact h2.trans ((srt_perm T).filter bad).symm
  exact Prod.ext e1 e2
end Go.Proofs.YtgffipkbbenddaaDoor
