/- The program's book and the document's, side by side. -/
import Derived.Test.YtolobmhbmajolaaPi2
import Derived.Test.YtolobmhbmajolaaPh7
namespace Go.Proofs.Ytolobmhbmajolaa
open Go.RowKit
/-- What holds of the document's list. -/
structure R5 (l : List Hd) : Prop where
  ok : RbOk l
  five : ∀ q, (RF l q).length ≤ 5
theorem R5.nil : R5 [] := ⟨⟨fun _ h => by cases h⟩, fun _ => Nat.zero_le _⟩
theorem bt_rm (p q : Int) : ∀ l, bt (rm p l) q = if q = p then (bt l p).drop 1 else bt l q
  | [] => by simp [rm, bt]
  | h :: r => by
    have ih := bt_rm p q r
    by_cases e : h.p = p
    · rw [rm_yes e]
      by_cases e2 : q = p
      · subst e2
        rw [if_pos rfl]
        unfold bt
        rw [List.filter_cons]
        simp [e]
      · rw [if_neg e2]
        unfold bt
        rw [List.filter_cons]
        have : decide (h.p = q) = false := by simp; omega
        rw [this]
        rfl
    · rw [rm_no e]
      unfold bt at *
      rw [List.filter_cons, List.filter_cons, List.filter_cons, ih]
      have e1 : decide (h.p = p) = false := by simpa using e
      rw [e1]
      by_cases e2 : q = p
      · subst e2
        rw [if_pos rfl, if_pos rfl, e1]
        rfl
      · rw [if_neg e2, if_neg e2]
theorem rf_rmB {d : Bool} {p q : Int} {l : List Hd} : RF (rmB d p l) q = if q = p ∧ d = true then (RF l p).drop 1 else RF l q := by
  unfold rmB
  cases d
  · rw [if_neg (by decide), if_neg (by simp)]
  · rw [if_pos rfl]
    unfold RF
    rw [bt_rm]
    by_cases e : q = p
    · rw [if_pos e, if_pos ⟨e, rfl⟩, List.map_drop]
    · rw [if_neg e, if_neg (fun h => e h.1)]
theorem rf_snoc {l : List Hd} {x : Hd} {q : Int} : RF (l ++ [x]) q = if x.p = q then RF l q ++ [toNt x] else RF l q := by
  unfold RF
  rw [bt_snoc]
  split
  · rw [List.map_append]; rfl
  · rfl
theorem rf_len {l : List Hd} {q : Int} : (RF l q).length = (bt l q).length := by unfold RF; rw [List.length_map]
theorem kp_five {l : List Nt} {x : Nt} (h : l.length ≤ 5) : kp (l ++ [x]) = (if 5 ≤ l.length then l.drop 1 else l) ++ [x] := by
  unfold kp
  rw [List.length_append]
  by_cases e : 5 ≤ l.length
  · have : l.length = 5 := by omega
    rw [if_pos e, this]
    show List.drop 1 (l ++ [x]) = _
    rw [List.drop_append_of_le_length (by omega)]
  · rw [if_neg e]
    have : l.length + [x].length - 5 = 0 := by simp; omega
    rw [this, List.drop_zero]
/-- Note, of both. -/
theorem note_rf {l : List Hd} (h : R5 l) (x : Hd) (q : Int) : noteF (RF l) x q = RF (rnote l x) q := by
  unfold noteF rnote
  by_cases hg : goodB x.b x.c x.p x.s = true ∧ x.p ≠ -1
  · rw [if_pos hg, if_pos hg, rf_snoc, rf_rmB]
    unfold kpF'
    by_cases e : q = x.p
    · rw [if_pos e, if_pos (show (hdOf x.p ⟨x.b, x.c, x.s⟩).p = q from e.symm), kp_five (h.five x.p)]
      rw [← rf_len]
      congr 1
      by_cases e5 : 5 ≤ (RF l x.p).length
      · rw [if_pos e5, if_pos ⟨e, by simpa using e5⟩]
      · rw [if_neg e5, if_neg (fun k => e5 (by simpa using k.2)), e]
    · rw [if_neg e, if_neg (show ¬ (hdOf x.p ⟨x.b, x.c, x.s⟩).p = q from fun k => e k.symm), if_neg (fun k => e k.1)]
  · rw [if_neg hg, if_neg hg]
theorem rm_mem {p : Int} : ∀ {l : List Hd} {x : Hd}, x ∈ rm p l → x ∈ l
  | [], _, h => h
  | y :: r, x, h => by
    by_cases e : y.p = p
    · rw [rm_yes e] at h; exact List.mem_cons_of_mem _ h
    · rw [rm_no e] at h
      rcases List.mem_cons.1 h with rfl | h
      · exact List.mem_cons_self
      · exact List.mem_cons_of_mem _ (rm_mem h)
theorem good_nt {x : Hd} (hx : HdOk x) (hg : goodB x.b x.c x.p x.s = true) (hp : x.p ≠ -1) : NtOk ⟨x.b, x.c, x.s⟩ := by
  unfold goodB sndB at hg
  rw [if_neg hp] at hg
  simp only [Bool.and_eq_true, decide_eq_true_eq] at hg
  exact ⟨hg.1.2, hg.2, hg.1.1.1.2, hg.1.1.2, hg.1.1.1.1.2, hx.s1⟩
theorem R5.note {l : List Hd} (h : R5 l) {x : Hd} (hx : HdOk x) : R5 (rnote l x) := by
  refine ⟨⟨fun y hy => ?_⟩, fun q => ?_⟩
  · unfold rnote at hy
    split at hy
    · rename_i hg
      rcases List.mem_append.1 hy with hy | hy
      · refine h.ok.ok y ?_
        unfold rmB at hy
        split at hy
        · exact rm_mem hy
        · exact hy
      · rw [List.mem_singleton.1 hy]
        have hn : NtOk ⟨x.b, x.c, x.s⟩ := good_nt hx hg.1 hg.2
        exact ⟨rfl, hn, good_p hg.1 hg.2⟩
    · exact h.ok.ok y hy
  · rw [← note_rf h x q]
    unfold noteF
    split
    · unfold kpF'
      split
      · exact kp_len _
      · exact h.five q
    · exact h.five q
theorem R5.forget {l : List Hd} (h : R5 l) (below : Int) : R5 (rfg below l) := ⟨rfg_ok h.ok below, fun q => by rw [rfg_rf]; exact Nat.le_trans (fg_len _ _) (h.five q)⟩
theorem rnote_len (l : List Hd) (x : Hd) : (rnote l x).length ≤ l.length + 1 := by
  unfold rnote
  split
  · have := rmB_len (decide (5 ≤ (bt l x.p).length)) x.p l
    simp
    omega
  · omega
/-- The heads that the document keeps are those that the program tells. -/
theorem heads_eq {l : List Hd} (h : RbOk l) (q : Int) : (RF l q).map (hdOf q) = bt l q := by
  unfold RF
  rw [List.map_map]
  conv => rhs; rw [← List.map_id (bt l q)]
  refine List.map_congr_left fun x hx => ?_
  obtain ⟨h1, h2⟩ := List.mem_filter.1 hx
  have e : x.p = q := by simpa using h2
  show hdOf q (toNt x) = x
  rw [← e]
  exact (h.ok x h1).1.symm
/-- Both books. -/
abbrev PB (b c : Nat) (l : List Hd) (k : Nat) : Res := Sep (Bok b (RF l) k) (RB c l)
theorem PB.stab (b c : Nat) (l : List Hd) (k : Nat) : Stab (PB b c l k) := (Bok.stab _ _ _).sep (RB.stab _ _)
theorem PB.b {b c : Nat} {l : List Hd} {k : Nat} {y : World} {S : Nat → Prop} (h : PB b c l k y S) : ∃ S', Bok b (RF l) k y S' := by obtain ⟨S1, S2, h1, _⟩ := h; exact ⟨S1, h1⟩
theorem PB.c {b c : Nat} {l : List Hd} {k : Nat} {y : World} {S : Nat → Prop} (h : PB b c l k y S) : ∃ S', RB c l y S' := by obtain ⟨S1, S2, _, h2, _⟩ := h; exact ⟨S2, h2⟩
theorem PB.at {b c : Nat} {l : List Hd} {k : Nat} {y y' : World} {S : Nat → Prop} (h : PB b c l k y S) (hb : Below y.heap.size y y') : PB b c l k y' S := (PB.stab b c l k).keep h (Ch.of_below hb : Ch (fun _ => False) y y') (fun _ _ e => e)
/-- Do both answer alike whether a batch may come? -/
theorem checked_any (b c : Nat) (l : List Hd) (k : Nat) (p seq cnt : Int) (h0 : -9223372036854775808 ≤ p) (h1 : p < 9223372036854775808) (hs : seq < 2147483648) (y : World) (S : Nat → Prop) (h : PB b c l k y S) (h5 : R5 l) (hl : l.length ≤ 2199023255552) :
    Calls Try.prog 32 #[.pointer (some ⟨b, 0, none⟩), .pointer (some ⟨c, 0, none⟩), .int .i64 p, .int .i32 seq, .int .i64 cnt] y fun e y' => e = .returned (.bool true) ∧ Below y.heap.size y y' := by
  obtain ⟨⟨c1, c2⟩, hch⟩ : ∃ C, chk (RF l p) p seq cnt = C := ⟨_, rfl⟩
  have HC1 : Hid (Calls Try.prog 19 #[.pointer (some ⟨b, 0, none⟩), .int .i64 p, .int .i32 seq, .int .i64 cnt] y fun e y' => e = .returned (.tuple #[.int .i64 c1, .int .i64 c2]) ∧ Below y.heap.size y y') := by
    obtain ⟨S', hb⟩ := h.b
    have := hb.bo.check p seq cnt h0 h1 hs
    rw [hch] at this
    exact this
  have HC2 : Hid (∀ z, Below y.heap.size y z → Calls Try.prog 27 #[.pointer (some ⟨c, 0, none⟩), .int .i64 p, .int .i32 seq, .int .i64 cnt] z fun e y' => e = .returned (.tuple #[.int .i64 c1, .int .i64 c2]) ∧ Below y.heap.size y y') := fun z hz => by
    obtain ⟨S', hb⟩ := (h.at hz).c
    have := rcheck_any c l p seq cnt hs z S' hb h5.ok hl
    rw [hch] at this
    exact this.mono fun e y' hh => ⟨hh.1, hz.trans (hh.2.mono hz.size)⟩
  clear h h5 hl hch
  go_enter Try.func32, Try.ntmps32
  go_wp2_with (first | (go_at_call 19; with_reducible refine HC1.out.mono ?_; rintro e w1 ⟨rfl, hb1⟩; have HB1 := Hid.mk hb1; clear hb1) | (go_at_call 27; with_reducible refine (HC2.out _ HB1.out).mono ?_; rintro e w2 ⟨rfl, hb2⟩; have HB2 := Hid.mk hb2; clear hb2))
  go_ret
  exact ⟨rfl, HB2.out⟩
end Go.Proofs.Ytolobmhbmajolaa
