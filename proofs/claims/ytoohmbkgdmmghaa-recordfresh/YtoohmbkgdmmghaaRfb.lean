/- Records written over where they lie. -/
import Derived.Test.YtoohmbkgdmmghaaRfa
import Derived.Test.YtoohmbkgdmmghaaRecW
namespace Go.Proofs.Ytoohmbkgdmmghaa
open Go.RowKit
theorem gby_trans {a b c : World} {r : Option Nat} (h1 : a.grownBy b r) (h2 : b.grownBy c r) : a.grownBy c r :=
  ⟨h2.os.trans h1.os, h2.tape.trans h1.tape, h2.output.trans h1.output, Nat.le_trans h1.size h2.size, fun k hk hn => (h2.block k (Nat.lt_of_lt_of_le hk h1.size) hn).trans (h1.block k hk hn)⟩
theorem hcs_set (y : Hdr) : ∀ (hs : List Hdr) (k : Nat), (((hcs hs).set (k * 3) (.string y.1)).set (k * 3 + 1) (.bool y.2.1)).set (k * 3 + 2) (.string y.2.2) = hcs (hs.set k y)
  | [], k => by simp [hcs]
  | r :: l, 0 => rfl
  | r :: l, k + 1 => by
    have ih := hcs_set y l k
    have e1 : (k + 1) * 3 = k * 3 + 1 + 1 + 1 := by omega
    show (((hc1 r ++ hcs l).set ((k + 1) * 3) (.string y.1)).set ((k + 1) * 3 + 1) (.bool y.2.1)).set ((k + 1) * 3 + 2) (.string y.2.2) = hc1 r ++ hcs (l.set k y)
    rw [e1, ← ih]
    rfl
theorem rcs_set (x : RI) : ∀ (l : List RI) (k : Nat), ((((((rcs l).set (k * 6) (.int .i64 x.r.t)).set (k * 6 + 1) (.bool x.r.kh)).set (k * 6 + 2) (.string x.r.kd)).set (k * 6 + 3) (.bool x.r.vh)).set (k * 6 + 4) (.string x.r.vd)).set (k * 6 + 5) (.slice x.a x.r.hs.length x.cap) = rcs (l.set k x)
  | [], k => by simp [rcs]
  | r :: l, 0 => rfl
  | r :: l, k + 1 => by
    have ih := rcs_set x l k
    have e1 : (k + 1) * 6 = k * 6 + 1 + 1 + 1 + 1 + 1 + 1 := by omega
    show ((((((rc1 r ++ rcs l).set ((k + 1) * 6) (.int .i64 x.r.t)).set ((k + 1) * 6 + 1) (.bool x.r.kh)).set ((k + 1) * 6 + 2) (.string x.r.kd)).set ((k + 1) * 6 + 3) (.bool x.r.vh)).set ((k + 1) * 6 + 4) (.string x.r.vd)).set ((k + 1) * 6 + 5) (.slice x.a x.r.hs.length x.cap) = rc1 r ++ rcs (l.set k x)
    rw [e1, ← ih]
    rfl
def hset (x : RI) (k : Nat) (y : Hdr) : RI := ⟨⟨x.r.t, x.r.kh, x.r.kd, x.r.vh, x.r.vd, x.r.hs.set k y⟩, x.a, x.cap⟩
theorem rc1_hset (x : RI) (k : Nat) (y : Hdr) : rc1 (hset x k y) = rc1 x := by
  unfold rc1 hset
  simp only [List.length_set]
theorem hv_hset (x : RI) (k : Nat) (y : Hdr) : (hset x k y).hv = x.hv := hv_of (rc1_hset x k y)
theorem St.seth {w0 w4 w : World} {B lo i k g : Nat} {va : Value} {l : List RI} (h : St w0 w4 B lo va w l) (hi : i < l.length) (hx : (l.getD i dri).a = some ⟨g, 0, none⟩) (y : Hdr) :
    St w0 w4 B lo va (((w.setCell ⟨g, k * 3, none⟩ (.string y.1)).setCell ⟨g, k * 3 + 1, none⟩ (.bool y.2.1)).setCell ⟨g, k * 3 + 2, none⟩ (.string y.2.2)) (l.set i (hset (l.getD i dri) k y)) := by
  have hh := h.held.hds _ (riD_mem hi)
  have e : (l.getD i dri).hv = .slice (some ⟨g, 0, none⟩) (l.getD i dri).r.hs.length (l.getD i dri).cap := by unfold RI.hv; rw [hx]
  unfold OwnH at hh
  rw [e] at hh
  obtain ⟨h1, g1⟩ := hh.stored (k * 3) (.string y.1)
  obtain ⟨h2, g2⟩ := h1.stored (k * 3 + 1) (.bool y.2.1)
  obtain ⟨h3, g3⟩ := h2.stored (k * 3 + 2) (.string y.2.2)
  rw [hcs_set] at h3
  refine h.touch hi (by rw [e]; rfl) (gby_trans (gby_trans g1 g2) g3) ?_ (rc1_hset _ _ _)
  rw [hv_hset, e]
  show World.ownsRow _ _ _ _ _ (List.length ((l.getD i dri).r.hs.set k y)) (hcs ((l.getD i dri).r.hs.set k y))
  rw [List.length_set]
  exact h3
def ri7 : RI := ⟨⟨7, false, ⟨#[]⟩, false, ⟨#[]⟩, []⟩, none, 0⟩
theorem St.six {w0 w4 w : World} {B lo i g cap : Nat} {l : List RI} (h : St w0 w4 B lo (.slice (some ⟨g, 0, none⟩) l.length cap) w l) :
    St w0 w4 B lo (.slice (some ⟨g, 0, none⟩) l.length cap) ((((((w.setCell ⟨g, i * 6, none⟩ (.int .i64 7)).setCell ⟨g, i * 6 + 1, none⟩ (.bool false)).setCell ⟨g, i * 6 + 2, none⟩ (.string ⟨#[]⟩)).setCell ⟨g, i * 6 + 3, none⟩ (.bool false)).setCell ⟨g, i * 6 + 4, none⟩ (.string ⟨#[]⟩)).setCell ⟨g, i * 6 + 5, none⟩ (.slice none 0 0)) (l.set i ri7) := by
  obtain ⟨h1, g1⟩ := h.held.row.stored (i * 6) (.int .i64 7)
  obtain ⟨h2, g2⟩ := h1.stored (i * 6 + 1) (.bool false)
  obtain ⟨h3, g3⟩ := h2.stored (i * 6 + 2) (.string ⟨#[]⟩)
  obtain ⟨h4, g4⟩ := h3.stored (i * 6 + 3) (.bool false)
  obtain ⟨h5, g5⟩ := h4.stored (i * 6 + 4) (.string ⟨#[]⟩)
  obtain ⟨h6, g6⟩ := h5.stored (i * 6 + 5) (.slice none 0 0)
  have er := rcs_set ri7 l i
  have hG := gby_trans (gby_trans (gby_trans (gby_trans (gby_trans g1 g2) g3) g4) g5) g6
  generalize ((((((w.setCell ⟨g, i * 6, none⟩ (.int .i64 7)).setCell ⟨g, i * 6 + 1, none⟩ (.bool false)).setCell ⟨g, i * 6 + 2, none⟩ (.string ⟨#[]⟩)).setCell ⟨g, i * 6 + 3, none⟩ (.bool false)).setCell ⟨g, i * 6 + 4, none⟩ (.string ⟨#[]⟩)).setCell ⟨g, i * 6 + 5, none⟩ (.slice none 0 0)) = w' at *
  have hrow : w'.ownsRow B 26 6 (.slice (some ⟨g, 0, none⟩) l.length cap) l.length (rcs (l.set i ri7)) := by rw [← er]; exact h6
  have hglo : g < lo := h.low g (Or.inl rfl)
  have hBg : B ≤ g := (World.ownsRow.lt h.held.row g rfl).1
  refine ⟨⟨by rw [List.length_set]; exact hrow, ?_, ?_⟩, ?_, ?_, Nat.le_trans h.size hG.size, h.lo4, h.blo, ?_⟩
  · intro y hy
    rcases List.mem_or_eq_of_mem_set hy with hy | rfl
    · have hy2 := h.held.hds y hy
      refine own_apart hy2 (fun k hk => hG.block k (World.ownsRow.lt hy2 k hk).2 (fun e => ?_))
      injection e with e
      subst e
      obtain ⟨c, hc⟩ := ownH_blk hy2 hk
      exact own_ne h.held.row hc (by decide) rfl
    · exact ownH_nil _ _
  · rw [List.pairwise_iff_getElem]
    have ha := List.pairwise_iff_getElem.1 h.held.ap
    intro a b ha1 hb1 hab k k1 k2
    rw [List.getElem_set] at k1 k2
    by_cases e1 : i = a
    · rw [if_pos e1] at k1; cases k1
    · by_cases e2 : i = b
      · rw [if_pos e2] at k2; cases k2
      · rw [if_neg e1] at k1
        rw [if_neg e2] at k2
        exact ha a b (by simpa using ha1) (by simpa using hb1) hab k k1 k2
  · intro k hk
    refine h.low k ?_
    rcases hk with hk | ⟨y, hy, hk⟩
    · exact Or.inl hk
    · rcases List.mem_or_eq_of_mem_set hy with hy | rfl
      · exact Or.inr ⟨y, hy, hk⟩
      · cases hk
  · exact fun k k1 k2 => (hG.block k (Nat.lt_of_lt_of_le k2 h.size) (fun e => by injection e with e; omega)).trans (h.kept k k1 k2)
  · exact h.bel.grown hG (Nat.le_trans h.blo (Nat.le_trans h.lo4 h.size)) (fun k hk => by injection hk with hk; omega)
/-- 'append(a, make([]api.Record, 9)...)'. -/
theorem St.zerosR {w0 w4 w : World} {B lo : Nat} {va : Value} {l : List RI} (h : St w0 w4 B lo va w l) (hn : l.length ≤ 1048576) :
    ∃ v' w', (Builtin.append_ #[30, 3] 30 #[va, .int .i64 9]).run Try.prog w = .ok v' w' ∧ (∀ g, lo ≤ g → g < w4.heap.size → w'.heap[g]? = w4.heap[g]?) ∧ Below B w0 w' ∧ w4.heap.size ≤ w'.heap.size := by
  obtain ⟨i0, ii, hz0, hz1, hz2⟩ := info_parts Try.infoRec
  obtain ⟨v', w', hr, hor⟩ := appendZ (P := Try.prog) w 30 3 30 B 26 i0 (.agg #[.int .i64 0, .bool false, .string ⟨#[]⟩, .bool false, .string ⟨#[]⟩, .slice none 0 0]) 6 80 Try.underRecs Try.undInt ii hz0 hz1 hz2 rfl (by decide) zc_rec _ _ _ h.held.row 9 (by decide) (by omega) (by omega)
  refine ⟨v', w', hr, ?_⟩
  rcases hor with ⟨g, h1, h2, _⟩ | hb
  · have hglo : g < lo := h.low g (Or.inl h1)
    have hBg : B ≤ g := (World.ownsRow.lt h.held.row g h1).1
    exact ⟨fun k k1 k2 => (h2.block k (Nat.lt_of_lt_of_le k2 h.size) (fun e => by injection e with e; omega)).trans (h.kept k k1 k2), h.bel.grown h2 (Nat.le_trans h.blo (Nat.le_trans h.lo4 h.size)) (fun k hk => by injection hk with hk; omega), Nat.le_trans h.size h2.size⟩
  · have := h.fresh hb
    exact ⟨this.kept, this.bel, this.size⟩
/-- What ReadBody answers, found or not. -/
theorem rbody_u (s : ByteArray) (first count : Int) (hf : I64 first) : ∃ (E : Nat) (y : List Rec), y.length ≤ 65536 ∧ (∀ r ∈ y, r.hs.length ≤ 1024) ∧ ∀ w, Calls Try.prog 12 #[.string s, .int .i64 first, .int .i64 count] w fun e w' => Below w.heap.size w w' ∧ ∃ v l, e = .returned (.tuple #[v, .int .i64 E]) ∧ Held w' w.heap.size v l ∧ l.map RI.r = y := by
  have hc := fun w => rbody_any s first count w hf
  cases hr : rbd s first count with
  | error x =>
    refine ⟨x, [], Nat.zero_le _, fun r hr => by simp at hr, fun w => (hc w).mono ?_⟩
    rintro e w' ⟨hb, hm⟩
    rw [hr] at hm
    obtain ⟨rfl, _⟩ := hm
    exact ⟨hb, _, [], rfl, ⟨World.ownsRow_nil _ _ _ _, fun x hx => by simp at hx, List.Pairwise.nil⟩, rfl⟩
  | ok y =>
    refine ⟨0, y, ?_, ?_, fun w => (hc w).mono ?_⟩
    · unfold rbd at hr
      by_cases hc : ¬ (1 ≤ count ∧ count ≤ 65536)
      · rw [if_pos hc] at hr; cases hr
      rw [if_neg hc] at hr
      by_cases hs : 16777216 < s.size
      · rw [if_pos hs] at hr; cases hr
      rw [if_neg hs] at hr
      cases hq : run s first count.toNat with
      | error e => rw [hq] at hr; cases hr
      | ok z =>
        obtain ⟨m, k⟩ := z
        rw [hq] at hr
        dsimp only at hr
        by_cases hk : k < s.size
        · rw [if_pos hk] at hr; cases hr
        rw [if_neg hk] at hr
        injection hr with hr
        subst hr
        have := (run_ran (by omega) (by omega) hq).len
        omega
    · intro r hx2
      unfold rbd at hr
      by_cases hc : ¬ (1 ≤ count ∧ count ≤ 65536)
      · rw [if_pos hc] at hr; cases hr
      rw [if_neg hc] at hr
      by_cases hs : 16777216 < s.size
      · rw [if_pos hs] at hr; cases hr
      rw [if_neg hs] at hr
      cases hq : run s first count.toNat with
      | error e => rw [hq] at hr; cases hr
      | ok z =>
        obtain ⟨m, k⟩ := z
        rw [hq] at hr
        dsimp only at hr
        by_cases hk : k < s.size
        · rw [if_pos hk] at hr; cases hr
        rw [if_neg hk] at hr
        injection hr with hr
        subst hr
        exact ((run_ran (by omega) (by omega) hq).good _ hx2).2.2.2.2.1
    · rintro e w' ⟨hb, hm⟩
      rw [hr] at hm
      obtain ⟨v, l, rfl, h1, h2⟩ := hm
      exact ⟨hb, v, l, rfl, h1, h2⟩
end Go.Proofs.Ytoohmbkgdmmghaa
