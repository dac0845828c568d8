/- The document's book: Producers, Len. -/
import Derived.Test.YtolobmhbmajolaaPh4
namespace Go.Proofs.Ytolobmhbmajolaa
open Go.RowKit
def ivs (ps : List Int) : List Value := ps.map (fun q => Value.int .i64 q)
theorem ivs_snoc (ps : List Int) (q : Int) : ivs (ps ++ [q]) = ivs ps ++ [.int .i64 q] := by simp [ivs]
/-- A row of numbers of one's own. -/
def OwI (w : World) (B : Nat) (v : Value) (ps : List Int) : Prop := w.ownsRow B 2 1 v ps.length (ivs ps)
theorem OwI.keep {w w' : World} {B : Nat} {v : Value} {l : List Int} (h : OwI w B v l) (hb : ∀ g, v.ownBlock = some g → g < w.heap.size → w'.heap[g]? = w.heap[g]?) : OwI w' B v l := by
  refine ⟨h.1, ?_⟩
  rcases h.2 with h2 | ⟨g, cap, cur, rfl, h3, h4, h5⟩
  · exact Or.inl h2
  · exact Or.inr ⟨g, cap, cur, rfl, h3, (hb g rfl (lt_of_heap h4)).trans h4, h5⟩
theorem OwI.below {w w' : World} {B : Nat} {v : Value} {l : List Int} (h : OwI w B v l) (hb : Below w.heap.size w w') : OwI w' B v l := h.keep fun g _ hlt => hb.block g hlt
theorem OwI.nil (w : World) (B : Nat) : OwI w B (.slice none 0 0) [] := ⟨rfl, Or.inl ⟨rfl, rfl⟩⟩
/-- A row of numbers where it lies. -/
def Nms (w : World) (a : Option Addr) (l : List Int) : Prop := l = [] ∨ ∃ b off, a = some ⟨b, off, none⟩ ∧ b < w.heap.size ∧ ∀ j, j < l.length → w.cell? ⟨b, off + j, none⟩ = some (.int .i64 (l.getD j 0))
theorem Nms.below {w w' : World} {a : Option Addr} {l : List Int} (h : Nms w a l) (hb : Below w.heap.size w w') : Nms w' a l := by
  rcases h with h | ⟨b, off, rfl, h2, h3⟩
  · exact Or.inl h
  · exact Or.inr ⟨b, off, rfl, Nat.lt_of_lt_of_le h2 hb.size, fun j hj => (hb.cell (p := ⟨b, off + j, none⟩) h2).trans (h3 j hj)⟩
theorem OwI.nms {w : World} {B : Nat} {v : Value} {l : List Int} (h : OwI w B v l) : ∃ a cap, v = .slice a l.length cap ∧ Nms w a l ∧ l.length ≤ cap ∧ cap ≤ maxLen := by
  have hr : w.ownsRow B 2 1 v l.length (ivs l) := h
  rcases h.2 with ⟨rfl, h2⟩ | ⟨g, cap, cur, rfl, h3, h4, h5⟩
  · exact ⟨none, 0, by rw [h2], Or.inl (List.eq_nil_of_length_eq_zero h2), by omega, by unfold maxLen; omega⟩
  · refine ⟨_, cap, rfl, Or.inr ⟨g, 0, rfl, lt_of_heap h4, fun j hj => ?_⟩, h5.1, h5.2.1⟩
    have c := hr.cellAt j (by omega)
    rw [Nat.zero_add, c]
    unfold ivs
    rw [List.getElem?_map, List.getElem?_eq_getElem hj, List.getD_eq_getElem?_getD, List.getElem?_eq_getElem hj]
    rfl
structure Oi (w : World) (v : Value) (l : List Int) (y : World) : Prop where
  bel : Below w.heap.size w y
  row : OwI y w.heap.size v l
theorem Oi.call {w : World} {v : Value} {l : List Int} {y y' : World} (h : Oi w v l y) (hb : Below y.heap.size y y') : Oi w v l y' := ⟨h.bel.trans (hb.mono h.bel.size), h.row.below hb⟩
theorem Oi.alloc {w : World} {v : Value} {l : List Int} {y : World} (h : Oi w v l y) (o : Obj) : Oi w v l (y.alloc o) := h.call ((Below.refl _ _).alloc (Nat.le_refl _) o)
theorem Oi.push {w : World} {v v' : Value} {l : List Int} {x : Int} {y y' : World} (h : Oi w v l y) (hown : y'.ownsRow w.heap.size 2 1 v' (l.length + 1) (ivs l ++ [.int .i64 x])) (hgrow : y.grownBy y' v.ownBlock) : Oi w v' (l ++ [x]) y' := by
  refine ⟨h.bel.grown hgrow h.bel.size (fun k hk => (World.ownsRow.lt h.row k hk).1), ?_⟩
  unfold OwI
  rw [List.length_append, ivs_snoc]
  exact hown
theorem Try.infoI : (Try.prog.info? 2).map (fun i => (i.zero, i.size, i.bytes)) = some (some (.int .i64 0), 1, 8) := by kernel_rfl
/-- The least producer above a number, so far. -/
def Bs (least : Int) (L : List Hd) (best : Int) : Prop := (best = -1 ∧ ∀ h ∈ L, h.p ≤ least) ∨ (least < best ∧ 0 ≤ best ∧ (∃ h ∈ L, h.p = best) ∧ ∀ h ∈ L, least < h.p → best ≤ h.p)
theorem Bs.snoc {least best : Int} {L : List Hd} {x : Hd} (h : Bs least L best) (hx : 0 ≤ x.p) : Bs least (L ++ [x]) (if least < x.p ∧ (best < 0 ∨ x.p < best) then x.p else best) := by
  rcases h with ⟨rfl, h⟩ | ⟨h1, h2, ⟨y, hy, hyb⟩, h4⟩
  · by_cases e : least < x.p
    · rw [if_pos ⟨e, Or.inl (by omega)⟩]
      refine Or.inr ⟨e, hx, ⟨x, by simp, rfl⟩, fun z hz hlt => ?_⟩
      rcases List.mem_append.1 hz with hz | hz
      · have := h z hz; omega
      · rw [List.mem_singleton.1 hz]; omega
    · rw [if_neg (fun k => e k.1)]
      refine Or.inl ⟨rfl, fun z hz => ?_⟩
      rcases List.mem_append.1 hz with hz | hz
      · exact h z hz
      · rw [List.mem_singleton.1 hz]; omega
  · by_cases e : least < x.p ∧ (best < 0 ∨ x.p < best)
    · rw [if_pos e]
      refine Or.inr ⟨e.1, hx, ⟨x, by simp, rfl⟩, fun z hz hlt => ?_⟩
      rcases List.mem_append.1 hz with hz | hz
      · have := h4 z hz hlt; omega
      · rw [List.mem_singleton.1 hz]; omega
    · rw [if_neg e]
      refine Or.inr ⟨h1, h2, ⟨y, by simp [hy], hyb⟩, fun z hz hlt => ?_⟩
      rcases List.mem_append.1 hz with hz | hz
      · exact h4 z hz hlt
      · rw [List.mem_singleton.1 hz] at hlt ⊢
        have : ¬ (best < 0 ∨ x.p < best) := fun k => e ⟨hlt, k⟩
        omega
def cntG (t : Int) (l : List Hd) : Nat := (l.filter (fun h => decide (t < h.p))).length
theorem cntG_le {s t : Int} (h : s ≤ t) : ∀ l, cntG t l ≤ cntG s l
  | [] => Nat.le_refl _
  | x :: r => by
    have ih := cntG_le h r
    unfold cntG at *
    rw [List.filter_cons, List.filter_cons]
    by_cases e1 : t < x.p
    · have e2 : s < x.p := by omega
      simp only [e1, e2, decide_true, if_true, List.length_cons]
      omega
    · by_cases e2 : s < x.p
      · simp only [e1, e2, decide_true, decide_false, if_true, List.length_cons]
        simp
        omega
      · simp only [e1, e2, decide_false]
        simpa using ih
theorem cntG_lt {s t : Int} (h : s < t) : ∀ l : List Hd, (∃ x ∈ l, x.p = t) → cntG t l + 1 ≤ cntG s l
  | [], hx => by obtain ⟨x, hx, _⟩ := hx; cases hx
  | y :: r, hx => by
    by_cases e : y.p = t
    · have ih := cntG_le (Int.le_of_lt h) r
      unfold cntG at *
      rw [List.filter_cons, List.filter_cons]
      have e1 : ¬ t < y.p := by omega
      have e2 : s < y.p := by omega
      simp only [e1, e2, decide_true, decide_false, if_true, List.length_cons]
      simp
      omega
    · have hx' : ∃ x ∈ r, x.p = t := by
        obtain ⟨x, hx, ex⟩ := hx
        rcases List.mem_cons.1 hx with rfl | hx
        · exact absurd ex e
        · exact ⟨x, hx, ex⟩
      have ih := cntG_lt h r hx'
      unfold cntG at *
      rw [List.filter_cons, List.filter_cons]
      by_cases e1 : t < y.p
      · have e2 : s < y.p := by omega
        simp only [e1, e2, decide_true, if_true, List.length_cons]
        omega
      · by_cases e2 : s < y.p
        · simp only [e1, e2, decide_true, decide_false, if_true, List.length_cons]
          simp
          omega
        · simp only [e1, e2, decide_false]
          simpa using ih
/-- What holds ahead of a round. -/
structure Pr (l : List Hd) (least : Int) (ps : List Int) : Prop where
  up : ps.Pairwise (fun a b => a < b)
  mem : ∀ q, q ∈ ps ↔ q ≤ least ∧ ∃ h ∈ l, h.p = q
  cnt : ps.length + cntG least l ≤ l.length
theorem Pr.start {l : List Hd} (ok : RbOk l) : Pr l (-1) [] := by
  refine ⟨List.Pairwise.nil, fun q => ⟨fun h => (by cases h), fun ⟨h1, x, hx, e⟩ => ?_⟩, ?_⟩
  · have := (ok.ok x hx).2.2; omega
  · simp only [List.length_nil, Nat.zero_add]
    exact List.length_filter_le _ _
theorem Pr.step {l : List Hd} {least best : Int} {ps : List Int} (h : Pr l least ps) (hb : least < best) (hx : ∃ x ∈ l, x.p = best) (hm : ∀ x ∈ l, least < x.p → best ≤ x.p) : Pr l best (ps ++ [best]) := by
  refine ⟨List.pairwise_append.2 ⟨h.up, List.pairwise_singleton _ _, fun a ha c hc => ?_⟩, fun q => ?_, ?_⟩
  · rw [List.mem_singleton.1 hc]
    have := ((h.mem a).1 ha).1
    omega
  · rw [List.mem_append, List.mem_singleton, h.mem q]
    constructor
    · rintro (⟨h1, h2⟩ | rfl)
      · exact ⟨by omega, h2⟩
      · exact ⟨by omega, hx⟩
    · rintro ⟨h1, x, hx, rfl⟩
      by_cases e : x.p ≤ least
      · exact Or.inl ⟨e, x, hx, rfl⟩
      · have := hm x hx (by omega)
        exact Or.inr (by omega)
  · have := cntG_lt hb l hx
    have := h.cnt
    rw [List.length_append]
    simp
    omega
theorem rf_ne {l : List Hd} {q : Int} : RF l q ≠ [] ↔ ∃ h ∈ l, h.p = q := by
  unfold RF bt
  constructor
  · intro h
    cases hf : l.filter (fun h => decide (h.p = q)) with
    | nil => rw [hf] at h; exact absurd rfl h
    | cons x r =>
      have hm : x ∈ l.filter (fun h => decide (h.p = q)) := by rw [hf]; simp
      obtain ⟨h1, h2⟩ := List.mem_filter.1 hm
      exact ⟨x, h1, by simpa using h2⟩
  · rintro ⟨x, hx, e⟩ h
    have hm : x ∈ l.filter (fun h => decide (h.p = q)) := List.mem_filter.2 ⟨hx, by simpa using e⟩
    rw [List.map_eq_nil_iff.1 h] at hm
    cases hm
theorem Pr.done {l : List Hd} {least : Int} {ps : List Int} (h : Pr l least ps) (hm : ∀ x ∈ l, x.p ≤ least) : Ids (RF l) ps :=
  ⟨h.up, fun q => by rw [rf_ne, h.mem q]; exact ⟨fun k => k.2, fun ⟨x, hx, e⟩ => ⟨by have := hm x hx; omega, x, hx, e⟩⟩⟩
set_option maxHeartbeats 4000000 in
set_option maxRecDepth 40000 in
theorem rprods_any (b : Nat) (l : List Hd) (w : World) (S : Nat → Prop) (h : RB b l w S) (ok : RbOk l) (hl : l.length ≤ 2199023255552) :
    Calls Try.prog 23 #[.pointer (some ⟨b, 0, none⟩)] w fun e w' => ∃ v, e = .returned v ∧ ∃ ps, Oi w v ps w' ∧ Ids (RF l) ps ∧ ps.length ≤ l.length := by
  obtain ⟨v, hb, hr, _⟩ := h
  obtain ⟨a, cap, rfl, hd, hc1, hc2⟩ := hr.hds
  have hbl := lt_of_heap hb
  have HB := Hid.mk hb
  have HD := Hid.mk hd
  obtain ⟨i0, hi, hz0, hz1, hz2⟩ := info_parts Try.infoI
  have hcap : cap ≤ 9223372036854775807 := by unfold maxLen at hc2; omega
  have HOK := Hid.mk ok
  clear hb hr hd hc2 ok
  go_enter Try.func23, Try.ntmps23
  go_wp2_with fail
  go_loopg [3, 4] (cntG (-1) l) (fun k o m wr => ∃ (least : Int) (ps : List Int), k = cntG least l ∧ m = .int .i64 least ∧ -1 ≤ least ∧ Hid (Pr l least ps) ∧ Hid (Oi w o ps wr))
  case atStart => exact ⟨-1, [], rfl, rfl, Int.le_refl _, Pr.start HOK.out, Below.refl _ _, OwI.nil _ _⟩
  case round =>
    obtain ⟨least, ps, hgk, rfl, hle, HP, HO⟩ := hrel
    have c0 : wr.cell? ⟨b, 0, none⟩ = some (.slice a l.length cap) := (cell_of ((HO.out.bel.block b hbl).trans HB.out)).trans rfl
    have HDr : Hid (Hds wr a l) := HD.out.below HO.out.bel
    subst hgk
    go_wp2_with fail
    go_loopg [5, 6] l.length (fun k bv i wx => ∃ (j : Nat) (best : Int), j + k = l.length ∧ i = .int .i64 j ∧ bv = .int .i64 best ∧ -1 ≤ best ∧ Hid (Bs least (l.take j) best) ∧ wx = wr)
    case atStart => exact ⟨0, -1, by omega, rfl, rfl, Int.le_refl _, Or.inl ⟨rfl, fun h hh => (by simp at hh)⟩, rfl⟩
    case round =>
      obtain ⟨j, best, hk, rfl, rfl, hbe, HBs, rfl⟩ := hrel
      by_cases hlt : j < l.length
      · obtain ⟨k, rfl⟩ : ∃ k, gk = k + 1 := ⟨gk - 1, by omega⟩
        rcases HDr.out with rfl | ⟨g, off, rfl, hbg, hc⟩
        · simp at hlt
        obtain ⟨q0, q1, q2, q3, q4, q5, q6, q7⟩ := hc j hlt
        have HN := Hid.mk (take_next l hd0 hlt)
        have hx0 := (HOK.out.ok (l.getD j hd0) (by rw [List.getD_eq_getElem?_getD, List.getElem?_eq_getElem hlt]; exact List.getElem_mem _)).2.2
        have HS := Hid.mk (HBs.out.snoc hx0)
        rw [← HN.out] at HS
        generalize l.getD j hd0 = z at *
        obtain ⟨z0, z1, z2, z3, z4, z5, z6, z7⟩ := z
        dsimp only at q0 q1 q2 q3 q4 q5 q6 q7 HS hx0
        have b1 : (0 : Int) ≤ (j : Int) := by omega
        have b2 : (j : Int) < (l.length : Int) := by omega
        have HK := Hid.mk hk
        clear hc hbg hk q0 q1 q2 q3 q4 q5 q7
        by_cases t1 : least < z6
        · by_cases t2 : best < 0
          · rw [if_pos ⟨t1, Or.inl t2⟩] at HS
            go_wp2_with fail
            go_roundg k
            case measure => omega
            case rel => exact ⟨j + 1, z6, by have := HK.out; omega, by go_num, rfl, by omega, HS, rfl⟩
          · by_cases t3 : z6 < best
            · rw [if_pos ⟨t1, Or.inr t3⟩] at HS
              go_wp2_with fail
              go_roundg k
              case measure => omega
              case rel => exact ⟨j + 1, z6, by have := HK.out; omega, by go_num, rfl, by omega, HS, rfl⟩
            · rw [if_neg (fun e => e.2.elim t2 t3)] at HS
              go_wp2_with fail
              go_roundg k
              case measure => omega
              case rel => exact ⟨j + 1, best, by have := HK.out; omega, by go_num, rfl, by omega, HS, rfl⟩
        · rw [if_neg (fun e => t1 e.1)] at HS
          go_wp2_with fail
          go_roundg k
          case measure => omega
          case rel => exact ⟨j + 1, best, by have := HK.out; omega, by go_num, rfl, by omega, HS, rfl⟩
      · have hlt' : ¬ (j : Int) < (l.length : Int) := by omega
        have hT : l.take j = l := List.take_of_length_le (by omega)
        have hBs := HBs.out
        rw [hT] at hBs
        clear hk hT
        have hcn := HP.out.cnt
        rcases hBs with ⟨rfl, hall⟩ | ⟨g1, g2, g3, g4⟩
        · have HE := Hid.mk (HP.out.done hall)
          clear hall
          go_wp2_with fail
          go_ret
          exact ⟨_, rfl, _, HO.out, HE.out, by omega⟩
        · have HP2 := Hid.mk (HP.out.step g1 g3 g4)
          have HC2 := Hid.mk (cntG_lt g1 l g3)
          have t2 : ¬ best < 0 := by omega
          clear g3 g4
          go_wp2_with (at_builtin; refine wpList_append_own _ rfl _ _ 56 rfl w.heap.size 2 i0 (.int .i64 0) 1 8 Try.underlying56 hi hz0 hz1 hz2 rfl (by decide) _ ps.length (ivs ps) rfl ?c0 ⟨wr.heap.size, 0, none⟩ 1 1 [.int .i64 best] rfl rfl ?c1 ?c2 ?c3 ?c4 ?c5 ?_)
          case c0 => exact (HO.out.alloc (.cells #[.int .i64 best] 2)).row
          case c2 => first | rfl | (intro u hu; rw [List.mem_singleton.1 hu]; rfl)
          case c3 => unfold maxLen; omega
          case c4 => omega
          case c5 => have := HO.out.bel.size; simp; omega
          intro v' w7 hown7 hgrow7 _
          have HQ := Hid.mk ((HO.out.alloc (.cells #[.int .i64 best] 2)).push hown7 hgrow7)
          clear hown7 hgrow7
          go_wp2_with fail
          go_roundg (cntG best l)
          case measure => have := HC2.out; omega
          case rel => exact ⟨best, _, rfl, rfl, by omega, HP2, HQ⟩
theorem rlen_any (b : Nat) (l : List Hd) (w : World) (S : Nat → Prop) (h : RB b l w S) (ok : RbOk l) (hl : l.length ≤ 2199023255552) :
    Calls Try.prog 29 #[.pointer (some ⟨b, 0, none⟩)] w fun e w' => ∃ ps, e = .returned (.int .i64 (ps : List Int).length) ∧ Ids (RF l) ps ∧ ps.length ≤ l.length ∧ Below w.heap.size w w' := by
  have HC : Hid (Calls Try.prog 23 #[.pointer (some ⟨b, 0, none⟩)] w fun e w' => ∃ (a : Option Addr) (cap : Nat) (ps : List Int), e = .returned (.slice a ps.length cap) ∧ Ids (RF l) ps ∧ ps.length ≤ l.length ∧ Below w.heap.size w w') := by
    refine (rprods_any b l w S h ok hl).mono ?_
    rintro e w' ⟨v, rfl, ps, ho, hi, hn⟩
    obtain ⟨a, cap, rfl, _⟩ := ho.row.nms
    exact ⟨a, cap, ps, rfl, hi, hn, ho.bel⟩
  clear h ok hl
  go_enter Try.func29, Try.ntmps29
  go_wp2_with (go_at_call 23; with_reducible refine HC.out.mono ?_; rintro e w1 ⟨a, cap, ps, rfl, hi, hn, hb⟩; have HI := Hid.mk hi; have HB := Hid.mk hb; have HN := Hid.mk hn; clear hi hb hn)
  go_ret
  exact ⟨_, rfl, HI.out, HN.out, HB.out⟩
end Go.Proofs.Ytolobmhbmajolaa
