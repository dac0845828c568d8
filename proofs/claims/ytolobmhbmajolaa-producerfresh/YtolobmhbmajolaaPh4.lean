/- The document's book: Note. -/
import Derived.Test.YtolobmhbmajolaaPh3
namespace Go.Proofs.Ytolobmhbmajolaa
open Go.RowKit
/-- Without the first one of a producer. -/
def rm (p : Int) : List Hd → List Hd
  | [] => []
  | h :: r => if h.p = p then r else h :: rm p r
def rmB (d : Bool) (p : Int) (l : List Hd) : List Hd := if d = true then rm p l else l
def rnote (l : List Hd) (x : Hd) : List Hd := if goodB x.b x.c x.p x.s = true ∧ x.p ≠ -1 then rmB (decide (5 ≤ (bt l x.p).length)) x.p l ++ [hdOf x.p ⟨x.b, x.c, x.s⟩] else l
theorem rm_len (p : Int) : ∀ l, (rm p l).length ≤ l.length
  | [] => Nat.le_refl _
  | h :: r => by
    unfold rm
    split
    · simp
    · have := rm_len p r; simp; omega
theorem rm_yes {p : Int} {z : Hd} {r : List Hd} (h : z.p = p) : rm p (z :: r) = r := by show (if z.p = p then r else z :: rm p r) = r; rw [if_pos h]
theorem rm_no {p : Int} {z : Hd} {r : List Hd} (h : z.p ≠ p) : rm p (z :: r) = z :: rm p r := by show (if z.p = p then r else z :: rm p r) = _; rw [if_neg h]
theorem rmB_len (d : Bool) (p : Int) (l : List Hd) : (rmB d p l).length ≤ l.length := by
  unfold rmB
  split
  · exact rm_len p l
  · exact Nat.le_refl _
theorem drop_next {α : Type} (l : List α) (d : α) {j : Nat} (h : j < l.length) : l.drop j = l.getD j d :: l.drop (j + 1) := by
  rw [List.drop_eq_getElem_cons h, List.getD_eq_getElem?_getD, List.getElem?_eq_getElem h]
  rfl
theorem RB.same {b : Nat} {l : List Hd} {y y' : World} {S : Nat → Prop} (h : RB b l y S) (hb : Below y.heap.size y y') : Step S y (RB b l) y' := Step.same (RB.stab b l) h hb
/-- The book's list is another from here on. -/
theorem rb_put {y w2 w7 : World} {b : Nat} {S : Nat → Prop} {L : List Hd} {u v : Value} (hb2 : Below y.heap.size y w2) (hp : Oh w2 v L w7) (hb7 : w7.heap[b]? = some (.cells #[u] 65 (0, 0))) (hbl : b < y.heap.size) (hS : S b) : Step S y (RB b L) (w7.setCell ⟨b, 0, none⟩ v) := by
  have hlow : ∀ i, v.ownBlock = some i → y.heap.size ≤ i := fun i hi => Nat.le_trans hb2.size (World.ownsRow.lt hp.row i hi).1
  refine ⟨_, ⟨v, heap_set hb7, (OwH.keep hp.row (fun i hi _ => Below.heap_setCell _ _ _ _ ?_)).base (Nat.zero_le _), rfl⟩, ?_, ?_⟩
  · have := hlow i hi
    show i ≠ b
    omega
  · exact (Ch.of_below (hb2.trans (hp.bel.mono hb2.size))).setCell _ _ (fun _ => hS)
  · rintro i (rfl | hi)
    · exact Or.inl hS
    · exact Or.inr (hlow i hi)
theorem rnote_no (b : Nat) (l : List Hd) (x : Hd) (hx : ¬ (goodB x.b x.c x.p x.s = true ∧ x.p ≠ -1)) (y : World) (S : Nat → Prop) (h : RB b l y S) :
    Calls Try.prog 33 #[.pointer (some ⟨b, 0, none⟩), hdA x] y fun e w' => e = .returned (.int .i64 (noteE x)) ∧ Step S y (RB b (rnote l x)) w' := by
  have e : rnote l x = l := by unfold rnote; rw [if_neg hx]
  rw [e]
  have HS : Hid (∀ w', Below y.heap.size y w' → Step S y (RB b l) w') := fun w' hb => h.same hb
  obtain ⟨r0, r1, r2, r3, r4, r5, r6, r7⟩ := x
  dsimp only at hx
  have hbW : Below y.heap.size y (y.alloc (.cells #[.int .i64 r0, .int .i64 r1, .bool r2, .int .i64 r3, .int .i64 r4, .int .i64 r5, .int .i64 r6, .int .i32 r7] 29)) := (Below.refl _ y).alloc (Nat.le_refl _) _
  have HG : Hid (Calls Try.prog 26 #[hdV r0 r1 r2 r3 r4 r5 r6 r7] (y.alloc (.cells #[.int .i64 r0, .int .i64 r1, .bool r2, .int .i64 r3, .int .i64 r4, .int .i64 r5, .int .i64 r6, .int .i32 r7] 29)) fun e w' => e = .returned (.bool (goodB r0 r3 r6 r7)) ∧ w'.cell? ⟨y.heap.size, 6, none⟩ = some (.int .i64 r6) ∧ Below y.heap.size y w') := (rgood_any r0 r1 r2 r3 r4 r5 r6 r7 _).mono fun e w' hh => ⟨hh.1, by
      have := (hh.2.block y.heap.size (by simp)).trans (heap_new y _)
      exact (cell_of this).trans rfl, hbW.trans (hh.2.mono hbW.size)⟩
  clear h e hbW
  by_cases hg : goodB r0 r3 r6 r7 = true
  · have hp : r6 = -1 := Classical.byContradiction fun hp => hx ⟨hg, hp⟩
    rw [hg] at HG
    have e1 : noteE ⟨r0, r1, r2, r3, r4, r5, r6, r7⟩ = 0 := by unfold noteE; rw [if_pos hg]
    rw [e1]
    subst hp
    clear e1 hg hx
    show Calls _ _ #[_, hdV r0 r1 r2 r3 r4 r5 (-1) r7] _ _
    go_enter Try.func33, Try.ntmps33
    go_wp2_with (go_at_call 26; with_reducible refine HG.out.mono ?_; rintro e w1 ⟨rfl, k6, hb1⟩; have HB := Hid.mk hb1; clear hb1)
    go_ret
    exact ⟨rfl, HS.out _ HB.out⟩
  · have hg' : goodB r0 r3 r6 r7 = false := by simpa using hg
    rw [hg'] at HG
    have e1 : noteE ⟨r0, r1, r2, r3, r4, r5, r6, r7⟩ = 1 := by unfold noteE; rw [if_neg hg]
    rw [e1]
    clear e1 hg hx hg'
    show Calls _ _ #[_, hdV r0 r1 r2 r3 r4 r5 r6 r7] _ _
    go_enter Try.func33, Try.ntmps33
    go_wp2_with (go_at_call 26; with_reducible refine HG.out.mono ?_; rintro e w1 ⟨rfl, k6, hb1⟩; have HB := Hid.mk hb1; clear hb1)
    go_ret
    exact ⟨rfl, HS.out _ HB.out⟩
set_option maxHeartbeats 4000000 in
set_option maxRecDepth 40000 in
theorem rnote_yes (b : Nat) (l : List Hd) (r0 r1 : Int) (r2 : Bool) (r3 r4 r5 r6 r7 : Int) (hg : goodB r0 r3 r6 r7 = true) (hp : r6 ≠ -1) (hl : l.length < 2199023255552) (y : World) (S : Nat → Prop) (h : RB b l y S) :
    Calls Try.prog 33 #[.pointer (some ⟨b, 0, none⟩), hdV r0 r1 r2 r3 r4 r5 r6 r7] y fun e w' => e = .returned (.int .i64 0) ∧ Step S y (RB b (rmB (decide (5 ≤ (bt l r6).length)) r6 l ++ [hdOf r6 ⟨r0, r3, r7⟩])) w' := by
  have HR := Hid.mk h
  obtain ⟨v, hb, hr, hS⟩ := h
  obtain ⟨a, cap, rfl, hd, hc1, hc2⟩ := hr.hds
  have hbl := lt_of_heap hb
  have HBk := Hid.mk hb
  have HD := Hid.mk hd
  obtain ⟨i0, hi, hz0, hz1, hz2⟩ := info_parts Try.infoH
  have hcap : cap ≤ 9223372036854775807 := by unfold maxLen at hc2; omega
  have HSb : Hid (S b) := by rw [hS]; exact Or.inl rfl
  clear hS hr hb hd hc2
  have hbW : Below y.heap.size y (y.alloc (.cells #[.int .i64 r0, .int .i64 r1, .bool r2, .int .i64 r3, .int .i64 r4, .int .i64 r5, .int .i64 r6, .int .i32 r7] 29)) := (Below.refl _ y).alloc (Nat.le_refl _) _
  have HG : Hid (Calls Try.prog 26 #[hdV r0 r1 r2 r3 r4 r5 r6 r7] (y.alloc (.cells #[.int .i64 r0, .int .i64 r1, .bool r2, .int .i64 r3, .int .i64 r4, .int .i64 r5, .int .i64 r6, .int .i32 r7] 29)) fun e w' => e = .returned (.bool true) ∧ w'.heap[y.heap.size]? = some (.cells #[.int .i64 r0, .int .i64 r1, .bool r2, .int .i64 r3, .int .i64 r4, .int .i64 r5, .int .i64 r6, .int .i32 r7] 29 (0, 0)) ∧ Below y.heap.size y w') := by
    have := rgood_any r0 r1 r2 r3 r4 r5 r6 r7 (y.alloc (.cells #[.int .i64 r0, .int .i64 r1, .bool r2, .int .i64 r3, .int .i64 r4, .int .i64 r5, .int .i64 r6, .int .i32 r7] 29))
    rw [hg] at this
    exact this.mono fun e w' hh => ⟨hh.1, (hh.2.block y.heap.size (by simp)).trans (heap_new y _), hbW.trans (hh.2.mono hbW.size)⟩
  have HT : Hid (∀ z, Below y.heap.size y z → z.heap[y.heap.size]? = some (.cells #[.int .i64 r0, .int .i64 r1, .bool r2, .int .i64 r3, .int .i64 r4, .int .i64 r5, .int .i64 r6, .int .i32 r7] 29 (0, 0)) → Calls Try.prog 25 #[.pointer (some ⟨b, 0, none⟩), .int .i64 r6] z fun e w' => ∃ (a : Option Addr) (cap : Nat), e = .returned (.slice a (bt l r6).length cap) ∧ w'.heap[y.heap.size]? = some (.cells #[.int .i64 r0, .int .i64 r1, .bool r2, .int .i64 r3, .int .i64 r4, .int .i64 r5, .int .i64 r6, .int .i32 r7] 29 (0, 0)) ∧ Below y.heap.size y w') := fun z hz hb => by
    refine (rbatches_any b l r6 z S ((RB.stab b l).keep HR.out (Ch.of_below hz : Ch (fun _ => False) y z) (fun _ _ e => e)) (by omega)).mono ?_
    rintro e w' ⟨v, rfl, ho⟩
    obtain ⟨a, cap, rfl, hd, _⟩ := ho.row.hds
    exact ⟨a, cap, rfl, (ho.bel.block _ (lt_of_heap hb)).trans hb, hz.trans (ho.bel.mono hz.size)⟩
  have hpD : decide (r6 = -1) = false := by simpa using hp
  have hp2 : (r6 == -1) = false := by simpa using hp
  obtain ⟨D, hD⟩ : ∃ D, decide (5 ≤ (bt l r6).length) = D := ⟨_, rfl⟩
  have hDI : decide ((5 : Int) ≤ ((bt l r6).length : Int)) = D := by rw [← hD]; simp; omega
  rw [hD]
  have hLI : ((bt l r6).length : Int) ≤ 2199023255552 := by have := bt_len l r6; omega
  generalize (bt l r6).length = BL at *
  clear HR hbW
  have Hhg := Hid.mk hg
  clear hg
  go_enter Try.func33, Try.ntmps33
  go_wp2_with (first | (go_at_call 26; with_reducible refine HG.out.mono ?_; rintro e w1 ⟨rfl, k1, hb1⟩; obtain ⟨x0, x1, x2, x3, x4, x5, x6, x7⟩ := cells8 k1; have HB := Hid.mk hb1; have HK1 := Hid.mk k1; clear hb1 k1) | (go_at_call 25; with_reducible refine (HT.out _ HB.out HK1.out).mono ?_; rintro e w2 ⟨a2, cap2, rfl, k2, hb2⟩; have HB2 := Hid.mk hb2; have HK2 := Hid.mk k2; clear hb2 k2))
  clear HG HT x0 x1 x2 x3 x4 x5 x6 x7 HK1 HB
  have hyw2 : y.heap.size < w2.heap.size := lt_of_heap HK2.out
  have hbw2 : b < w2.heap.size := by have := HB2.out.size; omega
  have HDw : Hid (Hds w2 a l) := HD.out.below HB2.out
  have HBw : Hid (w2.heap[b]? = some (.cells #[.slice a l.length cap] 65 (0, 0))) := (HB2.out.block b hbl).trans HBk.out
  clear HD HBk hDI
  go_loopg [5, 6, 7] l.length (fun k d o i wr => ∃ (j : Nat) (dd : Bool) (L : List Hd), j + k = l.length ∧ i = .int .i64 j ∧ d = .bool dd ∧ Hid (L.length ≤ j) ∧ Hid (L ++ rmB dd r6 (l.drop j) = rmB D r6 l) ∧ Hid (Oh w2 o L wr))
  case atStart => exact ⟨0, _, [], by omega, rfl, rfl, Nat.le_refl _, rfl, Below.refl _ _, OwH.nil _ _⟩
  case round =>
    obtain ⟨j, dd, L, hk, rfl, rfl, HLe, HRm, HO⟩ := hrel
    have c0 : wr.cell? ⟨b, 0, none⟩ = some (.slice a l.length cap) := (cell_of ((HO.out.bel.block b hbw2).trans HBw.out)).trans rfl
    obtain ⟨x0, x1, x2, x3, x4, x5, x6, x7⟩ := cells8 ((HO.out.bel.block _ hyw2).trans HK2.out)
    by_cases hlt : j < l.length
    · obtain ⟨k, rfl⟩ : ∃ k, gk = k + 1 := ⟨gk - 1, by omega⟩
      rcases HDw.out.below HO.out.bel with rfl | ⟨g, off, rfl, hbg, hc⟩
      · simp at hlt
      obtain ⟨q0, q1, q2, q3, q4, q5, q6, q7⟩ := hc j hlt
      have HN := Hid.mk (drop_next l hd0 hlt)
      generalize l.getD j hd0 = z at *
      obtain ⟨z0, z1, z2, z3, z4, z5, z6, z7⟩ := z
      dsimp only at q0 q1 q2 q3 q4 q5 q6 q7
      have b1 : (0 : Int) ≤ (j : Int) := by omega
      have b2 : (j : Int) < (l.length : Int) := by omega
      have HK := Hid.mk hk
      clear hc hbg hk
      rw [HN.out] at HRm
      have HPush : Hid (∀ (v' : Value) (w7 : World), w7.ownsRow w2.heap.size 29 8 v' (L.length + 1) (hvs L ++ hv ⟨z0, z1, z2, z3, z4, z5, z6, z7⟩) → ∀ nd, ((wr.drewN nd).alloc (.cells #[.int .i64 z0, .int .i64 z1, .bool z2, .int .i64 z3, .int .i64 z4, .int .i64 z5, .int .i64 z6, .int .i32 z7] 29)).grownBy w7 u6.ownBlock → Oh w2 v' (L ++ [⟨z0, z1, z2, z3, z4, z5, z6, z7⟩]) w7) := fun v' w7 hown nd hgrow => ((HO.out.drewN nd).alloc _).push hown hgrow
      cases dd
      · have HRn : Hid (L ++ [⟨z0, z1, z2, z3, z4, z5, z6, z7⟩] ++ rmB false r6 (l.drop (j + 1)) = rmB D r6 l) := by
          have := HRm.out
          unfold rmB at this ⊢
          rw [if_neg (by decide)] at this ⊢
          rw [List.append_assoc]
          exact this
        clear HRm
        go_wp2_with fail
        go_quiet (fail)
        go_wp2_with (at_builtin; refine wpList_append_own _ rfl _ _ 35 rfl w2.heap.size 29 i0 hz8 8 64 Try.underlying35 hi hz0 hz1 hz2 rfl (by decide) _ L.length (hvs L) rfl ?c0a ⟨wr.heap.size, 0, none⟩ 1 1 (hv ⟨z0, z1, z2, z3, z4, z5, z6, z7⟩) rfl rfl ?c1a ?c2a ?c3a ?c4a ?c5a ?_)
        case c0a => exact ((HO.out.drewN nq).alloc (.cells (hv ⟨z0, z1, z2, z3, z4, z5, z6, z7⟩).toArray 29)).row
        case c1a => exact World.news_of_block (heap_new' _ _ _ rfl)
        case c2a => exact hv_one _
        case c3a => have := HLe.out; unfold maxLen; omega
        case c4a => have := HLe.out; omega
        case c5a => have := HO.out.bel.size; simp; omega
        intro v' w7 hown7 hgrow7 _
        have HP := Hid.mk (HPush.out v' w7 hown7 nq hgrow7)
        clear hown7 hgrow7
        go_wp2_with fail
        go_roundg k
        case measure => omega
        case rel => exact ⟨j + 1, _, L ++ [⟨z0, z1, z2, z3, z4, z5, z6, z7⟩], by have := HK.out; omega, by go_num, rfl, by show _ ≤ _; have := HLe.out; simp; omega, HRn, HP⟩
      · by_cases hz : z6 = r6
        · have HRn : Hid (L ++ rmB false r6 (l.drop (j + 1)) = rmB D r6 l) := by
            have := HRm.out
            unfold rmB at this ⊢
            rw [if_pos rfl] at this
            rw [if_neg (by decide)]
            rw [rm_yes hz] at this
            exact this
          have hz1' : decide (z6 = r6) = true := by simpa using hz
          have hz2' : (z6 == r6) = true := by simpa using hz
          clear HRm
          go_wp2_with fail
          go_quiet (fail)
          go_wp2_with fail
          go_roundg k
          case measure => omega
          case rel => exact ⟨j + 1, _, L, by have := HK.out; omega, by go_num, rfl, by show _ ≤ _; have := HLe.out; omega, HRn, HO.out.drewN _⟩
        · have HRn : Hid (L ++ [⟨z0, z1, z2, z3, z4, z5, z6, z7⟩] ++ rmB true r6 (l.drop (j + 1)) = rmB D r6 l) := by
            have := HRm.out
            unfold rmB at this ⊢
            rw [if_pos rfl] at this ⊢
            rw [rm_no hz] at this
            rw [List.append_assoc]
            exact this
          have hz1' : decide (z6 = r6) = false := by simpa using hz
          have hz2' : (z6 == r6) = false := by simpa using hz
          clear HRm
          go_wp2_with fail
          go_quiet (fail)
          go_wp2_with (at_builtin; refine wpList_append_own _ rfl _ _ 35 rfl w2.heap.size 29 i0 hz8 8 64 Try.underlying35 hi hz0 hz1 hz2 rfl (by decide) _ L.length (hvs L) rfl ?c0b ⟨wr.heap.size, 0, none⟩ 1 1 (hv ⟨z0, z1, z2, z3, z4, z5, z6, z7⟩) rfl rfl ?c1b ?c2b ?c3b ?c4b ?c5b ?_)
          case c0b => exact ((HO.out.drewN nq).alloc (.cells (hv ⟨z0, z1, z2, z3, z4, z5, z6, z7⟩).toArray 29)).row
          case c1b => exact World.news_of_block (heap_new' _ _ _ rfl)
          case c2b => exact hv_one _
          case c3b => have := HLe.out; unfold maxLen; omega
          case c4b => have := HLe.out; omega
          case c5b => have := HO.out.bel.size; simp; omega
          intro v' w7 hown7 hgrow7 _
          have HP := Hid.mk (HPush.out v' w7 hown7 nq hgrow7)
          clear hown7 hgrow7
          go_wp2_with fail
          go_roundg k
          case measure => omega
          case rel => exact ⟨j + 1, _, L ++ [⟨z0, z1, z2, z3, z4, z5, z6, z7⟩], by have := HK.out; omega, by go_num, rfl, by show _ ≤ _; have := HLe.out; simp; omega, HRn, HP⟩
    · have hlt' : ¬ (j : Int) < (l.length : Int) := by omega
      have HE : Hid (L = rmB D r6 l) := by
        have := HRm.out
        rw [List.drop_eq_nil_of_le (by omega)] at this
        have e : rmB dd r6 [] = [] := by unfold rmB; split <;> rfl
        rw [e, List.append_nil] at this
        exact this
      have hLl : L.length ≤ l.length := by have := HLe.out; omega
      have fz : wr.frozen? ⟨b, 0, none⟩ = false := froz_of ((HO.out.bel.block b hbw2).trans HBw.out)
      have HBr := Hid.mk ((HO.out.bel.block b hbw2).trans HBw.out)
      clear hk
      go_wp2_with (at_builtin; refine wpList_append_lies _ rfl _ _ 35 rfl w2.heap.size 29 i0 hz8 8 64 Try.underlying35 hi hz0 hz1 hz2 rfl (by decide) _ L.length (hvs L) rfl ?d0 ⟨wr.heap.size, 0, none⟩ 1 1 (hv (hdOf r6 ⟨r0, r3, r7⟩)) rfl rfl ?d1 ?d2 ?d3 ?d4 ?d5 ?d6 _ rfl ?_)
      case d0 => exact (HO.out.alloc (.cells (hv (hdOf r6 ⟨r0, r3, r7⟩)).toArray 29)).row
      case d1 => exact fun j u h => h
      case d2 => exact hv_one _
      case d4 => unfold maxLen; omega
      case d5 => omega
      case d6 => have := HO.out.bel.size; simp; omega
      intro g3 cap3 w7 hown7 hgrow7 hat7 hlt7
      have HP := Hid.mk ((HO.out.alloc (.cells (hv (hdOf r6 ⟨r0, r3, r7⟩)).toArray 29)).push hown7 hgrow7)
      have hb7 : w7.heap[b]? = some (.cells #[.slice a l.length cap] 65 (0, 0)) := (HP.out.bel.block b hbw2).trans HBw.out
      have c7 : w7.cell? ⟨b, 0, none⟩ = some (.slice a l.length cap) := (cell_of hb7).trans rfl
      have fz7 : w7.frozen? ⟨b, 0, none⟩ = false := froz_of hb7
      have HB7 := Hid.mk hb7
      clear hown7 hgrow7 hb7 hat7
      go_wp2_with fail
      go_ret
      refine ⟨rfl, ?_⟩
      rw [← HE.out]
      exact rb_put HB2.out HP.out HB7.out hbl HSb.out
theorem rnote_any (b : Nat) (l : List Hd) (x : Hd) (hl : l.length < 2199023255552) (y : World) (S : Nat → Prop) (h : RB b l y S) :
    Calls Try.prog 33 #[.pointer (some ⟨b, 0, none⟩), hdA x] y fun e w' => e = .returned (.int .i64 (noteE x)) ∧ Step S y (RB b (rnote l x)) w' := by
  by_cases hx : goodB x.b x.c x.p x.s = true ∧ x.p ≠ -1
  · have e1 : noteE x = 0 := by unfold noteE; rw [if_pos hx.1]
    have e2 : rnote l x = rmB (decide (5 ≤ (bt l x.p).length)) x.p l ++ [hdOf x.p ⟨x.b, x.c, x.s⟩] := by unfold rnote; rw [if_pos hx]
    rw [e1, e2]
    exact rnote_yes b l x.b x.l x.pk x.c x.f x.g x.p x.s hx.1 hx.2 hl y S h
  · exact rnote_no b l x hx y S h
end Go.Proofs.Ytolobmhbmajolaa
