/- ProducerOf: its walk. -/
import Derived.Test.YtolobmhbmajolaaPj3
import Derived.Laws.AppendOwnNone
namespace Go.Proofs.Ytolobmhbmajolaa
open Go.RowKit
def h7 : Hd := ⟨-7, 0, false, 0, 0, 0, 0, 0⟩
def h3 : Hd := ⟨0, 0, false, 3, 0, 0, 3, 3⟩
theorem own_empty (w : World) (B : Nat) (hB : B ≤ w.heap.size) : (w.alloc (.cells #[] 29)).ownsRow B 29 8 (.slice (some ⟨w.heap.size, 0, none⟩) 0 0) 0 [] :=
  ⟨rfl, Or.inr ⟨w.heap.size, 0, #[], rfl, hB, heap_new _ _, Nat.le_refl _, by unfold maxLen; omega, rfl, rfl⟩⟩
theorem news_hds {w : World} {b off : Nat} {hs : List Hd} (h : ∀ j, j < hs.length → Eight w b (off + j * 8) (hs.getD j hd0)) : ∀ j u, (hvs hs)[j]? = some u → w.cell? ((⟨b, off, none⟩ : Addr).add j) = some u := by
  intro j u hj
  have hjl : j < hs.length * 8 := by
    rcases Nat.lt_or_ge j (hvs hs).length with h1 | h1
    · rw [hvs_len] at h1; exact h1
    · rw [List.getElem?_eq_none h1] at hj; cases hj
  have e : j = (j / 8) * 8 + j % 8 := by omega
  rw [e, hvs_at (by omega) (by omega)] at hj
  obtain ⟨c0, c1, c2, c3, c4, c5, c6, c7⟩ := h (j / 8) (by omega)
  rw [Go.WideShapes.add_plain, show off + j = off + j / 8 * 8 + j % 8 from by omega]
  have hm : j % 8 = 0 ∨ j % 8 = 1 ∨ j % 8 = 2 ∨ j % 8 = 3 ∨ j % 8 = 4 ∨ j % 8 = 5 ∨ j % 8 = 6 ∨ j % 8 = 7 := by omega
  rcases hm with h | h | h | h | h | h | h | h <;> rw [h] at hj ⊢
  · rw [Nat.add_zero, c0]; exact hj
  · rw [c1]; exact hj
  · rw [c2]; exact hj
  · rw [c3]; exact hj
  · rw [c4]; exact hj
  · rw [c5]; exact hj
  · rw [c6]; exact hj
  · rw [c7]; exact hj
theorem hvs_one (L : List Hd) : ∀ u ∈ hvs L, u.oneCell' = true := fun u hu => by
  obtain ⟨x, _, hux⟩ := List.mem_flatMap.1 hu
  exact hv_one x u hux
/-- The program's book of heads, beside what was there. -/
theorem of_in {R : Res} (hR : Stab R) {w0 : World} {H : Nat} {hs : List Hd} {a : Option Addr} {cap : Nat} {y : World} (h : In w0 H R y) (V : Hds y a hs) (hl : hs.length ≤ 2199023255552) (ok : ∀ x ∈ hs, HdOk x) :
    Calls Try.prog 15 #[.slice a hs.length cap] y fun e y' => ∃ b, e = .returned (.pointer (some ⟨b, 0, none⟩)) ∧ In w0 H (Sep R (Bok b (RF (rof hs)) hs.length)) y' := by
  refine (of_any hs a cap y V hl ok).mono ?_
  rintro e y' ⟨b, rfl, S, hS, hlow, hbel, _⟩
  exact ⟨b, rfl, h.add hR hbel hS hlow⟩
theorem rof_in {R : Res} (hR : Stab R) {w0 : World} {H : Nat} {hs : List Hd} {a : Option Addr} {cap : Nat} {y : World} (h : In w0 H R y) (V : Hds y a hs) (hl : hs.length ≤ 2199023255552) :
    Calls Try.prog 16 #[.slice a hs.length cap] y fun e y' => ∃ b, e = .returned (.pointer (some ⟨b, 0, none⟩)) ∧ In w0 H (Sep R (RB b (rof hs))) y' := by
  refine (rof_any hs a cap y V hl).mono ?_
  rintro e y' ⟨b, rfl, S, hS, hlow, hbel, _⟩
  exact ⟨b, rfl, h.add hR hbel hS hlow⟩
theorem pb_agree {w0 : World} {H b c : Nat} {l : List Hd} {k : Nat} {y : World} (h : In w0 H (PB b c l k) y) (hk : k ≤ 2199023255552) (hl : l.length ≤ 2199023255552) (h6 : R6 l) :
    Calls Try.prog 13 #[.pointer (some ⟨b, 0, none⟩), .pointer (some ⟨c, 0, none⟩)] y fun e y' => e = .returned (.bool true) ∧ In w0 H (PB b c l k) y' := by
  obtain ⟨S, hS, _⟩ := id h
  exact (agree_any b c l k hk hl h6.r h6.b y S hS).mono fun e y' hh => ⟨hh.1, In.call (PB.stab _ _ _ _) h hh.2⟩
/-- A row of heads of whatever form, as a thing. -/
def Rv (v : Value) (L : List Hd) : Res := fun y S => OwH y 0 v L ∧ S = fun i => v.ownBlock = some i
theorem Rv.stab (v : Value) (L : List Hd) : Stab (Rv v L) where
  keep := fun {y y' T S} h hc hS => by
    obtain ⟨h1, rfl⟩ := h
    exact ⟨h1.keep (fun i hi hlt => hc.block i hlt (hS i hi)), rfl⟩
  lt := fun {y S} h i hi => by
    obtain ⟨h1, rfl⟩ := h
    exact (World.ownsRow.lt h1 i hi).2
theorem In.pick13 {w : World} {H : Nat} {P Q R : Res} {y : World} (h : In w H (Sep (Sep P Q) R) y) : In w H (Sep P R) y := by
  obtain ⟨S, ⟨S12, S3, ⟨S1, S2, h1, h2, d12, e12⟩, h3, d3, e3⟩, hlow, hr⟩ := h
  refine ⟨fun i => S1 i ∨ S3 i, ⟨S1, S3, h1, h3, fun i a b => d3 i ((e12 i).2 (Or.inl a)) b, fun i => Iff.rfl⟩, fun i hi => hlow i ((e3 i).2 ?_), hr⟩
  rcases hi with hi | hi
  · exact Or.inl ((e12 i).2 (Or.inl hi))
  · exact Or.inr hi
theorem In.pick23 {w : World} {H : Nat} {P Q R : Res} {y : World} (h : In w H (Sep (Sep P Q) R) y) : In w H (Sep Q R) y := (h.mono fun _ hS => hS.assoc).dropL
/-- Forget, whatever it answers. -/
theorem Bok.forgetAny {b : Nat} {F G : Int → List Nt} {k : Nat} {y : World} (below : Int) (hk : k < 4611686018427387904) (hG : ∀ q, fg below (F q) = G q) : ∀ S, Bok b F k y S →
    Calls Try.prog 17 #[.pointer (some ⟨b, 0, none⟩), .int .i64 below] y fun e w' => (∃ g, e = .returned (.int .i64 g)) ∧ Step S y (Bok b G k) w' := by
  intro S h
  obtain ⟨ps, hps⟩ : ∃ ps, Ids F ps := by
    obtain ⟨m, fs, hb, hF, _⟩ := id h
    exact ⟨_, hb.pids hF⟩
  have hps2 : Ids (fun q => fg below (F q)) (ps.filter (fun q => decide (fg below (F q) ≠ []))) := by
    refine ⟨hps.up.filter _, fun q => ?_⟩
    rw [List.mem_filter, hps.mem q]
    constructor
    · intro h; simpa using h.2
    · intro h
      refine ⟨fun e => h ?_, by simpa using h⟩
      rw [e]
      rfl
  exact (Bok.forget below hk hps hps2 S h).mono fun e w' hh => ⟨⟨_, hh.1⟩, hh.2.mono fun T hT => hT.same hG⟩
theorem last_take {hs : List Hd} {j : Nat} (hj : j < hs.length) : (hs.take (j + 1)).getLast? = some (hs.getD j hd0) := by
  rw [take_next hs hd0 hj, List.getLast?_append]
  rfl
set_option maxHeartbeats 16000000 in
set_option maxRecDepth 80000 in
theorem of_some (hs : List Hd) (A : Addr) (cap : Nat) (below : Int) (w : World) (V : Hds w (some A) hs) (hl : hs.length ≤ 2199023255488) (ok : ∀ x ∈ hs, HdOk x) :
    Calls Try.prog 4 #[.slice (some A) hs.length cap, .int .i64 below] w fun e w' => e = .returned (.bool true) ∧ Below w.heap.size w w' := by
  have HK := Hid.mk knows_any
  have HV := Hid.mk V
  have HOK := Hid.mk ok
  obtain ⟨i0, hi, hz0, hz1, hz2⟩ := info_parts Try.infoH
  have HNews : Hid (∀ y, Below w.heap.size w y → ∀ j u, (hvs hs)[j]? = some u → y.cell? (A.add j) = some u) := fun y hy => by
    rcases HV.out.below hy with rfl | ⟨b, off, e, hbl, hc⟩
    · intro j u h; simp [hvs] at h
    · cases e
      exact news_hds hc
  clear V ok
  go_enter Try.func4, Try.ntmps4
  go_wp2_with (first
    | (go_at_call 8; with_reducible refine (HK.out w).mono ?_; rintro e w1 ⟨rfl, hb1⟩; have HB1 := Hid.mk hb1; clear hb1)
    | (at_builtin; refine wpList_append_own _ rfl _ _ 35 rfl w1.heap.size 29 i0 hz8 8 64 Try.underlying35 hi hz0 hz1 hz2 rfl (by decide) _ 0 [] rfl (own_empty w1 _ (Nat.le_refl _)) A hs.length cap (hvs hs) rfl ?c0 ?c1 ?c2 ?c3 ?c4 ?c5 ?_))
  case c0 => rw [hvs_len]
  case c1 => exact HNews.out _ (HB1.out.alloc HB1.out.size _)
  case c2 => exact hvs_one _
  case c3 => unfold maxLen; omega
  case c4 => omega
  case c5 => simp
  intro v' w2 hown2 hgrow2 _
  have hO2 : Oh w1 v' hs w2 := ⟨((Below.refl _ w1).alloc (Nat.le_refl _) _).grown hgrow2 (by simp) (fun k hk => by have e : w1.heap.size = k := Option.some.inj hk; omega), hown2⟩
  have HO2 := Hid.mk hO2
  clear hown2 hgrow2 hO2
  go_wp2_with (at_builtin; refine wpList_append_lies _ rfl _ _ 35 rfl w1.heap.size 29 i0 hz8 8 64 Try.underlying35 hi hz0 hz1 hz2 rfl (by decide) _ hs.length (hvs hs) rfl ?d0 ⟨w2.heap.size, 0, none⟩ 1 1 (hv h7) rfl rfl ?d1 ?d2 ?d3 ?d4 ?d5 ?d6 _ rfl ?_)
  case d0 => exact (HO2.out.alloc (.cells (hv h7).toArray 29)).row
  case d1 => exact World.news_of_block (heap_new' _ _ _ rfl)
  case d2 => exact hv_one _
  case d3 => omega
  case d4 => unfold maxLen; omega
  case d5 => omega
  case d6 => have := HO2.out.bel.size; simp; omega
  intro g cap3 w3 hown3 hgrow3 hat3 hlt3
  have hO3 := (HO2.out.alloc (.cells (hv h7).toArray 29)).push hown3 hgrow3
  obtain ⟨N, hN⟩ : ∃ N, hs.length = N := ⟨_, rfl⟩
  obtain ⟨X, hX⟩ : ∃ X, w1.heap.size = X := ⟨_, rfl⟩
  have HI3 : Hid (In w1 X (Rw g (N + 1) cap3 (hs ++ [h7])) w3) := by
    have h1 : OwH w3 0 (.slice (some ⟨g, 0, none⟩) (N + 1) cap3) (hs ++ [h7]) := by
      have := hO3.row.base (Nat.zero_le _)
      rw [hN] at this
      exact this
    have h2 : X ≤ g := by rw [← hX]; exact (World.ownsRow.lt hO3.row g rfl).1
    refine ⟨_, ⟨h1, by rw [List.length_append, hN]; rfl, rfl⟩, fun i hi => by have e : i = g := hi; omega, by rw [← hX]; exact hO3.bel, by rw [← hX]; exact hO3.bel.size⟩
  have hcp : N + 1 ≤ cap3 ∧ cap3 ≤ maxLen := by
    obtain ⟨S, hS, _⟩ := HI3.out
    exact hS.hds.2
  obtain ⟨hcp1, hcp2⟩ := hcp
  have hcp3 : (cap3 : Int) ≤ 9223372036854775807 := by unfold maxLen at hcp2; omega
  have HN := Hid.mk hN
  have HX := Hid.mk hX
  rw [hN] at hl ⊢
  have hcpI : (N : Int) ≤ (cap3 : Int) := by omega
  have hNI : (N : Int) < (N : Int) + 1 := by omega
  clear hown3 hgrow3 hat3 hlt3 hO3 HO2 HNews hN hX hcp2
  obtain ⟨F, hF⟩ : ∃ F, RF (rof hs) = F := ⟨_, rfl⟩
  have COf : Hid (∀ y, In w1 X (Rw g (N + 1) cap3 (hs ++ [h7])) y → Calls Try.prog 15 #[.slice (some ⟨g, 0, none⟩) N cap3] y fun e y' => ∃ b, e = .returned (.pointer (some ⟨b, 0, none⟩)) ∧ In w1 X (Sep (Rw g (N + 1) cap3 (hs ++ [h7])) (Bok b F N)) y') := fun y hy => by
    obtain ⟨S, hS, _⟩ := id hy
    have := of_in (cap := cap3) (Rw.stab _ _ _ _) hy hS.hds.1.pre (by rw [HN.out]; omega) HOK.out
    rw [HN.out, hF] at this
    exact this
  go_wp2_with (go_at_call 15; with_reducible refine (COf.out _ HI3.out).mono ?_; rintro e w4 ⟨b, rfl, h4⟩; have H4 := Hid.mk h4; clear h4)
  clear COf HI3
  have HVw : Hid (∀ y, Below X w1 y → Hds y (some A) hs) := fun y hy => (HV.out.below HB1.out).keep hy.size (fun ad _ hlt => hy.block _ (by rw [← HX.out]; exact hlt))
  go_loopg [26] N (fun k i wr => ∃ j : Nat, j + k = N ∧ i = .int .i64 j ∧ Hid (In w1 X (Sep (Rw g (N + 1) cap3 (ovr hs h3 j ++ [h7])) (Bok b F N)) wr))
  case atStart => exact ⟨0, by omega, rfl, by show In _ _ _ _; rw [show ovr hs h3 0 = hs from by simp [ovr]]; exact H4.out⟩
  case round =>
    clear H4
    obtain ⟨j, hk, rfl, HI⟩ := hrel
    obtain ⟨S1, hS1⟩ := HI.out.rw
    have hd1 := hS1.hds.1
    have fz := hS1.froz
    by_cases hlt : j < N
    · obtain ⟨k, rfl⟩ : ∃ k, gk = k + 1 := ⟨gk - 1, by omega⟩
      rcases HVw.out wr HI.out.bel with e0 | ⟨b', off, e0, _, hc⟩
      · have := HN.out; rw [e0] at this; simp at this; omega
      cases e0
      rcases hd1 with e1 | ⟨g', off', e1, _, hc1⟩
      · simp at e1
      cases e1
      obtain ⟨q0, q1, q2, q3, q4, q5, q6, q7⟩ := hc j (by rw [HN.out]; exact hlt)
      have hp := hc1 j (by rw [List.length_append, ovr_len _ _ (by rw [HN.out]; omega), HN.out]; omega)
      rw [ovr_at hs [h7] h3 (by rw [HN.out]; exact hlt), Nat.zero_add] at hp
      obtain ⟨p0, p1, p2, p3, p4, p5, p6, p7⟩ := hp
      have HSet : Hid (∀ y, In w1 X (Sep (Rw g (N + 1) cap3 (ovr hs h3 j ++ [h7])) (Bok b F N)) y → In w1 X (Sep (Rw g (N + 1) cap3 (ovr hs h3 (j + 1) ++ [h7])) (Bok b F N)) ((((((((y.setCell ⟨g, j * 8, none⟩ (.int .i64 0)).setCell ⟨g, j * 8 + 1, none⟩ (.int .i64 0)).setCell ⟨g, j * 8 + 2, none⟩ (.bool false)).setCell ⟨g, j * 8 + 3, none⟩ (.int .i64 3)).setCell ⟨g, j * 8 + 4, none⟩ (.int .i64 0)).setCell ⟨g, j * 8 + 5, none⟩ (.int .i64 0)).setCell ⟨g, j * 8 + 6, none⟩ (.int .i64 3)).setCell ⟨g, j * 8 + 7, none⟩ (.int .i32 3))) := fun y hy => by
        have := Rw.set8 (Bok.stab _ _ _) hy (j := j) (by omega) h3
        rw [ovr_set hs [h7] h3 (by rw [HN.out]; exact hlt)] at this
        exact this
      generalize hs.getD j hd0 = r at *
      obtain ⟨r0, r1, r2, r3, r4, r5, r6, r7⟩ := r
      dsimp only at q0 q1 q2 q3 q4 q5 q6 q7 p0 p1 p2 p3 p4 p5 p6 p7
      have hne := neq_hd r0 r1 r2 r3 r4 r5 r6 r7
      have hgd := fun x y w => run_eqGuard_agg (P := Try.prog) w BinOp.neq 29 x y #[.int .i64 r0, .int .i64 r1, .bool r2, .int .i64 r3, .int .i64 r4, .int .i64 r5, .int .i64 r6, .int .i32 r7] #[.int .i64 r0, .int .i64 r1, .bool r2, .int .i64 r3, .int .i64 r4, .int .i64 r5, .int .i64 r6, .int .i32 r7] Try.hdGuard
      have b1 : (0 : Int) ≤ (j : Int) := by omega
      have b2 : (j : Int) < (N : Int) := by omega
      have b3 : (j : Int) < (N : Int) + 1 := by omega
      have HKk := Hid.mk hk
      clear hc hc1 hk hS1
      go_wp2_with fail
      go_quiet (fail)
      go_wp2_with fail
      go_roundg k
      case measure => omega
      case rel => exact ⟨j + 1, by have := HKk.out; omega, by go_num, HSet.out _ (HI.out.call ((Rw.stab _ _ _ _).sep (Bok.stab _ _ _)) (bel_drewN _ _))⟩
    · have hlt' : ¬ (j : Int) < (N : Int) := by omega
      obtain rfl : j = N := by omega
      have c7 : wr.cell? ⟨g, j * 8, none⟩ = some (.int .i64 (-7)) := by
        rcases hd1 with e1 | ⟨g', off', e1, _, hc1⟩
        · simp at e1
        cases e1
        have hlo : (ovr hs h3 j).length = j := by rw [ovr_len _ _ (by rw [HN.out]; exact Nat.le_refl _), HN.out]
        have hp := hc1 j (by rw [List.length_append, hlo]; simp)
        have e2 : (ovr hs h3 j ++ [h7]).getD j hd0 = h7 := by
          rw [List.getD_eq_getElem?_getD, List.getElem?_append_right (by omega), hlo, Nat.sub_self]
          rfl
        rw [e2, Nat.zero_add] at hp
        exact hp.1
      have CRof : Hid (∀ y, In w1 X (Sep (Rw g (j + 1) cap3 (ovr hs h3 j ++ [h7])) (Bok b F j)) y → Calls Try.prog 16 #[.slice (some A) j cap] y fun e y' => ∃ c, e = .returned (.pointer (some ⟨c, 0, none⟩)) ∧ In w1 X (PB b c (rof hs) j) y') := fun y hy => by
        have h1 := rof_in (cap := cap) ((Rw.stab _ _ _ _).sep (Bok.stab _ _ _)) hy (HVw.out y hy.bel) (by rw [HN.out]; omega)
        rw [HN.out] at h1
        refine h1.mono ?_
        rintro e y' ⟨c, rfl, h2⟩
        refine ⟨c, rfl, ?_⟩
        have h3 := h2.pick23
        rw [← hF] at h3
        exact h3
      have H6 : Hid (R6 (rof hs)) := rof6 HOK.out
      have CAg : Hid (∀ (c : Nat) y, In w1 X (PB b c (rof hs) j) y → Calls Try.prog 13 #[.pointer (some ⟨b, 0, none⟩), .pointer (some ⟨c, 0, none⟩)] y fun e y' => e = .returned (.bool true) ∧ In w1 X (Bok b F j) y') := fun c y hy =>
        (pb_agree hy (by omega) (by have := rof_len hs; rw [HN.out] at this; omega) H6.out).mono fun e y' hh => ⟨hh.1, by have := hh.2.drop; rw [hF] at this; exact this⟩
      clear hk hS1 hd1 hlt hlt' fz hNI
      have hNI : (j : Int) < (j : Int) + 1 := by omega
      go_wp2_with (first
        | (go_at_call 16; with_reducible refine (CRof.out _ HI.out).mono ?_; rintro e w5 ⟨c, rfl, h5⟩; have H5 := Hid.mk h5; clear h5)
        | (go_at_call 13; with_reducible refine (CAg.out _ _ H5.out).mono ?_; rintro e w6 ⟨rfl, h6⟩; have HI6 := Hid.mk h6; clear h6))
      clear CRof CAg H5 HI c7
      go_loopg [8, 59] j (fun k o i wr => ∃ t : Nat, t + k = j ∧ i = .int .i64 t ∧ Hid (Oh w6 o (rfg below (hs.take t)) wr) ∧ Hid ((hs.take t).Pairwise (fun x y => x.b < y.b)))
      case atStart => exact ⟨0, by omega, rfl, ⟨Below.refl _ _, OwH.nil _ _⟩, List.Pairwise.nil⟩
      case round =>
        obtain ⟨t, hkt, rfl, HO, HRise⟩ := hrel
        have HIr : Hid (Below X w1 wr) := HI6.out.bel.trans (HO.out.bel.mono HI6.out.le)
        by_cases hlt : t < j
        · obtain ⟨k, rfl⟩ : ∃ k, gk = k + 1 := ⟨gk - 1, by omega⟩
          rcases HVw.out wr HIr.out with e0 | ⟨b', off, e0, _, hc⟩
          · have := HN.out; rw [e0] at this; simp at this; omega
          cases e0
          have htl : t < hs.length := by rw [HN.out]; exact hlt
          obtain ⟨q0, q1, q2, q3, q4, q5, q6, q7⟩ := hc t htl
          have HNx := Hid.mk (take_next hs hd0 htl)
          have HLe : Hid ((rfg below (hs.take t)).length ≤ t) := Nat.le_trans (rfg_len _ _) (by rw [List.length_take]; omega)
          have HS := Hid.mk (rfg_snoc below (hs.take t) (hs.getD t hd0))
          have HRn : Hid ((∀ y, (hs.take t).getLast? = some y → y.b < (hs.getD t hd0).b) → (hs.take (t + 1)).Pairwise (fun x y => x.b < y.b)) := fun h => by rw [HNx.out]; exact rise_snoc HRise.out h
          have HLast : Hid (∀ s, t = s + 1 → (hs.take t).getLast? = some (hs.getD s hd0) ∧ Eight wr b' (off + s * 8) (hs.getD s hd0)) := fun s e => by
            subst e
            exact ⟨last_take (by omega), hc s (by omega)⟩
          generalize hs.getD t hd0 = x at *
          obtain ⟨L, hL⟩ : ∃ L, rfg below (hs.take t) = L := ⟨_, rfl⟩
          rw [hL] at HO HS HLe
          obtain ⟨r0, r1, r2, r3, r4, r5, r6, r7⟩ := x
          dsimp only at q0 q1 q2 q3 q4 q5 q6 q7 HS HRn
          have b1 : (0 : Int) ≤ (t : Int) := by omega
          have b2 : (t : Int) < (j : Int) := by omega
          have HKk := Hid.mk hkt
          clear hc hL hkt htl HRise
          by_cases ht0 : t = 0
          · have HRs := Hid.mk (HRn.out (fun y hy => by rw [ht0] at hy; simp at hy))
            have t0 : ¬ (0 : Int) < (t : Int) := by omega
            have t0' : decide ((0 : Int) < (t : Int)) = false := by simpa using t0
            have t0n : decide (0 < t) = false := by simp; omega
            have t0m : ¬ 0 < t := by omega
            clear HRn HLast ht0
            go_wp2_with fail
            go_quiet (fail)
            by_cases hbe : below ≤ r0
            · rw [if_pos hbe] at HS
              go_wp2_with (at_builtin; refine wpList_append_own _ rfl _ _ 35 rfl w6.heap.size 29 i0 hz8 8 64 Try.underlying35 hi hz0 hz1 hz2 rfl (by decide) _ L.length (hvs L) rfl ?e0a ⟨wr.heap.size + 1, 0, none⟩ 1 1 (hv ⟨r0, r1, r2, r3, r4, r5, r6, r7⟩) rfl rfl ?e1a ?e2a ?e3a ?e4a ?e5a ?_)
              case e0a => exact (((HO.out.alloc (.cells #[.int .i64 r0, .int .i64 r1, .bool r2, .int .i64 r3, .int .i64 r4, .int .i64 r5, .int .i64 r6, .int .i32 r7] 29)).drewN nq).alloc (.cells (hv ⟨r0, r1, r2, r3, r4, r5, r6, r7⟩).toArray 29)).row
              case e1a => exact World.news_of_block (heap_new' _ _ _ (by simp))
              case e2a => exact hv_one _
              case e3a => have := HLe.out; unfold maxLen; omega
              case e4a => have := HLe.out; omega
              case e5a => have := HO.out.bel.size; simp; omega
              intro v' w7 hown7 hgrow7 _
              have HP := Hid.mk ((((HO.out.alloc (.cells #[.int .i64 r0, .int .i64 r1, .bool r2, .int .i64 r3, .int .i64 r4, .int .i64 r5, .int .i64 r6, .int .i32 r7] 29)).drewN nq).alloc (.cells (hv ⟨r0, r1, r2, r3, r4, r5, r6, r7⟩).toArray 29)).push hown7 hgrow7)
              clear hown7 hgrow7
              go_wp2_with fail
              go_roundg k
              case measure => omega
              case rel => exact ⟨t + 1, by have := HKk.out; omega, by go_num, by show Oh _ _ _ _; rw [HNx.out, HS.out]; exact HP.out, HRs⟩
            · rw [if_neg hbe] at HS
              go_wp2_with fail
              go_roundg k
              case measure => omega
              case rel => exact ⟨t + 1, by have := HKk.out; omega, by go_num, by show Oh _ _ _ _; rw [HNx.out, HS.out]; exact (HO.out.alloc (.cells #[.int .i64 r0, .int .i64 r1, .bool r2, .int .i64 r3, .int .i64 r4, .int .i64 r5, .int .i64 r6, .int .i32 r7] 29)).drewN _, HRs⟩
          · obtain ⟨s, hs'⟩ : ∃ s, t = s + 1 := ⟨t - 1, by omega⟩
            obtain ⟨hla, hei⟩ := HLast.out s hs'
            generalize hs.getD s hd0 = y at *
            obtain ⟨y0, y1, y2, y3, y4, y5, y6, y7⟩ := y
            have u0 := hei.1
            dsimp only at u0
            have HRn' : Hid (y0 < r0 → (hs.take (t + 1)).Pairwise (fun x y => x.b < y.b)) := fun h => HRn.out (fun z hz => by rw [hla] at hz; injection hz with hz; rw [← hz]; exact h)
            have t0 : (0 : Int) < (t : Int) := by omega
            have t0' : decide ((0 : Int) < (t : Int)) = true := by simpa using t0
            have t0n : decide (0 < t) = true := by simp; omega
            have t0m : 0 < t := by omega
            have tb : (t : Int) ≤ 2199023255488 := by omega
            have ts : (t : Int) - 1 = (s : Int) := by omega
            have s0 : (0 : Int) ≤ (s : Int) := by omega
            have s1 : (s : Int) < (j : Int) := by omega
            have s2 : s < j := by omega
            clear hei hla HRn HLast ht0 hs'
            by_cases hri : y0 < r0
            · have HRs := Hid.mk (HRn'.out hri)
              have hri' : ¬ r0 ≤ y0 := by omega
              have hri2 : decide (r0 ≤ y0) = false := by simpa using hri'
              clear HRn'
              go_wp2_with fail
              go_quiet (fail)
              by_cases hbe : below ≤ r0
              · rw [if_pos hbe] at HS
                go_wp2_with (at_builtin; refine wpList_append_own _ rfl _ _ 35 rfl w6.heap.size 29 i0 hz8 8 64 Try.underlying35 hi hz0 hz1 hz2 rfl (by decide) _ L.length (hvs L) rfl ?e0b ⟨wr.heap.size + 1, 0, none⟩ 1 1 (hv ⟨r0, r1, r2, r3, r4, r5, r6, r7⟩) rfl rfl ?e1b ?e2b ?e3b ?e4b ?e5b ?_)
                case e0b => exact (((HO.out.alloc (.cells #[.int .i64 r0, .int .i64 r1, .bool r2, .int .i64 r3, .int .i64 r4, .int .i64 r5, .int .i64 r6, .int .i32 r7] 29)).drewN nq).alloc (.cells (hv ⟨r0, r1, r2, r3, r4, r5, r6, r7⟩).toArray 29)).row
                case e1b => exact World.news_of_block (heap_new' _ _ _ (by simp))
                case e2b => exact hv_one _
                case e3b => have := HLe.out; unfold maxLen; omega
                case e4b => have := HLe.out; omega
                case e5b => have := HO.out.bel.size; simp; omega
                intro v' w7 hown7 hgrow7 _
                have HP := Hid.mk ((((HO.out.alloc (.cells #[.int .i64 r0, .int .i64 r1, .bool r2, .int .i64 r3, .int .i64 r4, .int .i64 r5, .int .i64 r6, .int .i32 r7] 29)).drewN nq).alloc (.cells (hv ⟨r0, r1, r2, r3, r4, r5, r6, r7⟩).toArray 29)).push hown7 hgrow7)
                clear hown7 hgrow7
                go_wp2_with fail
                go_roundg k
                case measure => omega
                case rel => exact ⟨t + 1, by have := HKk.out; omega, by go_num, by show Oh _ _ _ _; rw [HNx.out, HS.out]; exact HP.out, HRs⟩
              · rw [if_neg hbe] at HS
                go_wp2_with fail
                go_roundg k
                case measure => omega
                case rel => exact ⟨t + 1, by have := HKk.out; omega, by go_num, by show Oh _ _ _ _; rw [HNx.out, HS.out]; exact (HO.out.alloc (.cells #[.int .i64 r0, .int .i64 r1, .bool r2, .int .i64 r3, .int .i64 r4, .int .i64 r5, .int .i64 r6, .int .i32 r7] 29)).drewN _, HRs⟩
            · have hri' : r0 ≤ y0 := by omega
              have hri2 : decide (r0 ≤ y0) = true := by simpa using hri'
              clear HRn'
              go_wp2_with fail
              go_quiet (fail)
              go_wp2_with fail
              go_ret
              exact ⟨rfl, HB1.out.trans ((HIr.out.trans (((Below.refl _ wr).alloc (Nat.le_refl _) _).mono (by have := HO.out.bel.size; have := HI6.out.le; omega))).trans ((bel_drewN _ _).mono (by have := HO.out.bel.size; have := HI6.out.le; simp; omega)) |>.mono (by rw [← HX.out]; exact HB1.out.size))⟩
        · have hlt' : ¬ (t : Int) < (j : Int) := by omega
          obtain rfl : t = j := by omega
          have hT : hs.take t = hs := List.take_of_length_le (by rw [HN.out]; exact Nat.le_refl _)
          rw [hT] at HO HRise
          obtain ⟨a8, cap8, rfl, hd8, _⟩ := HO.out.row.hds
          obtain ⟨L, hL⟩ : ∃ L, rfg below hs = L := ⟨_, rfl⟩
          have hLn : L.length ≤ t := by rw [← hL]; have := rfg_len below hs; rw [HN.out] at this; exact this
          have HG : Hid (∀ q, fg below (F q) = RF (rof L) q) := fun q => by rw [← hL, ← hF]; exact forget_later HOK.out below HRise.out q
          have HLok : Hid (∀ x ∈ L, HdOk x) := fun x hx => by rw [← hL] at hx; exact HOK.out x (List.mem_filter.1 hx).1
          rw [hL] at HO ⊢
          have HIL : Hid (In w1 X (Sep (Bok b F t) (Rv (.slice a8 L.length cap8) L)) wr) := HI6.out.add (Bok.stab _ _ _) HO.out.bel ⟨HO.out.row.base (Nat.zero_le _), rfl⟩ (fun i hi => (World.ownsRow.lt HO.out.row i hi).1)
          have CFg : Hid (∀ y, In w1 X (Sep (Bok b F t) (Rv (.slice a8 L.length cap8) L)) y → Calls Try.prog 17 #[.pointer (some ⟨b, 0, none⟩), .int .i64 below] y fun e y' => (∃ g, e = .returned (.int .i64 g)) ∧ In w1 X (Sep (Bok b (RF (rof L)) t) (Rv (.slice a8 L.length cap8) L)) y') := fun y hy => In.turn (R := fun e => ∃ g, e = .returned (.int .i64 g)) hy (turn_left (Rv.stab _ _) (Bok.forgetAny below (by omega) HG.out))
          have CRo : Hid (∀ y, In w1 X (Sep (Bok b (RF (rof L)) t) (Rv (.slice a8 L.length cap8) L)) y → Calls Try.prog 16 #[.slice a8 L.length cap8] y fun e y' => ∃ c, e = .returned (.pointer (some ⟨c, 0, none⟩)) ∧ In w1 X (PB b c (rof L) t) y') := fun y hy => by
            have hdy : Hds y a8 L := by
              obtain ⟨S, ⟨h1, _⟩, _⟩ := hy.dropL
              obtain ⟨a9, cap9, e9, hd9, _⟩ := h1.hds
              injection e9 with e91
              rw [e91]
              exact hd9
            refine (rof_in (cap := cap8) ((Bok.stab _ _ _).sep (Rv.stab _ _)) hy hdy (by omega)).mono ?_
            rintro e y' ⟨c, rfl, h2⟩
            exact ⟨c, rfl, h2.pick13⟩
          have CAg : Hid (∀ (c : Nat) y, In w1 X (PB b c (rof L) t) y → Calls Try.prog 13 #[.pointer (some ⟨b, 0, none⟩), .pointer (some ⟨c, 0, none⟩)] y fun e y' => e = .returned (.bool true) ∧ In w1 X (PB b c (rof L) t) y') := fun c y hy => pb_agree hy (by omega) (by have := rof_len L; omega) (rof6 HLok.out)
          clear hkt hT hd8 hL HO hlt
          go_wp2_with (first
            | (go_at_call 17; with_reducible refine (CFg.out _ HIL.out).mono ?_; rintro e w8 ⟨⟨gv, rfl⟩, h8⟩; have H8 := Hid.mk h8; clear h8)
            | (go_at_call 16; with_reducible refine (CRo.out _ H8.out).mono ?_; rintro e w9 ⟨c9, rfl, h9⟩; have H9 := Hid.mk h9; clear h9)
            | (go_at_call 13; with_reducible refine (CAg.out _ _ H9.out).mono ?_; rintro e w10 ⟨rfl, h10⟩; have H10 := Hid.mk h10; clear h10))
          go_ret
          exact ⟨rfl, HB1.out.trans (H10.out.bel.mono (by rw [← HX.out]; exact HB1.out.size))⟩
end Go.Proofs.Ytolobmhbmajolaa
