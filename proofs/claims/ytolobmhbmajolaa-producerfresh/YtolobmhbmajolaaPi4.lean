/- agree: both books are the same, in all that is asked of them. -/
import Derived.Test.YtolobmhbmajolaaPi3
namespace Go.Proofs.Ytolobmhbmajolaa
open Go.RowKit
theorem iv_one (ps : List Int) : ∀ u ∈ ivs ps, u.oneCell' = true := by
  intro u hu
  obtain ⟨x, _, rfl⟩ := List.mem_map.1 hu
  rfl
theorem ids_b {l : List Hd} (ok : RbOk l) {ps : List Int} (h : Ids (RF l) ps) : ∀ q ∈ ps, 0 ≤ q := fun q hq => by
  obtain ⟨x, hx, rfl⟩ := rf_ne.1 ((h.mem q).1 hq)
  exact (ok.ok x hx).2.2
structure HdB (l : List Hd) : Prop where
  p1 : ∀ h ∈ l, h.p < 9223372036854775808
set_option maxHeartbeats 8000000 in
set_option maxRecDepth 60000 in
theorem agree_any (b c : Nat) (l : List Hd) (k : Nat) (hk : k ≤ 2199023255552) (hl : l.length ≤ 2199023255552) (h5 : R5 l) (hB : HdB l) (w : World) (S : Nat → Prop) (h : PB b c l k w S) :
    Calls Try.prog 13 #[.pointer (some ⟨b, 0, none⟩), .pointer (some ⟨c, 0, none⟩)] w fun e w' => e = .returned (.bool true) ∧ Below w.heap.size w w' := by
  obtain ⟨ps, hps⟩ : ∃ ps, Ids (RF l) ps := by
    obtain ⟨S', m, fs, hb, hF, _⟩ := h.b
    exact ⟨_, hb.pids hF⟩
  have hpl : ps.length ≤ 2199023255552 := by
    obtain ⟨S', m, fs, hb, hF, hfl, _⟩ := h.b
    rw [hps.uniq (hb.pids hF), List.length_map]
    omega
  have tr : ∀ {y z : World}, Below w.heap.size w y → Below y.heap.size y z → Below w.heap.size w z := fun h1 h2 => h1.trans (h2.mono h1.size)
  have CL1 : Hid (∀ y, Below w.heap.size w y → Calls Try.prog 28 #[.pointer (some ⟨b, 0, none⟩)] y fun e z => e = .returned (.int .i64 ps.length) ∧ Below w.heap.size w z) := fun y hy => by
    obtain ⟨S', m, fs, hb, hF, _⟩ := (h.at hy).b
    refine (blen_any b m fs y hb).mono ?_
    rintro e z ⟨rfl, rfl⟩
    exact ⟨by rw [hps.uniq (hb.pids hF), List.length_map], hy⟩
  have CL2 : Hid (∀ y, Below w.heap.size w y → Calls Try.prog 29 #[.pointer (some ⟨c, 0, none⟩)] y fun e z => e = .returned (.int .i64 ps.length) ∧ Below w.heap.size w z) := fun y hy => by
    obtain ⟨S', hb⟩ := (h.at hy).c
    refine (rlen_any c l y S' hb h5.ok hl).mono ?_
    rintro e z ⟨ps', rfl, hi, _, hz⟩
    exact ⟨by rw [hi.uniq hps], tr hy hz⟩
  have CP1 : Hid (∀ y, Below w.heap.size w y → Calls Try.prog 24 #[.pointer (some ⟨b, 0, none⟩)] y fun e z => ∃ (a : Option Addr) (cap : Nat), e = .returned (.slice a ps.length cap) ∧ Nms z a ps ∧ Below w.heap.size w z) := fun y hy => by
    obtain ⟨S', m, fs, hb, hF, hfl, _⟩ := (h.at hy).b
    refine (bprods_any b m fs (by omega) y hb).mono ?_
    rintro e z ⟨v, rfl, ho⟩
    rw [← hps.uniq (hb.pids hF)] at ho
    obtain ⟨a, cap, rfl, hn, _⟩ := ho.row.nms
    exact ⟨a, cap, rfl, hn, tr hy ho.bel⟩
  have CP2 : Hid (∀ y, Below w.heap.size w y → Calls Try.prog 23 #[.pointer (some ⟨c, 0, none⟩)] y fun e z => ∃ (a : Option Addr) (cap : Nat), e = .returned (.slice a ps.length cap) ∧ Oi y (.slice a ps.length cap) ps z ∧ Nms z a ps ∧ Below w.heap.size w z) := fun y hy => by
    obtain ⟨S', hb⟩ := (h.at hy).c
    refine (rprods_any c l y S' hb h5.ok hl).mono ?_
    rintro e z ⟨v, rfl, ps', ho, hi, _⟩
    rw [hi.uniq hps] at ho
    obtain ⟨a, cap, rfl, hn, _⟩ := ho.row.nms
    exact ⟨a, cap, rfl, ho, hn, tr hy ho.bel⟩
  have CSN : Hid (∀ y (a1 a2 : Option Addr) (cap1 cap2 : Nat), Below w.heap.size w y → Nms y a1 ps → Nms y a2 ps → Calls Try.prog 30 #[.slice a1 ps.length cap1, .slice a2 ps.length cap2] y fun e z => e = .returned (.bool true) ∧ Below w.heap.size w z) := fun y a1 a2 cap1 cap2 hy h1 h2 =>
    (sameNumbers_yes a1 a2 cap1 cap2 ps y (by omega) h1 h2).mono fun e z hh => ⟨hh.1, tr hy hh.2⟩
  have CN1 : Hid (∀ (q : Int) y, -1 ≤ q → q < 9223372036854775808 → Below w.heap.size w y → Calls Try.prog 18 #[.pointer (some ⟨b, 0, none⟩), .int .i64 q] y fun e z => e = .returned (.tuple #[.int .i32 (nxt (RF l q)), .bool (!(RF l q).isEmpty)]) ∧ Below y.heap.size y z) := fun q y q0 q1 hy => by
    obtain ⟨S', hb⟩ := (h.at hy).b
    exact hb.bo.next q (by omega) q1
  have CN2 : Hid (∀ (q : Int) y, Below w.heap.size w y → Calls Try.prog 31 #[.pointer (some ⟨c, 0, none⟩), .int .i64 q] y fun e z => e = .returned (.tuple #[.int .i32 (nxt (RF l q)), .bool (!(RF l q).isEmpty)]) ∧ Below y.heap.size y z) := fun q y hy => by
    obtain ⟨S', hb⟩ := (h.at hy).c
    exact rnext_any c l q y S' hb h5.ok hl
  have CB1 : Hid (∀ (q : Int) y, -1 ≤ q → q < 9223372036854775808 → Below w.heap.size w y → Calls Try.prog 22 #[.pointer (some ⟨b, 0, none⟩), .int .i64 q] y fun e z => ∃ (a : Option Addr) (cap : Nat), e = .returned (.slice a (bt l q).length cap) ∧ Hds z a (bt l q) ∧ Below y.heap.size y z) := fun q y q0 q1 hy => by
    obtain ⟨S', hb⟩ := (h.at hy).b
    refine (hb.bo.batches q (by omega) q1).mono ?_
    rintro e z ⟨v, rfl, ho⟩
    rw [heads_eq h5.ok] at ho
    obtain ⟨a, cap, rfl, hd, _⟩ := ho.row.hds
    exact ⟨a, cap, rfl, hd, ho.bel⟩
  have CB2 : Hid (∀ (q : Int) y, Below w.heap.size w y → Calls Try.prog 25 #[.pointer (some ⟨c, 0, none⟩), .int .i64 q] y fun e z => ∃ (a : Option Addr) (cap : Nat), e = .returned (.slice a (bt l q).length cap) ∧ Hds z a (bt l q) ∧ Below y.heap.size y z) := fun q y hy => by
    obtain ⟨S', hb⟩ := (h.at hy).c
    refine (rbatches_any c l q y S' hb hl).mono ?_
    rintro e z ⟨v, rfl, ho⟩
    obtain ⟨a, cap, rfl, hd, _⟩ := ho.row.hds
    exact ⟨a, cap, rfl, hd, ho.bel⟩
  have CSH : Hid (∀ (q : Int) y (a1 a2 : Option Addr) (cap1 cap2 : Nat), Hds y a1 (bt l q) → Hds y a2 (bt l q) → Calls Try.prog 21 #[.slice a1 (bt l q).length cap1, .slice a2 (bt l q).length cap2] y fun e z => e = .returned (.bool true) ∧ Below y.heap.size y z) := fun q y a1 a2 cap1 cap2 h1 h2 =>
    sameHeads_yes a1 a2 cap1 cap2 _ y (by have := bt_len l q; omega) h1 h2
  have CCk : Hid (∀ (q seq cnt : Int) y, -1 ≤ q → q < 9223372036854775808 → seq < 2147483648 → Below w.heap.size w y → Calls Try.prog 32 #[.pointer (some ⟨b, 0, none⟩), .pointer (some ⟨c, 0, none⟩), .int .i64 q, .int .i32 seq, .int .i64 cnt] y fun e z => e = .returned (.bool true) ∧ Below y.heap.size y z) := fun q seq cnt y q0 q1 hs hy => checked_any b c l k q seq cnt (by omega) q1 hs y S (h.at hy) h5 hl
  have HPQ : Hid (∀ q ∈ ps ++ [-1, 0, 7], -1 ≤ q ∧ q < 9223372036854775808) := fun q hq => by
    rcases List.mem_append.1 hq with hq | hq
    · refine ⟨by have := ids_b h5.ok hps q hq; omega, ?_⟩
      obtain ⟨x, hx, rfl⟩ := rf_ne.1 ((hps.mem q).1 hq)
      exact hB.p1 x hx
    · simp only [List.mem_cons, List.not_mem_nil, or_false] at hq
      rcases hq with rfl | rfl | rfl <;> omega
  have HOK := Hid.mk (fun q => h5.ok.bt q)
  have HBL := Hid.mk (fun q => bt_len l q)
  obtain ⟨i0, hi, hz0, hz1, hz2⟩ := info_parts Try.infoI
  have HPL : Hid (ps.length ≤ 2199023255552) := hpl
  have HTR : Hid (∀ {y z : World}, Below w.heap.size w y → Below y.heap.size y z → Below w.heap.size w z) := tr
  have hplI : (ps.length : Int) ≤ 2199023255552 := by omega
  clear h h5 hB hps tr
  go_enter Try.func13, Try.ntmps13
  go_wp2_with (first
    | (go_at_call 28; with_reducible refine (CL1.out _ (Below.refl _ _)).mono ?_; rintro e w1 ⟨rfl, hb1⟩; have HB1 := Hid.mk hb1; clear hb1)
    | (go_at_call 29; with_reducible refine (CL2.out _ HB1.out).mono ?_; rintro e w2 ⟨rfl, hb2⟩; have HB2 := Hid.mk hb2; clear hb2)
    | (go_at_call 24; with_reducible refine (CP1.out _ HB2.out).mono ?_; rintro e w3 ⟨a3, cap3, rfl, hn3, hb3⟩; have HN3 := Hid.mk hn3; have HB3 := Hid.mk hb3; clear hn3 hb3)
    | (go_at_call 23; with_reducible refine (CP2.out w3 HB3.out).mono ?_; rintro e w4 ⟨a4, cap4, rfl, ho4, hn4, hb4⟩; have HN34 := Hid.mk (HN3.out.below ho4.bel); have HN4 := Hid.mk hn4; have HB4 := Hid.mk hb4; clear ho4 hn4 hb4)
    | (go_at_call 30; with_reducible refine (CSN.out w4 _ _ _ _ HB4.out HN34.out HN4.out).mono ?_; rintro e w5 ⟨rfl, hb5⟩; have HB5 := Hid.mk hb5; clear hb5)
    | (go_at_call 23; with_reducible refine (CP2.out w5 HB5.out).mono ?_; rintro e w6 ⟨a6, cap6, rfl, ho6, _, hb6⟩; have HO6 := Hid.mk ho6; have HB6 := Hid.mk hb6; clear ho6 hb6)
    | (at_builtin; refine wpList_append_own _ rfl _ _ 56 rfl w5.heap.size 2 i0 (.int .i64 0) 1 8 Try.underlying56 hi hz0 hz1 hz2 rfl (by decide) _ ps.length (ivs ps) rfl ?c0 ⟨w6.heap.size, 0, none⟩ 3 3 (ivs [-1, 0, 7]) rfl rfl ?c1 ?c2 ?c3 ?c4 ?c5 ?_))
  case c0 => exact (HO6.out.alloc (.cells #[.int .i64 (-1), .int .i64 0, .int .i64 7] 2)).row
  case c1 => exact World.news_of_block (heap_new' _ _ _ rfl)
  case c2 => exact iv_one _
  case c3 => unfold maxLen; omega
  case c4 => omega
  case c5 => have := HO6.out.bel.size; simp; omega
  intro v' w7 hown7 hgrow7 _
  have hb67 : Below w5.heap.size w5 w7 := ((HO6.out.alloc (.cells #[.int .i64 (-1), .int .i64 0, .int .i64 7] 2)).bel).grown hgrow7 (by have := HO6.out.bel.size; simp; omega) (fun k hk => (World.ownsRow.lt (HO6.out.alloc (.cells #[.int .i64 (-1), .int .i64 0, .int .i64 7] 2)).row k hk).1)
  have HB7 : Hid (Below w.heap.size w w7) := HTR.out HB5.out hb67
  have hn7 : OwI w7 w5.heap.size v' (ps ++ [-1, 0, 7]) := by
    unfold OwI
    rw [List.length_append]
    have e : ivs (ps ++ [-1, 0, 7]) = ivs ps ++ ivs [-1, 0, 7] := by simp [ivs]
    rw [e]
    exact hown7
  obtain ⟨a7, cap7, rfl, hm7, _⟩ := hn7.nms
  have HM7 := Hid.mk hm7
  clear hown7 hgrow7 hb67 hn7 hm7 HO6 HB6 HN34 HN4 HB4 HN3 HB3 HB2 HB1 HB5
  obtain ⟨Q, hQ⟩ : ∃ Q, ps ++ [-1, 0, 7] = Q := ⟨_, rfl⟩
  rw [hQ] at HM7 HPQ ⊢
  have hQl : Q.length ≤ 2199023255555 := by rw [← hQ, List.length_append]; simp; omega
  have hQlI : (Q.length : Int) ≤ 2199023255555 := by omega
  clear hQ
  go_wp2_with fail
  go_loopg [36] Q.length (fun k i wr => ∃ (j : Nat), j + k = Q.length ∧ i = .int .i64 j ∧ Hid (Below w7.heap.size w7 wr))
  case atStart => exact ⟨0, by omega, rfl, Below.refl _ _⟩
  case round =>
    obtain ⟨j, hk, rfl, HR⟩ := hrel
    have HRw : Hid (Below w.heap.size w wr) := HTR.out HB7.out HR.out
    by_cases hlt : j < Q.length
    · obtain ⟨k, rfl⟩ : ∃ k, gk = k + 1 := ⟨gk - 1, by omega⟩
      rcases HM7.out.below HR.out with rfl | ⟨g, off, rfl, hbg, hc⟩
      · simp at hlt
      have q0 := hc j hlt
      have hqb := HPQ.out (Q.getD j 0) (by rw [List.getD_eq_getElem?_getD, List.getElem?_eq_getElem hlt]; exact List.getElem_mem _)
      generalize Q.getD j 0 = q at *
      obtain ⟨qb0, qb1⟩ := hqb
      have b1 : (0 : Int) ≤ (j : Int) := by omega
      have b2 : (j : Int) < (Q.length : Int) := by omega
      have HK := Hid.mk hk
      clear hc hbg hk
      have D1 := Hid.mk (CN1.out q · qb0 qb1)
      have D2 := Hid.mk (CN2.out q)
      have D3 := Hid.mk (CB2.out q)
      have D4 := Hid.mk (CB1.out q · qb0 qb1)
      have D5 := Hid.mk (CSH.out q)
      have D6 := Hid.mk (CCk.out q · · · qb0 qb1)
      have HOq := Hid.mk (HOK.out q)
      have hLq : ((bt l q).length : Int) ≤ 2199023255552 := by have := HBL.out q; omega
      generalize bt l q = L at *
      generalize nxt (RF l q) = NX at *
      generalize (!(RF l q).isEmpty) = NE at *
      go_wp2_with (first
        | (go_at_call 18; with_reducible refine (D1.out wr HRw.out).mono ?_; rintro e x1 ⟨rfl, hb1⟩; have HX1w := Hid.mk (HTR.out HRw.out hb1); have HX1 := Hid.mk (HR.out.trans (hb1.mono HR.out.size)); clear hb1)
        | (go_at_call 31; with_reducible refine (D2.out x1 HX1w.out).mono ?_; rintro e x2 ⟨rfl, hb2⟩; have HX2w := Hid.mk (HTR.out HX1w.out hb2); have HX2 := Hid.mk (HX1.out.trans (hb2.mono HX1.out.size)); clear hb2)
        | (go_at_call 25; with_reducible refine (D3.out x2 HX2w.out).mono ?_; rintro e x3 ⟨a3, cap3, rfl, hd3, hb3⟩; have HX3w := Hid.mk (HTR.out HX2w.out hb3); have HX3 := Hid.mk (HX2.out.trans (hb3.mono HX2.out.size)); have HD3 := Hid.mk hd3; clear hb3 hd3)
        | (go_at_call 22; with_reducible refine (D4.out x3 HX3w.out).mono ?_; rintro e x4 ⟨a4, cap4, rfl, hd4, hb4⟩; have HX4w := Hid.mk (HTR.out HX3w.out hb4); have HX4 := Hid.mk (HX3.out.trans (hb4.mono HX3.out.size)); have HD4 := Hid.mk hd4; have HD34 := Hid.mk (HD3.out.below hb4); clear hb4 hd4)
        | (go_at_call 21; with_reducible refine (D5.out x4 _ _ _ _ HD4.out HD34.out).mono ?_; rintro e x5 ⟨rfl, hb5⟩; have HX5w := Hid.mk (HTR.out HX4w.out hb5); have HX5 := Hid.mk (HX4.out.trans (hb5.mono HX4.out.size)); have HD5 := Hid.mk (HD34.out.below hb5); clear hb5))
      clear HX1 HX2 HX3 HX4 HX1w HX2w HX3w HX4w HD3 HD4 HD34 D1 D2 D3 D4 D5
      clear CL1 CL2 CP1 CP2 CSN CN1 CN2 CB1 CB2 CSH CCk HOK HBL
      go_loopg [73] L.length (fun k i wx => ∃ (t : Nat), t + k = L.length ∧ i = .int .i64 t ∧ Hid (Below x5.heap.size x5 wx))
      case atStart => exact ⟨0, by omega, rfl, Below.refl _ _⟩
      case round =>
        obtain ⟨t, hkt, rfl, HY⟩ := hrel
        have HYw : Hid (Below w.heap.size w wr) := HTR.out HX5w.out HY.out
        by_cases htl : t < L.length
        · obtain ⟨k2, rfl⟩ : ∃ k2, gk = k2 + 1 := ⟨gk - 1, by omega⟩
          rcases HD5.out.below HY.out with rfl | ⟨g2, off2, rfl, hbg2, hc2⟩
          · simp at htl
          obtain ⟨p0, p1, p2, p3, p4, p5, p6, p7⟩ := hc2 t htl
          have hyk := HOq.out (L.getD t hd0) (by rw [List.getD_eq_getElem?_getD, List.getElem?_eq_getElem htl]; exact List.getElem_mem _)
          generalize L.getD t hd0 = z at *
          obtain ⟨z0, z1, z2, z3, z4, z5, z6, z7⟩ := z
          dsimp only at p0 p1 p2 p3 p4 p5 p6 p7
          have g1 : 1 ≤ z3 := hyk.c0
          have g2' : z3 ≤ 65536 := hyk.c1
          have g3 : z7 < 2147483648 := hyk.s1
          have b3 : (0 : Int) ≤ (t : Int) := by omega
          have b4 : (t : Int) < (L.length : Int) := by omega
          have HKt := Hid.mk hkt
          clear hc2 hbg2 hkt hyk
          have hal : Below wr.heap.size wr (wr.alloc (.cells #[.int .i64 z0, .int .i64 z1, .bool z2, .int .i64 z3, .int .i64 z4, .int .i64 z5, .int .i64 z6, .int .i32 z7] 29)) := (Below.refl _ wr).alloc (Nat.le_refl _) _
          have E1 : Hid (Calls Try.prog 32 #[.pointer (some ⟨b, 0, none⟩), .pointer (some ⟨c, 0, none⟩), .int .i64 q, .int .i32 z7, .int .i64 z3] (wr.alloc (.cells #[.int .i64 z0, .int .i64 z1, .bool z2, .int .i64 z3, .int .i64 z4, .int .i64 z5, .int .i64 z6, .int .i32 z7] 29)) fun e z => e = .returned (.bool true) ∧ z.cell? ⟨wr.heap.size, 3, none⟩ = some (.int .i64 z3) ∧ z.cell? ⟨wr.heap.size, 7, none⟩ = some (.int .i32 z7) ∧ Below wr.heap.size wr z) :=
            (D6.out z7 z3 _ g3 (HTR.out HYw.out hal)).mono fun e z hh => ⟨hh.1, (hh.2.cell (p := ⟨wr.heap.size, 3, none⟩) (by simp)).trans ((cell_of (heap_new wr _)).trans rfl), (hh.2.cell (p := ⟨wr.heap.size, 7, none⟩) (by simp)).trans ((cell_of (heap_new wr _)).trans rfl), hal.trans (hh.2.mono (by simp))⟩
          have E2 : Hid (∀ u, Below wr.heap.size wr u → Calls Try.prog 32 #[.pointer (some ⟨b, 0, none⟩), .pointer (some ⟨c, 0, none⟩), .int .i64 q, .int .i32 z7, .int .i64 (z3 + 1)] u fun e z => e = .returned (.bool true) ∧ Below wr.heap.size wr z) := fun u hu =>
            (D6.out z7 (z3 + 1) u g3 (HTR.out HYw.out hu)).mono fun e z hh => ⟨hh.1, hu.trans (hh.2.mono hu.size)⟩
          clear hal
          go_wp2_with (first
            | (go_at_call 32; with_reducible refine E1.out.mono ?_; rintro e v1 ⟨rfl, k3, k7, hv1⟩; have HV1 := Hid.mk hv1; clear hv1)
            | (go_at_call 32; with_reducible refine (E2.out v1 HV1.out).mono ?_; rintro e v2 ⟨rfl, hv2⟩; have HV2 := Hid.mk (HY.out.trans (hv2.mono HY.out.size)); clear hv2))
          go_roundg k2
          case measure => omega
          case rel => exact ⟨t + 1, by have := HKt.out; omega, by go_num, HV2⟩
        · have htl' : ¬ (t : Int) < (L.length : Int) := by omega
          clear hkt
          go_wp2_with fail
          go_roundg k
          case measure => omega
          case rel => exact ⟨j + 1, by have := HK.out; omega, by go_num, HX5.out.trans (HY.out.mono HX5.out.size)⟩
    · have hlt' : ¬ (j : Int) < (Q.length : Int) := by omega
      clear hk
      go_wp2_with fail
      go_ret
      exact ⟨rfl, HRw.out⟩
end Go.Proofs.Ytolobmhbmajolaa
