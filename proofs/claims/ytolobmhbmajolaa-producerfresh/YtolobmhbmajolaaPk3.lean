/- ProducerFresh: its walk. -/
import Derived.Test.YtolobmhbmajolaaPk2
import Derived.Test.YtolobmhbmajolaaPio
import Derived.Test.YtolobmhbmajolaaPi7
namespace Go.Proofs.Ytolobmhbmajolaa
open Go.RowKit
def h99 : Hd := ⟨0, 0, false, 99, 0, 0, 0, 0⟩
theorem oh_form {w y : World} {v : Value} {L : List Hd} (h : Oh w v L y) (hne : 0 < L.length) : ∃ g cp, v = .slice (some ⟨g, 0, none⟩) L.length cp := by
  rcases h.row.2 with ⟨_, e⟩ | ⟨g, cap, cur, e, _⟩
  · omega
  · exact ⟨g, cap, e⟩
theorem oi_form {w y : World} {v : Value} {L : List Int} (h : Oi w v L y) (hne : 0 < L.length) : ∃ g cp, v = .slice (some ⟨g, 0, none⟩) L.length cp := by
  rcases h.row.2 with ⟨_, e⟩ | ⟨g, cap, cur, e, _⟩
  · omega
  · exact ⟨g, cap, e⟩
theorem oh_rw {w y : World} {g cp N : Nat} {L : List Hd} (h : Oh w (.slice (some ⟨g, 0, none⟩) N cp) L y) (hL : L.length = N) : Rw g N cp L y (fun i => i = g) ∧ w.heap.size ≤ g := ⟨⟨h.row.base (Nat.zero_le _), hL, rfl⟩, (World.ownsRow.lt h.row g rfl).1⟩
theorem oi_ri {w y : World} {g cp N : Nat} {L : List Int} (h : Oi w (.slice (some ⟨g, 0, none⟩) N cp) L y) (hL : L.length = N) : Ri g N cp L y (fun i => i = g) ∧ w.heap.size ≤ g := ⟨⟨row_le h.row (Nat.zero_le _), hL, rfl⟩, (World.ownsRow.lt h.row g rfl).1⟩
/-- Two rows, apart. -/
theorem two_rows {w z1 z2 : World} {g1 c1 g2 c2 N : Nat} {L : List Hd} (h1 : Oh w (.slice (some ⟨g1, 0, none⟩) N c1) L z1) (h2 : Oh z1 (.slice (some ⟨g2, 0, none⟩) N c2) L z2) (hL : L.length = N) : In w w.heap.size (Sep (Rw g1 N c1 L) (Rw g2 N c2 L)) z2 := by
  obtain ⟨a1, a2⟩ := oh_rw h1 hL
  obtain ⟨b1, b2⟩ := oh_rw h2 hL
  have i1 : In w w.heap.size (Rw g1 N c1 L) z1 := ⟨_, a1, fun i hi => by have e : i = g1 := hi; omega, h1.bel, h1.bel.size⟩
  exact i1.add (Rw.stab _ _ _ _) h2.bel b1 (fun i hi => by have e : i = g2 := hi; omega)
set_option maxHeartbeats 16000000 in
set_option maxRecDepth 80000 in
theorem fresh_walk (hs : List Hd) (a : Option Addr) (cap : Nat) (os : List Oq) (a2 : Option Addr) (cap2 : Nat) (w : World) (V : Hds w a hs) (hl : hs.length ≤ 2199023255488) (ok : ∀ x ∈ hs, HdOk x) (V2 : Ops w a2 os) (hl2 : os.length ≤ 2199023255000) (ok2 : ∀ x ∈ os, OqOk x) :
    Calls Try.prog 7 #[.slice a hs.length cap, .slice a2 os.length cap2] w fun e w' => e = .returned (.bool true) ∧ Below w.heap.size w w' := by
  have HK := Hid.mk knows_any
  have HV := Hid.mk V
  have HV2 := Hid.mk V2
  have HOK := Hid.mk ok
  have HOK2 := Hid.mk ok2
  obtain ⟨l, hlo⟩ : ∃ l, rof hs = l := ⟨_, rfl⟩
  have H6 : Hid (R6 l) := by rw [← hlo]; exact rof6 ok
  have hll : l.length ≤ hs.length := by rw [← hlo]; exact rof_len hs
  have C1 : Hid (∀ y, Below w.heap.size w y → Calls Try.prog 15 #[.slice a hs.length cap] y fun e y' => ∃ b, e = .returned (.pointer (some ⟨b, 0, none⟩)) ∧ In y y.heap.size (Bok b (RF l) hs.length) y') := fun y hy => by rw [← hlo]; exact of_any hs a cap y (HV.out.below hy) (by omega) HOK.out
  have C2 : Hid (∀ (w0 : World) (b : Nat) y, Below w.heap.size w w0 → In w0 w0.heap.size (Bok b (RF l) hs.length) y → Calls Try.prog 16 #[.slice a hs.length cap] y fun e y' => ∃ c, e = .returned (.pointer (some ⟨c, 0, none⟩)) ∧ In w0 w0.heap.size (PB b c l hs.length) y') := fun w0 b y h0 hy => by
    rw [← hlo] at hy ⊢
    exact rof_in (Bok.stab _ _ _) hy (HV.out.below (h0.trans (hy.bel.mono h0.size))) (by omega)
  have C3 : Hid (∀ (w0 : World) (b c : Nat) y, In w0 w0.heap.size (PB b c l hs.length) y → Calls Try.prog 23 #[.pointer (some ⟨c, 0, none⟩)] y fun e y' => ∃ (a4 : Option Addr) (cap4 : Nat) (ps : List Int), e = .returned (.slice a4 ps.length cap4) ∧ Nms y' a4 ps ∧ Ids (RF l) ps ∧ ps.length ≤ l.length ∧ In w0 w0.heap.size (PB b c l hs.length) y') := fun w0 b c y hy => by
    obtain ⟨S, hS, _⟩ := id hy
    obtain ⟨S', hc⟩ := PB.c hS
    refine (rprods_any c l y S' hc H6.out.r.ok (by omega)).mono ?_
    rintro e y' ⟨v, rfl, ps, ho, hi, hn⟩
    obtain ⟨a4, cap4, rfl, hm, _⟩ := ho.row.nms
    exact ⟨a4, cap4, ps, rfl, hm, hi, hn, hy.call (PB.stab _ _ _ _) ho.bel⟩
  clear V V2 ok ok2 hlo
  obtain ⟨N0, hN0⟩ : ∃ N0, hs.length = N0 := ⟨_, rfl⟩
  rw [hN0] at C1 C2 C3 hl hll ⊢
  have HN0 := Hid.mk hN0
  clear hN0
  go_enter Try.func7, Try.ntmps7
  go_wp2_with (first
    | (go_at_call 8; with_reducible refine (HK.out w).mono ?_; rintro e w1 ⟨rfl, hb1⟩; have HB1 := Hid.mk hb1; clear hb1)
    | (go_at_call 15; with_reducible refine (C1.out _ HB1.out).mono ?_; rintro e w2 ⟨b, rfl, h2⟩; have H2 := Hid.mk h2; clear h2)
    | (go_at_call 16; with_reducible refine (C2.out w1 b _ HB1.out H2.out).mono ?_; rintro e w3 ⟨c, rfl, h3⟩; have H3 := Hid.mk h3; clear h3)
    | (go_at_call 23; with_reducible refine (C3.out w1 b c _ H3.out).mono ?_; rintro e w4 ⟨a4, cap4, ps, rfl, hm4, hi4, hn4, h4⟩; have HM4 := Hid.mk hm4; have HI4 := Hid.mk hi4; have HN4 := Hid.mk hn4; have H4 := Hid.mk h4; clear hm4 hi4 hn4 h4))
  clear HK C1 C2 C3 H2 H3
  have HPB : Hid (∃ S, ∀ y, Below w4.heap.size w4 y → PB b c l N0 y S) := by
    obtain ⟨S, hS, _⟩ := H4.out
    exact ⟨S, fun y hy => hS.at hy⟩
  have HB4 : Hid (Below w.heap.size w w4) := HB1.out.trans (H4.out.bel.mono HB1.out.size)
  obtain ⟨S, hSat⟩ := HPB.out
  have HSat := Hid.mk hSat
  have CB : Hid (∀ (q : Int) y, q ∈ ps → Below w4.heap.size w4 y → Calls Try.prog 22 #[.pointer (some ⟨b, 0, none⟩), .int .i64 q] y fun e z => ∃ g cp, e = .returned (.slice (some ⟨g, 0, none⟩) (bt l q).length cp) ∧ Oh y (.slice (some ⟨g, 0, none⟩) (bt l q).length cp) (bt l q) z) := fun q y hq hy => by
    obtain ⟨S', hb⟩ := (HSat.out y hy).b
    have hq1 : 0 ≤ q ∧ q < 9223372036854775808 := by
      obtain ⟨x, hx, rfl⟩ := rf_ne.1 ((HI4.out.mem q).1 hq)
      exact ⟨(H6.out.r.ok.ok x hx).2.2, H6.out.b.p1 x hx⟩
    refine (hb.bo.batches q (by omega) hq1.2).mono ?_
    rintro e z ⟨v, rfl, ho⟩
    rw [heads_eq H6.out.r.ok] at ho
    have hne : 0 < (bt l q).length := by
      have := (HI4.out.mem q).1 hq
      rw [← rf_len]
      exact List.length_pos_iff.2 this
    obtain ⟨g, cp, rfl⟩ := oh_form ho hne
    exact ⟨g, cp, rfl, ho⟩
  have CP : Hid (∀ y, 0 < ps.length → Below w4.heap.size w4 y → Calls Try.prog 24 #[.pointer (some ⟨b, 0, none⟩)] y fun e z => ∃ g cp, e = .returned (.slice (some ⟨g, 0, none⟩) ps.length cp) ∧ Oi y (.slice (some ⟨g, 0, none⟩) ps.length cp) ps z) := fun y hp hy => by
    obtain ⟨S', m, fs, hb, hF, hfl, _⟩ := (HSat.out y hy).b
    refine (bprods_any b m fs (by omega) y hb).mono ?_
    rintro e z ⟨v, rfl, ho⟩
    rw [← HI4.out.uniq (hb.pids hF)] at ho
    obtain ⟨g, cp, rfl⟩ := oi_form ho hp
    exact ⟨g, cp, rfl, ho⟩
  have CR : Hid (∀ (q : Int) y, Below w4.heap.size w4 y → Calls Try.prog 25 #[.pointer (some ⟨c, 0, none⟩), .int .i64 q] y fun e z => ∃ (a : Option Addr) (cap : Nat), e = .returned (.slice a (bt l q).length cap) ∧ Hds z a (bt l q) ∧ Below y.heap.size y z) := fun q y hy => by
    obtain ⟨S', hb⟩ := (HSat.out y hy).c
    refine (rbatches_any c l q y S' hb (by omega)).mono ?_
    rintro e z ⟨v, rfl, ho⟩
    obtain ⟨a, cap, rfl, hd, _⟩ := ho.row.hds
    exact ⟨a, cap, rfl, hd, ho.bel⟩
  have CAg : Hid (∀ y, Below w4.heap.size w4 y → Calls Try.prog 13 #[.pointer (some ⟨b, 0, none⟩), .pointer (some ⟨c, 0, none⟩)] y fun e z => e = .returned (.bool true) ∧ Below y.heap.size y z) := fun y hy => agree_any b c l N0 (by omega) (by omega) H6.out.r H6.out.b y S (HSat.out y hy)
  have hpsI : (ps.length : Int) ≤ 2199023255488 := by have := HN4.out; omega
  have HFive : Hid (∀ q, (bt l q).length ≤ 5) := fun q => by rw [← rf_len]; exact H6.out.r.five q
  clear hSat HPB H4 hll
  go_loopg [33] ps.length (fun k i wr => ∃ j : Nat, j + k = ps.length ∧ i = .int .i64 j ∧ Hid (Below w4.heap.size w4 wr))
  case atStart => exact ⟨0, by omega, rfl, Below.refl _ _⟩
  case round =>
    obtain ⟨j, hk, rfl, HY⟩ := hrel
    by_cases hlt : j < ps.length
    · obtain ⟨k, rfl⟩ : ∃ k, gk = k + 1 := ⟨gk - 1, by omega⟩
      rcases HM4.out.below HY.out with e0 | ⟨g4, off, rfl, _, hc⟩
      · rw [e0] at hlt; simp at hlt
      have q0 := hc j hlt
      have hqm : ps.getD j 0 ∈ ps := by rw [List.getD_eq_getElem?_getD, List.getElem?_eq_getElem hlt]; exact List.getElem_mem _
      generalize ps.getD j 0 = q at *
      have D1 := Hid.mk (fun y hy => CB.out q y hqm hy)
      have D2 := Hid.mk (fun y hy => CP.out y (by omega) hy)
      have D3 := Hid.mk (CR.out q)
      have hf5 := HFive.out q
      obtain ⟨L, hL⟩ : ∃ L, bt l q = L := ⟨_, rfl⟩
      rw [hL] at D1 D3 hf5
      obtain ⟨N, hN⟩ : ∃ N, L.length = N := ⟨_, rfl⟩
      rw [hN] at D1 D3 hf5
      have HNL := Hid.mk hN
      have b1 : (0 : Int) ≤ (j : Int) := by omega
      have b2 : (j : Int) < ps.length := by omega
      have HKk := Hid.mk hk
      clear hc hk hqm hL hN
      go_wp2_with (first
        | (go_at_call 22; with_reducible refine (D1.out wr HY.out).mono ?_; rintro e z1 ⟨g1, cp1, rfl, ho1⟩; have HZ1 := Hid.mk (HY.out.trans (ho1.bel.mono HY.out.size)); have HO1 := Hid.mk ho1; clear ho1)
        | (go_at_call 22; with_reducible refine (D1.out z1 HZ1.out).mono ?_; rintro e z2 ⟨g2, cp2, rfl, ho2⟩; have HI2 := Hid.mk (two_rows HO1.out ho2 HNL.out); clear ho2))
      obtain ⟨W0, X0, HIn, HBW⟩ : ∃ (W0 : World) (X0 : Nat), Hid (In W0 X0 (Sep (Rw g1 N cp1 L) (Rw g2 N cp2 L)) z2) ∧ Hid (∀ y, Below X0 W0 y → Below w4.heap.size w4 y) := ⟨wr, wr.heap.size, HI2, fun y hy => HY.out.trans (hy.mono HY.out.size)⟩
      have hNI : (N : Int) ≤ 5 := by omega
      clear HO1 HZ1 HI2 HY q0 D1
      go_loopg [45] N (fun k i wx => ∃ (t : Nat) (M : List Hd), t + k = N ∧ i = .int .i64 t ∧ Hid (M.length = N) ∧ Hid (In W0 X0 (Sep (Rw g1 N cp1 M) (Rw g2 N cp2 L)) wx))
      case atStart => exact ⟨0, L, by omega, rfl, HNL, HIn⟩
      case round =>
        clear HIn
        obtain ⟨t, M, hkt, rfl, HML, HI⟩ := hrel
        obtain ⟨S1, hS1⟩ := HI.out.rw
        by_cases htl : t < N
        · obtain ⟨k2, rfl⟩ : ∃ k2, gk = k2 + 1 := ⟨gk - 1, by omega⟩
          have fz := hS1.froz
          rcases hS1.hds.1 with e1 | ⟨g', off', e1, _, hc1⟩
          · have := HML.out; rw [e1] at this; simp at this; omega
          cases e1
          have hp := hc1 t (by rw [HML.out]; exact htl)
          rw [Nat.zero_add] at hp
          obtain ⟨p0, p1, p2, p3, p4, p5, p6, p7⟩ := hp
          have HSet : Hid (In W0 X0 (Sep (Rw g1 N cp1 (M.set t h99)) (Rw g2 N cp2 L)) ((((((((wr.setCell ⟨g1, t * 8, none⟩ (.int .i64 0)).setCell ⟨g1, t * 8 + 1, none⟩ (.int .i64 0)).setCell ⟨g1, t * 8 + 2, none⟩ (.bool false)).setCell ⟨g1, t * 8 + 3, none⟩ (.int .i64 99)).setCell ⟨g1, t * 8 + 4, none⟩ (.int .i64 0)).setCell ⟨g1, t * 8 + 5, none⟩ (.int .i64 0)).setCell ⟨g1, t * 8 + 6, none⟩ (.int .i64 0)).setCell ⟨g1, t * 8 + 7, none⟩ (.int .i32 0))) := Rw.set8 (Rw.stab _ _ _ _) HI.out htl h99
          generalize M.getD t hd0 = z at *
          obtain ⟨y0, y1, y2, y3, y4, y5, y6, y7⟩ := z
          dsimp only at p0 p1 p2 p3 p4 p5 p6 p7
          have b3 : (0 : Int) ≤ (t : Int) := by omega
          have b4 : (t : Int) < (N : Int) := by omega
          have HKt := Hid.mk hkt
          clear hc1 hkt hS1
          go_wp2_with fail
          go_roundg k2
          case measure => omega
          case rel => exact ⟨t + 1, M.set t h99, by have := HKt.out; omega, by go_num, by show _ = _; rw [List.length_set]; exact HML.out, HSet⟩
        · have htl' : ¬ (t : Int) < (N : Int) := by omega
          obtain ⟨v20, w20, hap, hch⟩ := append20 wr g1 N cp1 M (by omega) hS1.1 HML.out
          have HIR := Hid.mk (HI.out.rough (Rw.stab _ _ _ _) hch)
          have HB20 : Hid (Below w4.heap.size w4 w20) := HBW.out _ HIR.out.bel
          have HAP := Hid.mk hap
          clear hkt hS1 hch hap
          go_wp2_with (first | (at_builtin; refine wpList_append_run rfl _ _ 35 3 rfl _ _ v20 rfl rfl HAP.out ?_) | (go_at_call 24; with_reducible refine (D2.out w20 HB20.out).mono ?_; rintro e z3 ⟨g3, cp3, rfl, ho3⟩; have HI3 := Hid.mk (HIR.out.add ((Emp.stab _).sep (Rw.stab _ _ _ _)) ho3.bel (oi_ri ho3 rfl).1 (fun i hi => by have e : i = g3 := hi; have := (oi_ri ho3 rfl).2; omega)); clear ho3))
          clear HI HIR HB20 HAP
          go_loopg [59] ps.length (fun k i wx => ∃ (u : Nat) (M : List Int), u + k = ps.length ∧ i = .int .i64 u ∧ Hid (In W0 X0 (Sep (Sep (Emp g1) (Rw g2 N cp2 L)) (Ri g3 ps.length cp3 M)) wx))
          case atStart => exact ⟨0, ps, by omega, rfl, HI3⟩
          case round =>
            clear HI3
            obtain ⟨u, M2, hku, rfl, HI⟩ := hrel
            by_cases hul : u < ps.length
            · obtain ⟨k2, rfl⟩ : ∃ k2, gk = k2 + 1 := ⟨gk - 1, by omega⟩
              obtain ⟨S3, hS3, _⟩ := HI.out.dropL
              obtain ⟨hnm, fz⟩ := hS3.nms
              have p0 := hnm u hul
              have HSet := Hid.mk (Ri.set ((Emp.stab _).sep (Rw.stab _ _ _ _)) HI.out u 99)
              have b3 : (0 : Int) ≤ (u : Int) := by omega
              have b4 : (u : Int) < (ps.length : Int) := by omega
              have HKu := Hid.mk hku
              clear hku hS3 hnm
              go_wp2_with fail
              go_roundg k2
              case measure => omega
              case rel => exact ⟨u + 1, _, by have := HKu.out; omega, by go_num, HSet⟩
            · have hul' : ¬ (u : Int) < (ps.length : Int) := by omega
              have HBx : Hid (Below w4.heap.size w4 wr) := HBW.out _ HI.out.bel
              have HDy : Hid (∀ z, Below wr.heap.size wr z → Hds z (some ⟨g2, 0, none⟩) L) := fun z hz => by
                have h1 := HI.out.call (((Emp.stab _).sep (Rw.stab _ _ _ _)).sep (Ri.stab _ _ _ _)) hz
                obtain ⟨S5, hS5, _⟩ := h1.drop.dropL
                exact hS5.hds.1
              have CSH : Hid (∀ z (a9 : Option Addr) (cap9 : Nat), Below wr.heap.size wr z → Hds z a9 L → Calls Try.prog 21 #[.slice (some ⟨g2, 0, none⟩) N cp2, .slice a9 N cap9] z fun e z' => e = .returned (.bool true) ∧ Below wr.heap.size wr z') := fun z a9 cap9 hz hd => by
                have := sameHeads_yes (some ⟨g2, 0, none⟩) a9 cp2 cap9 L z (by rw [HNL.out]; omega) (HDy.out z hz) hd
                rw [HNL.out] at this
                exact this.mono fun e z' hh => ⟨hh.1, hz.trans (hh.2.mono hz.size)⟩
              clear hku
              go_wp2_with (first
                | (go_at_call 25; with_reducible refine (D3.out wr HBx.out).mono ?_; rintro e y1 ⟨a9, cap9, rfl, hd9, hb9⟩; have HD9 := Hid.mk hd9; have HB9 := Hid.mk hb9; clear hd9 hb9)
                | (go_at_call 21; with_reducible refine (CSH.out _ _ _ HB9.out HD9.out).mono ?_; rintro e y2 ⟨rfl, hb10⟩; have HB10 := Hid.mk (HBx.out.trans (hb10.mono HBx.out.size)); clear hb10)
                | (go_at_call 13; with_reducible refine (CAg.out _ HB10.out).mono ?_; rintro e y3 ⟨rfl, hb11⟩; have HB11 := Hid.mk (HB10.out.trans (hb11.mono HB10.out.size)); clear hb11))
              go_roundg k
              case measure => omega
              case rel => exact ⟨j + 1, by have := HKk.out; omega, by go_num, HB11⟩
    · have hlt' : ¬ (j : Int) < ps.length := by omega
      clear hk CB CP CR CAg HSat HFive
      have HRNew := Hid.mk rnew_any
      go_wp2_with (go_at_call 10; with_reducible refine (HRNew.out _).mono ?_; rintro e w5 ⟨rfl, rfl⟩)
      obtain ⟨W8, X, HI8, HB8⟩ : ∃ (W8 : World) (X : Nat), Hid (In W8 X (PB wr.heap.size (wr.heap.size + 1) [] 0) ((wr.alloc (.cells #[.map none] 60)).alloc (.cells #[.slice none 0 0] 65)) ∧ X = wr.heap.size) ∧ Hid (∀ y, Below X W8 y → Below w.heap.size w y) := by
        refine ⟨wr, wr.heap.size, ⟨?_, rfl⟩, fun y hy => (HB4.out.trans (HY.out.mono HB4.out.size)).trans (hy.mono (by have := HB4.out.size; have := HY.out.size; omega))⟩
        have h1 : In wr wr.heap.size (Bok wr.heap.size (RF []) 0) (wr.alloc (.cells #[.map none] 60)) := ⟨_, (Bok.new wr).same (fun q => rfl), ft_new wr, (Below.refl _ wr).alloc (Nat.le_refl _) _, by simp⟩
        have h2 := h1.add (Bok.stab _ _ _) ((Below.refl _ _).alloc (Nat.le_refl _) (.cells #[.slice none 0 0] 65)) (RB.new _) (fun i hi => by have e : i = (wr.alloc (.cells #[.map none] 60)).heap.size := hi; omega)
        rw [World.size_alloc] at h2
        exact h2
      obtain ⟨HIa, hX⟩ := HI8.out
      rw [← hX] at HIa ⊢
      have HI9 := Hid.mk HIa
      clear HI8 HIa hX HRNew
      generalize (wr.alloc (.cells #[.map none] 60)).alloc (.cells #[.slice none 0 0] 65) = w9 at *
      go_loopg [84] os.length (fun k i wx => ∃ (j8 : Nat) (l2 : List Hd), j8 + k = os.length ∧ i = .int .i64 j8 ∧ Hid (R6 l2) ∧ Hid (l2.length ≤ j8) ∧ Hid (In W8 X (PB X (X + 1) l2 j8) wx))
      case atStart => exact ⟨0, [], by omega, rfl, R6.nil, Nat.le_refl _, HI9⟩
      case round =>
        clear HI9
        obtain ⟨j8, l2, hk8, rfl, HR, HLe, HI⟩ := hrel
        by_cases hlt8 : j8 < os.length
        · obtain ⟨k, rfl⟩ : ∃ k, gk = k + 1 := ⟨gk - 1, by omega⟩
          rcases HV2.out.below (HB8.out _ HI.out.bel) with e0 | ⟨b5, off, rfl, _, hc⟩
          · rw [e0] at hlt8; simp at hlt8
          obtain ⟨q0, q1, q2, q3, q4, q5, q6, q7, q8, q9⟩ := hc j8 hlt8
          have hxk := HOK2.out (os.getD j8 oq0) (by rw [List.getD_eq_getElem?_getD, List.getElem?_eq_getElem hlt8]; exact List.getElem_mem _)
          generalize os.getD j8 oq0 = o at *
          have HG0 := Hid.mk (G1.new HI.out o)
          have HR' := Hid.mk (HR.out.stp hxk)
          have HL' : Hid ((stp l2 o).length ≤ j8 + 1) := by show _ ≤ _; have := stp_len l2 o; have := HLe.out; omega
          obtain ⟨kd, ⟨r0, r1, r2, r3, r4, r5, r6, r7⟩, n⟩ := o
          dsimp only at q0 q1 q2 q3 q4 q5 q6 q7 q8 q9
          obtain ⟨B, hB⟩ : ∃ B, wr.heap.size = B := ⟨_, rfl⟩
          rw [hB] at HG0
          have HG0 : Hid (G1 W8 X B l2 j8 ⟨kd, ⟨r0, r1, r2, r3, r4, r5, r6, r7⟩, n⟩ (wr.alloc (.cells #[.int .u8 kd, .int .i64 r0, .int .i64 r1, .bool r2, .int .i64 r3, .int .i64 r4, .int .i64 r5, .int .i64 r6, .int .i32 r7, .int .i64 n] 31))) := HG0
          have hs7 : r7 < 2147483648 := hxk.h.s1
          have CS : Hid (∀ y, G1 W8 X B l2 j8 ⟨kd, ⟨r0, r1, r2, r3, r4, r5, r6, r7⟩, n⟩ y → Calls Try.prog 14 #[.pointer (some ⟨X, 0, none⟩), .pointer (some ⟨X + 1, 0, none⟩), .agg #[.int .u8 kd, .int .i64 r0, .int .i64 r1, .bool r2, .int .i64 r3, .int .i64 r4, .int .i64 r5, .int .i64 r6, .int .i32 r7, .int .i64 n]] y fun e y' => e = .returned (.bool true) ∧ G1 W8 X B (stp l2 ⟨kd, ⟨r0, r1, r2, r3, r4, r5, r6, r7⟩, n⟩) (j8 + 1) ⟨kd, ⟨r0, r1, r2, r3, r4, r5, r6, r7⟩, n⟩ y') := fun y hy => hy.step hxk (by omega) (by have := HLe.out; omega) HR.out
          have CA : Hid (∀ y, G1 W8 X B (stp l2 ⟨kd, ⟨r0, r1, r2, r3, r4, r5, r6, r7⟩, n⟩) (j8 + 1) ⟨kd, ⟨r0, r1, r2, r3, r4, r5, r6, r7⟩, n⟩ y → Calls Try.prog 13 #[.pointer (some ⟨X, 0, none⟩), .pointer (some ⟨X + 1, 0, none⟩)] y fun e y' => e = .returned (.bool true) ∧ G1 W8 X B (stp l2 ⟨kd, ⟨r0, r1, r2, r3, r4, r5, r6, r7⟩, n⟩) (j8 + 1) ⟨kd, ⟨r0, r1, r2, r3, r4, r5, r6, r7⟩, n⟩ y') := fun y hy => hy.agree (by omega) (by have := HL'.out; omega) HR'.out
          have HBx : Hid (∀ y, G1 W8 X B l2 j8 ⟨kd, ⟨r0, r1, r2, r3, r4, r5, r6, r7⟩, n⟩ y → y.heap[B]? = some (.cells #[.int .u8 kd, .int .i64 r0, .int .i64 r1, .bool r2, .int .i64 r3, .int .i64 r4, .int .i64 r5, .int .i64 r6, .int .i32 r7, .int .i64 n] 31 (0, 0))) := fun y hy => hy.box
          have CDr : Hid (∀ y, G1 W8 X B l2 j8 ⟨kd, ⟨r0, r1, r2, r3, r4, r5, r6, r7⟩, n⟩ y → G1 W8 X B l2 j8 ⟨kd, ⟨r0, r1, r2, r3, r4, r5, r6, r7⟩, n⟩ y.drew) := fun y hy => hy.call (g1_stab _ _ _ _ _) ⟨rfl, rfl, rfl, Nat.le_refl _, fun _ _ => rfl⟩
          have CNw : Hid (∀ y, G1 W8 X B l2 j8 ⟨kd, ⟨r0, r1, r2, r3, r4, r5, r6, r7⟩, n⟩ y → Calls Try.prog 10 #[] y fun e z => ∃ cN, e = .returned (.pointer (some ⟨cN, 0, none⟩)) ∧ In W8 X (Sep (Sep (PB X (X + 1) l2 j8) (Bx B 31 (ov ⟨kd, ⟨r0, r1, r2, r3, r4, r5, r6, r7⟩, n⟩))) (RB cN [])) z) := fun y hy => by
            refine (rnew_any y).mono ?_
            rintro e z ⟨rfl, rfl⟩
            exact ⟨_, rfl, hy.add (g1_stab _ _ _ _ _) ((Below.refl _ _).alloc (Nat.le_refl _) _) (RB.new y) (fun i hi => by have e : i = y.heap.size := hi; omega)⟩
          have CDn : Hid (∀ (cN : Nat) y, In W8 X (Sep (Sep (PB X (X + 1) l2 j8) (Bx B 31 (ov ⟨kd, ⟨r0, r1, r2, r3, r4, r5, r6, r7⟩, n⟩))) (RB cN [])) y → In W8 X (Sep (Sep (PB X (X + 1) l2 j8) (Bx B 31 (ov ⟨kd, ⟨r0, r1, r2, r3, r4, r5, r6, r7⟩, n⟩))) (RB cN [])) y.drew) := fun cN y hy => hy.call ((g1_stab _ _ _ _ _).sep (RB.stab _ _)) ⟨rfl, rfl, rfl, Nat.le_refl _, fun _ _ => rfl⟩
          have CRc : Hid (∀ (cN : Nat) y, In W8 X (Sep (Sep (PB X (X + 1) l2 j8) (Bx B 31 (ov ⟨kd, ⟨r0, r1, r2, r3, r4, r5, r6, r7⟩, n⟩))) (RB cN [])) y → Calls Try.prog 27 #[.pointer (some ⟨cN, 0, none⟩), .int .i64 r6, .int .i32 r7, .int .i64 r3] y fun e z => e = .returned (.tuple #[.int .i64 0, .int .i64 (ckN r6 r7 r3)]) ∧ G1 W8 X B l2 j8 ⟨kd, ⟨r0, r1, r2, r3, r4, r5, r6, r7⟩, n⟩ z) := fun cN y hy => by
            obtain ⟨S9, hS9, _⟩ := hy.dropL
            exact (rcheck_new cN r6 r7 r3 hs7 y S9 hS9).mono fun e z hh => ⟨hh.1, hy.drop.call (g1_stab _ _ _ _ _) hh.2⟩
          have CNk : Hid (∀ y, G1 W8 X B l2 j8 ⟨kd, ⟨r0, r1, r2, r3, r4, r5, r6, r7⟩, n⟩ y → Calls Try.prog 19 #[.pointer none, .int .i64 r6, .int .i32 r7, .int .i64 r3] y fun e z => e = .returned (.tuple #[.int .i64 0, .int .i64 (ckN r6 r7 r3)]) ∧ G1 W8 X B l2 j8 ⟨kd, ⟨r0, r1, r2, r3, r4, r5, r6, r7⟩, n⟩ z) := fun y hy => (ncheck_any r6 r7 r3 y).mono fun e z hh => ⟨hh.1, hy.call (g1_stab _ _ _ _ _) hh.2⟩
          have C4 : Hid (∀ y, G1 W8 X B l2 j8 ⟨kd, ⟨r0, r1, r2, r3, r4, r5, r6, r7⟩, n⟩ y → y.cell? ⟨B, 4, none⟩ = some (.int .i64 r3) ∧ y.cell? ⟨B, 7, none⟩ = some (.int .i64 r6) ∧ y.cell? ⟨B, 8, none⟩ = some (.int .i32 r7)) := fun y hy => ⟨(cell_of hy.box).trans rfl, (cell_of hy.box).trans rfl, (cell_of hy.box).trans rfl⟩
          have C4n : Hid (∀ (cN : Nat) y, In W8 X (Sep (Sep (PB X (X + 1) l2 j8) (Bx B 31 (ov ⟨kd, ⟨r0, r1, r2, r3, r4, r5, r6, r7⟩, n⟩))) (RB cN [])) y → y.cell? ⟨B, 4, none⟩ = some (.int .i64 r3) ∧ y.cell? ⟨B, 7, none⟩ = some (.int .i64 r6) ∧ y.cell? ⟨B, 8, none⟩ = some (.int .i32 r7)) := fun cN y hy => C4.out y hy.drop
          have CGa : Hid (∀ y, G1 W8 X B l2 j8 ⟨kd, ⟨r0, r1, r2, r3, r4, r5, r6, r7⟩, n⟩ y → Calls Try.prog 26 #[hdV r0 r1 r2 r3 r4 r5 r6 r7] y fun e z => e = .returned (.bool (goodB r0 r3 r6 r7)) ∧ G1 W8 X B l2 j8 ⟨kd, ⟨r0, r1, r2, r3, r4, r5, r6, r7⟩, n⟩ z) := fun y hy => (rgood_any r0 r1 r2 r3 r4 r5 r6 r7 y).mono fun e z hh => ⟨hh.1, hy.call (g1_stab _ _ _ _ _) hh.2⟩
          have CNa : Hid (∀ y, G1 W8 X B l2 j8 ⟨kd, ⟨r0, r1, r2, r3, r4, r5, r6, r7⟩, n⟩ y → Calls Try.prog 20 #[.pointer none, hdV r0 r1 r2 r3 r4 r5 r6 r7] y fun e z => e = .returned (.int .i64 (ntN ⟨r0, r1, r2, r3, r4, r5, r6, r7⟩)) ∧ G1 W8 X B l2 j8 ⟨kd, ⟨r0, r1, r2, r3, r4, r5, r6, r7⟩, n⟩ z) := fun y hy => (nnote_any ⟨r0, r1, r2, r3, r4, r5, r6, r7⟩ y).mono fun e z hh => ⟨hh.1, hy.call (g1_stab _ _ _ _ _) hh.2⟩
          have CNf := Hid.mk (nforget_any n)
          have CNl := Hid.mk nlen_any
          have CNp := Hid.mk nprods_any
          have CNc := Hid.mk nclone_any
          generalize ckN r6 r7 r3 = CK at *
          have b1 : (0 : Int) ≤ (j8 : Int) := by omega
          have b2 : (j8 : Int) < os.length := by omega
          have HKk8 := Hid.mk hk8
          clear hc hk8 hxk HI
          by_cases hgd : goodB r0 r3 r6 r7 = true
          · have CGd := CGa
            have CNn := CNa
            have e4 : ntN ⟨r0, r1, r2, r3, r4, r5, r6, r7⟩ = 4 := by unfold ntN; rw [if_pos hgd]
            rw [hgd] at CGd
            rw [e4] at CNn
            clear CGa CNa e4 hgd
            go_wp2_with (first
              | (go_at_call 26; with_reducible refine (CGd.out _ HG0.out).mono ?_; rintro e y1 ⟨rfl, h1⟩; obtain ⟨d0, d1, d2, d3, d4, d5, d6, d7, d8, d9⟩ := cells10' (HBx.out _ h1); have HY1 := Hid.mk h1; clear h1)
              | (go_at_call 19; with_reducible refine (CNk.out _ HY1.out).mono ?_; rintro e y2 ⟨rfl, h2⟩; have HY2 := Hid.mk h2; clear h2))
            clear d0 d1 d2 d3 d4 d5 d6 d7 d8 d9
            go_region_held3 (fun z => z.cell? ⟨B, 4, none⟩ = some (.int .i64 r3) ∧ z.cell? ⟨B, 7, none⟩ = some (.int .i64 r6) ∧ z.cell? ⟨B, 8, none⟩ = some (.int .i32 r7)) (first | with_reducible exact C4.out _ HY2.out | with_reducible exact C4.out _ (CDr.out _ HY2.out) | with_reducible exact C4n.out _ _ M1 | with_reducible exact C4n.out _ _ (CDn.out _ _ M1) | with_reducible exact C4.out _ M2 | with_reducible exact C4.out _ (CDr.out _ M2)) (first | (go_at_call 10; with_reducible refine (CNw.out _ ?_).mono ?_; (first | with_reducible exact HY2.out | with_reducible exact CDr.out _ HY2.out); rintro e y3 ⟨cN, rfl, M1⟩) | (go_at_call 27; with_reducible refine (CRc.out cN _ ?_).mono ?_; (first | with_reducible exact M1 | with_reducible exact CDn.out _ _ M1); rintro e y4 ⟨rfl, M2⟩))
            all_goals
              have HM2 := Hid.mk M2
              obtain ⟨d0, d1, d2, d3, d4, d5, d6, d7, d8, d9⟩ := cells10' (HBx.out _ HM2.out)
              clear M2
              go_wp2_with (first
                | (go_at_call 20; with_reducible refine (CNn.out _ HM2.out).mono ?_; rintro e y5 ⟨rfl, h5⟩; obtain ⟨e0, e1, e2, e3, e4, e5, e6, e7, e8, e9⟩ := cells10' (HBx.out _ h5); have HY5 := Hid.mk h5; clear h5)
                | (go_at_call 17; with_reducible refine (CNf.out _).mono ?_; rintro e y6 ⟨rfl, rfl⟩)
                | (go_at_call 28; with_reducible refine (CNl.out _).mono ?_; rintro e y6 ⟨rfl, rfl⟩)
                | (go_at_call 24; with_reducible refine (CNp.out _).mono ?_; rintro e y6 ⟨rfl, rfl⟩)
                | (go_at_call 11; with_reducible refine (CNc.out _).mono ?_; rintro e y6 ⟨rfl, rfl⟩)
                | (go_at_call 14; with_reducible refine (CS.out _ HY5.out).mono ?_; rintro e y7 ⟨rfl, h7⟩; have HY7 := Hid.mk h7; clear h7)
                | (go_at_call 13; with_reducible refine (CA.out _ HY7.out).mono ?_; rintro e y8 ⟨rfl, h8⟩; have HY8 := Hid.mk h8; clear h8))
              go_roundg k
              case measure => omega
              case rel => exact ⟨j8 + 1, _, by have := HKk8.out; omega, by go_num, HR', HL', HY8.out.drop⟩
          · have CGd := CGa
            have CNn := CNa
            have e4 : ntN ⟨r0, r1, r2, r3, r4, r5, r6, r7⟩ = 1 := by unfold ntN; rw [if_neg hgd]
            have hgf : goodB r0 r3 r6 r7 = false := by simpa using hgd
            rw [hgf] at CGd
            rw [e4] at CNn
            clear CGa CNa e4 hgd hgf
            go_wp2_with (first
              | (go_at_call 26; with_reducible refine (CGd.out _ HG0.out).mono ?_; rintro e y1 ⟨rfl, h1⟩; obtain ⟨d0, d1, d2, d3, d4, d5, d6, d7, d8, d9⟩ := cells10' (HBx.out _ h1); have HY1 := Hid.mk h1; clear h1)
              | (go_at_call 19; with_reducible refine (CNk.out _ HY1.out).mono ?_; rintro e y2 ⟨rfl, h2⟩; have HY2 := Hid.mk h2; clear h2))
            clear d0 d1 d2 d3 d4 d5 d6 d7 d8 d9
            go_region_held3 (fun z => z.cell? ⟨B, 4, none⟩ = some (.int .i64 r3) ∧ z.cell? ⟨B, 7, none⟩ = some (.int .i64 r6) ∧ z.cell? ⟨B, 8, none⟩ = some (.int .i32 r7)) (first | with_reducible exact C4.out _ HY2.out | with_reducible exact C4.out _ (CDr.out _ HY2.out) | with_reducible exact C4n.out _ _ M1 | with_reducible exact C4n.out _ _ (CDn.out _ _ M1) | with_reducible exact C4.out _ M2 | with_reducible exact C4.out _ (CDr.out _ M2)) (first | (go_at_call 10; with_reducible refine (CNw.out _ ?_).mono ?_; (first | with_reducible exact HY2.out | with_reducible exact CDr.out _ HY2.out); rintro e y3 ⟨cN, rfl, M1⟩) | (go_at_call 27; with_reducible refine (CRc.out cN _ ?_).mono ?_; (first | with_reducible exact M1 | with_reducible exact CDn.out _ _ M1); rintro e y4 ⟨rfl, M2⟩))
            all_goals
              have HM2 := Hid.mk M2
              obtain ⟨d0, d1, d2, d3, d4, d5, d6, d7, d8, d9⟩ := cells10' (HBx.out _ HM2.out)
              clear M2
              go_wp2_with (first
                | (go_at_call 20; with_reducible refine (CNn.out _ HM2.out).mono ?_; rintro e y5 ⟨rfl, h5⟩; obtain ⟨e0, e1, e2, e3, e4, e5, e6, e7, e8, e9⟩ := cells10' (HBx.out _ h5); have HY5 := Hid.mk h5; clear h5)
                | (go_at_call 17; with_reducible refine (CNf.out _).mono ?_; rintro e y6 ⟨rfl, rfl⟩)
                | (go_at_call 28; with_reducible refine (CNl.out _).mono ?_; rintro e y6 ⟨rfl, rfl⟩)
                | (go_at_call 24; with_reducible refine (CNp.out _).mono ?_; rintro e y6 ⟨rfl, rfl⟩)
                | (go_at_call 11; with_reducible refine (CNc.out _).mono ?_; rintro e y6 ⟨rfl, rfl⟩)
                | (go_at_call 14; with_reducible refine (CS.out _ HY5.out).mono ?_; rintro e y7 ⟨rfl, h7⟩; have HY7 := Hid.mk h7; clear h7)
                | (go_at_call 13; with_reducible refine (CA.out _ HY7.out).mono ?_; rintro e y8 ⟨rfl, h8⟩; have HY8 := Hid.mk h8; clear h8))
              go_roundg k
              case measure => omega
              case rel => exact ⟨j8 + 1, _, by have := HKk8.out; omega, by go_num, HR', HL', HY8.out.drop⟩
        · have hlt9 : ¬ (j8 : Int) < os.length := by omega
          clear hk8
          go_wp2_with fail
          go_ret
          exact ⟨rfl, HB8.out _ HI.out.bel⟩
end Go.Proofs.Ytolobmhbmajolaa
