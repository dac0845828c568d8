/- ProducerPlays: its walk. -/
import Derived.Test.YtolobmhbmajolaaPi7
namespace Go.Proofs.Ytolobmhbmajolaa
open Go.RowKit
set_option maxHeartbeats 16000000 in
set_option maxRecDepth 80000 in
theorem plays_walk (os : List Oq) (a : Option Addr) (cap : Nat) (w : World) (V : Ops w a os) (hl : os.length ≤ 2199023255000) (hcp : os.length ≤ cap) (hcm : cap ≤ maxLen) (ok : ∀ x ∈ os, OqOk x) :
    Calls Try.prog 3 #[.slice a os.length cap] w fun e w' => e = .returned (.bool true) ∧ Below w.heap.size w w' := by
  have HK := Hid.mk knows_any
  have HNew := Hid.mk new_any
  have HRNew := Hid.mk rnew_any
  have HV := Hid.mk V
  have HOK := Hid.mk ok
  have hcapI : (cap : Int) ≤ 9223372036854775807 := by unfold maxLen at hcm; omega
  clear V ok hcm
  go_enter Try.func3, Try.ntmps3
  go_wp2_with (first | (go_at_call 8; with_reducible refine (HK.out w).mono ?_; rintro e w1 ⟨rfl, hb1⟩; have HB1 := Hid.mk hb1; clear hb1) | (go_at_call 9; with_reducible refine (HNew.out _).mono ?_; rintro e w2 ⟨rfl, rfl⟩) | (go_at_call 10; with_reducible refine (HRNew.out _).mono ?_; rintro e w2 ⟨rfl, rfl⟩))
  clear HNew HK HRNew
  have I0 : In w1 w1.heap.size (PB w1.heap.size (w1.heap.size + 1) [] 0) ((w1.alloc (.cells #[.map none] 60)).alloc (.cells #[.slice none 0 0] 65)) := by
    have h1 : In w1 w1.heap.size (Bok w1.heap.size (RF []) 0) (w1.alloc (.cells #[.map none] 60)) := ⟨_, (Bok.new w1).same (fun q => rfl), ft_new w1, (Below.refl _ w1).alloc (Nat.le_refl _) _, by simp⟩
    have h2 := h1.add (Bok.stab _ _ _) ((Below.refl _ _).alloc (Nat.le_refl _) (.cells #[.slice none 0 0] 65)) (RB.new _) (fun i hi => by have e : i = (w1.alloc (.cells #[.map none] 60)).heap.size := hi; omega)
    rw [World.size_alloc] at h2
    exact h2
  have HI0 := Hid.mk I0
  clear I0
  obtain ⟨X, hX⟩ : ∃ X, w1.heap.size = X := ⟨_, rfl⟩
  rw [hX] at HI0 ⊢
  have HX := Hid.mk hX
  clear hX
  generalize (w1.alloc (.cells #[.map none] 60)).alloc (.cells #[.slice none 0 0] 65) = w3 at *
  go_loopg [17] os.length (fun k i wr => ∃ (j : Nat) (l : List Hd), j + k = os.length ∧ i = .int .i64 j ∧ Hid (R6 l) ∧ Hid (l.length ≤ j) ∧ Hid (In w1 X (PB X (X + 1) l j) wr))
  case atStart => exact ⟨0, [], by omega, rfl, R6.nil, Nat.le_refl _, HI0⟩
  case round =>
    clear HI0
    obtain ⟨j, l, hk, rfl, HR, HLe, HI⟩ := hrel
    have HV1 : Hid (∀ y, Below X w1 y → Ops y a os) := fun y hy => (HV.out.below HB1.out).keep hy.size (fun ad _ hlt => hy.block _ (by rw [← HX.out]; exact hlt))
    by_cases hlt : j < os.length
    · obtain ⟨k, rfl⟩ : ∃ k, gk = k + 1 := ⟨gk - 1, by omega⟩
      rcases HV1.out wr HI.out.bel with rfl | ⟨b, off, rfl, hbl, hc⟩
      · simp at hlt
      obtain ⟨q0, q1, q2, q3, q4, q5, q6, q7, q8, q9⟩ := hc j hlt
      have hxk := HOK.out (os.getD j oq0) (by rw [List.getD_eq_getElem?_getD, List.getElem?_eq_getElem hlt]; exact List.getElem_mem _)
      generalize os.getD j oq0 = o at *
      have HG0 := Hid.mk (G1.new HI.out o)
      have HR' := Hid.mk (HR.out.stp hxk)
      have HL' : Hid ((stp l o).length ≤ j + 1) := by show _ ≤ _; have := stp_len l o; have := HLe.out; omega
      have CS : Hid (∀ y, G1 w1 X wr.heap.size l j o y → Calls Try.prog 14 #[.pointer (some ⟨X, 0, none⟩), .pointer (some ⟨X + 1, 0, none⟩), .agg (ov o)] y fun e y' => e = .returned (.bool true) ∧ G1 w1 X wr.heap.size (stp l o) (j + 1) o y') := fun y hy => hy.step hxk (by omega) (by have := HLe.out; omega) HR.out
      have CA : Hid (∀ y, G1 w1 X wr.heap.size (stp l o) (j + 1) o y → Calls Try.prog 13 #[.pointer (some ⟨X, 0, none⟩), .pointer (some ⟨X + 1, 0, none⟩)] y fun e y' => e = .returned (.bool true) ∧ G1 w1 X wr.heap.size (stp l o) (j + 1) o y') := fun y hy => hy.agree (by omega) (by have := HL'.out; omega) HR'.out
      have HBx : Hid (∀ y, G1 w1 X wr.heap.size l j o y → y.heap[wr.heap.size]? = some (.cells (ov o) 31 (0, 0))) := fun y hy => hy.box
      have hkd := hxk.k
      obtain ⟨kd, ⟨r0, r1, r2, r3, r4, r5, r6, r7⟩, n⟩ := o
      dsimp only at q0 q1 q2 q3 q4 q5 q6 q7 q8 q9 hkd
      have CS' : Hid (∀ y, G1 w1 X wr.heap.size l j ⟨kd, ⟨r0, r1, r2, r3, r4, r5, r6, r7⟩, n⟩ y → Calls Try.prog 14 #[.pointer (some ⟨X, 0, none⟩), .pointer (some ⟨X + 1, 0, none⟩), .agg #[.int .u8 kd, .int .i64 r0, .int .i64 r1, .bool r2, .int .i64 r3, .int .i64 r4, .int .i64 r5, .int .i64 r6, .int .i32 r7, .int .i64 n]] y fun e y' => e = .returned (.bool true) ∧ G1 w1 X wr.heap.size (stp l ⟨kd, ⟨r0, r1, r2, r3, r4, r5, r6, r7⟩, n⟩) (j + 1) ⟨kd, ⟨r0, r1, r2, r3, r4, r5, r6, r7⟩, n⟩ y') := CS
      have HG0' : Hid (G1 w1 X wr.heap.size l j ⟨kd, ⟨r0, r1, r2, r3, r4, r5, r6, r7⟩, n⟩ (wr.alloc (.cells #[.int .u8 kd, .int .i64 r0, .int .i64 r1, .bool r2, .int .i64 r3, .int .i64 r4, .int .i64 r5, .int .i64 r6, .int .i32 r7, .int .i64 n] 31))) := HG0
      have HBx' : Hid (∀ y, G1 w1 X wr.heap.size l j ⟨kd, ⟨r0, r1, r2, r3, r4, r5, r6, r7⟩, n⟩ y → y.heap[wr.heap.size]? = some (.cells #[.int .u8 kd, .int .i64 r0, .int .i64 r1, .bool r2, .int .i64 r3, .int .i64 r4, .int .i64 r5, .int .i64 r6, .int .i32 r7, .int .i64 n] 31 (0, 0))) := HBx
      clear CS HG0 HBx
      have hkI : (kd : Int) < 256 := by omega
      have b1 : (0 : Int) ≤ (j : Int) := by omega
      have b2 : (j : Int) < os.length := by omega
      have HKk := Hid.mk hk
      clear hbl hk hxk
      by_cases hm : kd % 5 = 3
      · have hmI : (kd : Int) % 5 = 3 := by omega
        have CC1 : Hid (∀ y, G1 w1 X wr.heap.size l j ⟨kd, ⟨r0, r1, r2, r3, r4, r5, r6, r7⟩, n⟩ y → Calls Try.prog 11 #[.pointer (some ⟨X, 0, none⟩)] y fun e y' => ∃ b2, e = .returned (.pointer (some ⟨b2, 0, none⟩)) ∧ In w1 X (Sep (Sep (PB X (X + 1) l j) (Bx wr.heap.size 31 (ov ⟨kd, ⟨r0, r1, r2, r3, r4, r5, r6, r7⟩, n⟩))) (Bok b2 (RF l) j)) y') := fun y hy => hy.clone1 (by omega)
        have CC2 : Hid (∀ (b2 : Nat) y, In w1 X (Sep (Sep (PB X (X + 1) l j) (Bx wr.heap.size 31 (ov ⟨kd, ⟨r0, r1, r2, r3, r4, r5, r6, r7⟩, n⟩))) (Bok b2 (RF l) j)) y → Calls Try.prog 12 #[.pointer (some ⟨X + 1, 0, none⟩)] y fun e y' => ∃ c2, e = .returned (.pointer (some ⟨c2, 0, none⟩)) ∧ G2 w1 X wr.heap.size l j ⟨kd, ⟨r0, r1, r2, r3, r4, r5, r6, r7⟩, n⟩ b2 c2 l j y') := fun b2 y hy => G1.clone2 hy (by have := HLe.out; omega)
        have CA2 : Hid (∀ (b2 c2 : Nat) (l2 : List Hd) (k2 : Nat) y, k2 ≤ 2199023255552 → l2.length ≤ 2199023255552 → R6 l2 → G2 w1 X wr.heap.size l j ⟨kd, ⟨r0, r1, r2, r3, r4, r5, r6, r7⟩, n⟩ b2 c2 l2 k2 y → Calls Try.prog 13 #[.pointer (some ⟨b2, 0, none⟩), .pointer (some ⟨c2, 0, none⟩)] y fun e y' => e = .returned (.bool true) ∧ G2 w1 X wr.heap.size l j ⟨kd, ⟨r0, r1, r2, r3, r4, r5, r6, r7⟩, n⟩ b2 c2 l2 k2 y') := fun b2 c2 l2 k2 y h1 h2 h3 hy => hy.agree h1 h2 h3
        have CA2' : Hid (∀ (b2 c2 : Nat) y, G2 w1 X wr.heap.size l j ⟨kd, ⟨r0, r1, r2, r3, r4, r5, r6, r7⟩, n⟩ b2 c2 l j y → Calls Try.prog 13 #[.pointer (some ⟨b2, 0, none⟩), .pointer (some ⟨c2, 0, none⟩)] y fun e y' => e = .returned (.bool true) ∧ G2 w1 X wr.heap.size l j ⟨kd, ⟨r0, r1, r2, r3, r4, r5, r6, r7⟩, n⟩ b2 c2 l j y') := fun b2 c2 y hy => CA2.out b2 c2 l j y (by omega) (by have := HLe.out; omega) HR.out hy
        have CS2 : Hid (∀ (b2 c2 : Nat) (l2 : List Hd) (k2 : Nat) (u : Oq) y, OqOk u → k2 < 2199023255552 → l2.length < 2199023255552 → R6 l2 → G2 w1 X wr.heap.size l j ⟨kd, ⟨r0, r1, r2, r3, r4, r5, r6, r7⟩, n⟩ b2 c2 l2 k2 y → Calls Try.prog 14 #[.pointer (some ⟨b2, 0, none⟩), .pointer (some ⟨c2, 0, none⟩), .agg (ov u)] y fun e y' => e = .returned (.bool true) ∧ G2 w1 X wr.heap.size l j ⟨kd, ⟨r0, r1, r2, r3, r4, r5, r6, r7⟩, n⟩ b2 c2 (stp l2 u) (k2 + 1) y') := fun b2 c2 l2 k2 u y hu h1 h2 h3 hy => hy.step u hu h1 h2 h3
        have HBo : Hid (wr.heap.size < wr.heap.size + 1) := Nat.lt_succ_self _
        obtain ⟨D, hD⟩ : ∃ D, j + 1 = D := ⟨_, rfl⟩
        have hDI : (j : Int) + 1 = (D : Int) := by omega
        obtain ⟨M, hM⟩ : ∃ M : Nat, min (os.length : Int) ((j : Int) + 4) = (M : Int) := ⟨(min (os.length : Int) ((j : Int) + 4)).toNat, by omega⟩
        have hMD : D ≤ M := by omega
        have hMl : M ≤ os.length := by omega
        have hMDI : (D : Int) ≤ (M : Int) := by omega
        have hMlI : (M : Int) ≤ (os.length : Int) := by omega
        have hMcI : (M : Int) ≤ (cap : Int) := by omega
        have hD0 : (0 : Int) ≤ (D : Int) := by omega
        have HDJ := Hid.mk hD
        have HM := Hid.mk hM
        clear hc HBo hD
        by_cases hcj : cap = D
        · subst hcj
          have hz : M - cap = 0 := by omega
          have hzI : (M : Int) - (cap : Int) = 0 := by omega
          go_wp2_with (first | (go_at_call 11; with_reducible refine (CC1.out _ HG0'.out).mono ?_; rintro e w4 ⟨b2, rfl, h4⟩; have H4 := Hid.mk h4; clear h4) | (go_at_call 12; with_reducible refine (CC2.out _ _ H4.out).mono ?_; rintro e w5 ⟨c2, rfl, h5⟩; have H5 := Hid.mk h5; clear h5) | (go_at_call 13; with_reducible refine (CA2'.out _ _ _ H5.out).mono ?_; rintro e w6 ⟨rfl, h6⟩; have H6 := Hid.mk h6; clear h6))
          clear q0 q1 q2 q3 q4 q5 q6 q7 q8 q9 HI HG0' H4 H5
          generalize wr.heap.size = B at *
          have CAz : Hid (∀ y, G2 w1 X B l j ⟨kd, ⟨r0, r1, r2, r3, r4, r5, r6, r7⟩, n⟩ b2 c2 l j y → Calls Try.prog 13 #[.pointer (some ⟨b2, 0, none⟩), .pointer (some ⟨c2, 0, none⟩)] y fun e y' => e = .returned (.bool true) ∧ G2 w1 X B l j ⟨kd, ⟨r0, r1, r2, r3, r4, r5, r6, r7⟩, n⟩ b2 c2 l j y') := fun y hy => CA2'.out b2 c2 y hy
          go_loopg [44] 0 (fun k i wx => i = .int .i64 0 ∧ wx = w6)
          case atStart => exact ⟨rfl, rfl⟩
          case round =>
            obtain ⟨rfl, rfl⟩ := hrel
            go_wp2_with (first
              | (go_at_call 13; with_reducible refine (CAz.out _ H6.out).mono ?_; rintro e w7 ⟨rfl, h7⟩; have H7 := Hid.mk h7.drop; obtain ⟨d0, d1, d2, d3, d4, d5, d6, d7, d8, d9⟩ := cells10' (HBx'.out _ h7.drop); clear h7)
              | (go_at_call 14; with_reducible refine (CS'.out _ H7.out).mono ?_; rintro e w8 ⟨rfl, h8⟩; have H8 := Hid.mk h8; clear h8)
              | (go_at_call 13; with_reducible refine (CA.out _ H8.out).mono ?_; rintro e w9 ⟨rfl, h9⟩; have H9 := Hid.mk h9; clear h9))
            go_roundg k
            case measure => omega
            case rel => exact ⟨j + 1, _, by have := HKk.out; omega, by go_num, HR', HL', H9.out.drop⟩
        · go_wp2_with (first | (go_at_call 11; with_reducible refine (CC1.out _ HG0'.out).mono ?_; rintro e w4 ⟨b2, rfl, h4⟩; have H4 := Hid.mk h4; clear h4) | (go_at_call 12; with_reducible refine (CC2.out _ _ H4.out).mono ?_; rintro e w5 ⟨c2, rfl, h5⟩; have H5 := Hid.mk h5; clear h5) | (go_at_call 13; with_reducible refine (CA2'.out _ _ _ H5.out).mono ?_; rintro e w6 ⟨rfl, h6⟩; have H6 := Hid.mk h6; clear h6))
          clear q0 q1 q2 q3 q4 q5 q6 q7 q8 q9 HI HG0' H4 H5
          generalize wr.heap.size = B at *
          obtain ⟨T, hT⟩ : ∃ T, M - D = T := ⟨_, rfl⟩
          rw [hT]
          have hTI : (T : Int) ≤ 3 := by have := HM.out; omega
          have HT : Hid (D + T ≤ os.length) := by show _ ≤ _; omega
          clear hT
          go_wp2_with fail
          go_loopg [44] T (fun k i wx => ∃ (t : Nat) (l2 : List Hd), t + k = T ∧ i = .int .i64 t ∧ Hid (R6 l2) ∧ Hid (l2.length ≤ j + t) ∧ Hid (G2 w1 X B l j ⟨kd, ⟨r0, r1, r2, r3, r4, r5, r6, r7⟩, n⟩ b2 c2 l2 (j + t) wx))
          case atStart => exact ⟨0, l, by omega, rfl, HR, HLe, H6⟩
          case round =>
            obtain ⟨t, l2, hkt, rfl, HR2, HL2, HG2⟩ := hrel
            by_cases htl : t < T
            · obtain ⟨k2, rfl⟩ : ∃ k2, gk = k2 + 1 := ⟨gk - 1, by omega⟩
              rcases HV1.out wr HG2.out.bel with e0 | ⟨b', off', e0, _, hc2⟩
              · rw [e0] at hlt; simp at hlt
              cases e0
              have hc3 := hc2 (D + t) (by have := HT.out; omega)
              rw [show off + (D + t) * 10 = off + D * 10 + t * 10 from by omega] at hc3
              obtain ⟨p0, p1, p2, p3, p4, p5, p6, p7, p8, p9⟩ := hc3
              have hu := HOK.out (os.getD (D + t) oq0) (by rw [List.getD_eq_getElem?_getD, List.getElem?_eq_getElem (by have := HT.out; omega)]; exact List.getElem_mem _)
              generalize os.getD (D + t) oq0 = u at *
              have HR3 := Hid.mk (HR2.out.stp hu)
              have HL3 : Hid ((stp l2 u).length ≤ j + (t + 1)) := by show _ ≤ _; have := stp_len l2 u; have := HL2.out; omega
              have CSu := Hid.mk (fun y hy => CS2.out b2 c2 l2 (j + t) u y hu (by omega) (by have := HL2.out; omega) HR2.out hy)
              obtain ⟨kd2, ⟨s0, s1, s2, s3, s4, s5, s6, s7⟩, n2⟩ := u
              dsimp only at p0 p1 p2 p3 p4 p5 p6 p7 p8 p9
              have CSv : Hid (∀ y, G2 w1 X B l j ⟨kd, ⟨r0, r1, r2, r3, r4, r5, r6, r7⟩, n⟩ b2 c2 l2 (j + t) y → Calls Try.prog 14 #[.pointer (some ⟨b2, 0, none⟩), .pointer (some ⟨c2, 0, none⟩), .agg #[.int .u8 kd2, .int .i64 s0, .int .i64 s1, .bool s2, .int .i64 s3, .int .i64 s4, .int .i64 s5, .int .i64 s6, .int .i32 s7, .int .i64 n2]] y fun e y' => e = .returned (.bool true) ∧ G2 w1 X B l j ⟨kd, ⟨r0, r1, r2, r3, r4, r5, r6, r7⟩, n⟩ b2 c2 (stp l2 ⟨kd2, ⟨s0, s1, s2, s3, s4, s5, s6, s7⟩, n2⟩) (j + t + 1) y') := CSu
              have HGa : Hid (G2 w1 X B l j ⟨kd, ⟨r0, r1, r2, r3, r4, r5, r6, r7⟩, n⟩ b2 c2 l2 (j + t) (wr.alloc (.cells #[.int .u8 kd2, .int .i64 s0, .int .i64 s1, .bool s2, .int .i64 s3, .int .i64 s4, .int .i64 s5, .int .i64 s6, .int .i32 s7, .int .i64 n2] 31))) := HG2.out.call (g2_stab _ _ _ _ _ _ _ _ _) ((Below.refl _ _).alloc (Nat.le_refl _) _)
              have b3 : (0 : Int) ≤ (t : Int) := by omega
              have b4 : (t : Int) < (T : Int) := by omega
              have HKt := Hid.mk hkt
              clear hc2 hu CSu hkt HG2
              go_wp2_with (go_at_call 14; with_reducible refine (CSv.out _ HGa.out).mono ?_; rintro e x1 ⟨rfl, hx1⟩; have HX1 := Hid.mk hx1; clear hx1)
              go_roundg k2
              case measure => omega
              case rel => exact ⟨t + 1, _, by have := HKt.out; omega, by go_num, HR3, HL3, by have := HX1.out; rw [Nat.add_assoc] at this; exact this⟩
            · have htl' : ¬ (t : Int) < (T : Int) := by omega
              have CAz : Hid (∀ y, G2 w1 X B l j ⟨kd, ⟨r0, r1, r2, r3, r4, r5, r6, r7⟩, n⟩ b2 c2 l2 (j + t) y → Calls Try.prog 13 #[.pointer (some ⟨b2, 0, none⟩), .pointer (some ⟨c2, 0, none⟩)] y fun e y' => e = .returned (.bool true) ∧ G2 w1 X B l j ⟨kd, ⟨r0, r1, r2, r3, r4, r5, r6, r7⟩, n⟩ b2 c2 l2 (j + t) y') := fun y hy => CA2.out b2 c2 l2 (j + t) y (by omega) (by have := HL2.out; omega) HR2.out hy
              clear hkt
              go_wp2_with (first
                | (go_at_call 13; with_reducible refine (CAz.out _ HG2.out).mono ?_; rintro e w7 ⟨rfl, h7⟩; have H7 := Hid.mk h7.drop; obtain ⟨d0, d1, d2, d3, d4, d5, d6, d7, d8, d9⟩ := cells10' (HBx'.out _ h7.drop); clear h7)
                | (go_at_call 14; with_reducible refine (CS'.out _ H7.out).mono ?_; rintro e w8 ⟨rfl, h8⟩; have H8 := Hid.mk h8; clear h8)
                | (go_at_call 13; with_reducible refine (CA.out _ H8.out).mono ?_; rintro e w9 ⟨rfl, h9⟩; have H9 := Hid.mk h9; clear h9))
              go_roundg k
              case measure => omega
              case rel => exact ⟨j + 1, _, by have := HKk.out; omega, by go_num, HR', HL', H9.out.drop⟩
      · have hmI : ¬ (kd : Int) % 5 = 3 := by omega
        clear hc
        go_wp2_with (first | (go_at_call 14; with_reducible refine (CS'.out _ HG0'.out).mono ?_; rintro e w4 ⟨rfl, h4⟩; have H4 := Hid.mk h4; clear h4) | (go_at_call 13; with_reducible refine (CA.out _ H4.out).mono ?_; rintro e w5 ⟨rfl, h5⟩; have H5 := Hid.mk h5; clear h5))
        go_roundg k
        case measure => omega
        case rel => exact ⟨j + 1, _, by have := HKk.out; omega, by go_num, HR', HL', H5.out.drop⟩
    · have hlt' : ¬ (j : Int) < os.length := by omega
      clear hk
      go_wp2_with fail
      go_ret
      exact ⟨rfl, HB1.out.trans (HI.out.bel.mono (by rw [← HX.out]; exact HB1.out.size))⟩
end Go.Proofs.Ytolobmhbmajolaa
