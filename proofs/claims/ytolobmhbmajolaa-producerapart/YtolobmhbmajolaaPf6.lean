/- ProducerApart: its walk. -/
import Derived.Test.YtolobmhbmajolaaPf5
namespace Go.Proofs.Ytolobmhbmajolaa
open Go.RowKit
theorem two_stab (X Y : Nat) (F G : Int → List Nt) (k l : Nat) : Stab (Sep (Bok X F k) (Bok Y G l)) := (Bok.stab _ _ _).sep (Bok.stab _ _ _)
/-- Two books and a box. -/
abbrev T3 (w : World) (X Y B : Nat) (F G : Int → List Nt) (k l : Nat) (x : Hd) (y : World) : Prop := In w X (Sep (Sep (Bok X F k) (Bok Y G l)) (Box B x)) y
theorem T3.one {w : World} {X Y B : Nat} {F G : Int → List Nt} {k l : Nat} {x : Hd} {y : World} (h : T3 w X Y B F G k l x y) (z : Hd) (hz : HdOk z) (hl : l < 4611686018427387904) :
    Calls Try.prog 20 #[.pointer (some ⟨Y, 0, none⟩), hdA z] y fun e y' => e = .returned (.int .i64 (noteE z)) ∧ T3 w X Y B F (noteF G z) k (l + 1) x y' :=
  In.turn (R := fun e => e = .returned (.int .i64 (noteE z))) h (turn_left (Box.stab _ _) (turn_right (Bok.stab _ _ _) (Bok.note z hz hl)))
theorem T3.both {w : World} {X Y B : Nat} {F G : Int → List Nt} {k l : Nat} {x : Hd} {y : World} (h : T3 w X Y B F G k l x y) (z : Hd) (hz : HdOk z) (hl : k < 4611686018427387904) :
    Calls Try.prog 20 #[.pointer (some ⟨X, 0, none⟩), hdA z] y fun e y' => e = .returned (.int .i64 (noteE z)) ∧ T3 w X Y B (noteF F z) G (k + 1) l x y' :=
  In.turn (R := fun e => e = .returned (.int .i64 (noteE z))) h (turn_left (Box.stab _ _) (turn_left (Bok.stab _ _ _) (Bok.note z hz hl)))
theorem T3.put {w : World} {X Y B : Nat} {F G : Int → List Nt} {k l : Nat} {r0 r1 : Int} {r2 : Bool} {r3 r4 r5 p s : Int} {y : World} (h : T3 w X Y B F G k l ⟨r0, r1, r2, r3, r4, r5, p, s⟩ y) (p' s' : Int) :
    T3 w X Y B F G k l ⟨r0, r1, r2, r3, r4, r5, p', s'⟩ ((y.setCell ⟨B, 6, none⟩ (.int .i64 p')).setCell ⟨B, 7, none⟩ (.int .i32 s')) :=
  Box.set (x := ⟨r0, r1, r2, r3, r4, r5, p', s⟩) (two_stab _ _ _ _ _ _) (Box.set (two_stab _ _ _ _ _ _) h rfl) rfl
set_option maxHeartbeats 4000000 in
set_option maxRecDepth 40000 in
theorem apart_walk (hs : List Hd) (a : Option Addr) (cap : Nat) (p q : Nat) (w : World) (hp : p < 65536) (hq : q < 65536) (V : Hds w a hs) (hl : hs.length ≤ 140737488355328) (ok : ∀ x ∈ hs, HdOk1 x) :
    Calls Try.prog 6 #[.slice a hs.length cap, .int .u16 p, .int .u16 q] w fun e w' => e = .returned (.bool true) ∧ Below w.heap.size w w' := by
  have HK := Hid.mk knows_any
  have HNew := Hid.mk new_any
  have HV := Hid.mk V
  have HOK := Hid.mk ok
  clear V ok
  by_cases hpq : p = q
  · have hpqI : decide ((p : Int) = (q : Int)) = true := by simp [hpq]
    have hpqN : decide (p = q) = true := by simp [hpq]
    subst hpq
    go_enter Try.func6, Try.ntmps6
    go_wp2_with (first | (go_at_call 8; with_reducible refine (HK.out w).mono ?_; rintro e w1 ⟨rfl, hb1⟩; have HB1 := Hid.mk hb1; clear hb1) | (go_at_call 8; with_reducible refine (HK.out w1).mono ?_; rintro e w2 ⟨rfl, hb2⟩; have HB2 := Hid.mk hb2; clear hb2))
    go_ret
    exact ⟨rfl, HB1.out.trans (HB2.out.mono HB1.out.size)⟩
  · have hpqI : decide ((p : Int) = (q : Int)) = false := by simp; omega
    have hpqN : decide (p = q) = false := by simp [hpq]
    go_enter Try.func6, Try.ntmps6
    go_wp2_with (first | (go_at_call 8; with_reducible refine (HK.out w).mono ?_; rintro e w1 ⟨rfl, hb1⟩; have HB1 := Hid.mk hb1; clear hb1) | (go_at_call 9; with_reducible refine (HNew.out _).mono ?_; rintro e w2 ⟨rfl, rfl⟩))
    clear HNew HK
    have I0 : In w1 w1.heap.size (Sep (Bok w1.heap.size (fun _ => []) 0) (Bok (w1.heap.size + 1) (fun _ => []) 0)) ((w1.alloc (.cells #[.map none] 60)).alloc (.cells #[.map none] 60)) := by
      have h1 : In w1 w1.heap.size (Bok w1.heap.size (fun _ => []) 0) (w1.alloc (.cells #[.map none] 60)) := ⟨_, Bok.new w1, ft_new w1, (Below.refl _ w1).alloc (Nat.le_refl _) _, by simp⟩
      have h2 := h1.add (Bok.stab _ _ _) ((Below.refl _ _).alloc (Nat.le_refl _) (.cells #[.map none] 60)) (Bok.new _) (ft_new _)
      rw [World.size_alloc] at h2
      exact h2
    have HI0 := Hid.mk I0
    clear I0
    obtain ⟨X, hX⟩ : ∃ X, w1.heap.size = X := ⟨_, rfl⟩
    rw [hX] at HI0 ⊢
    have HX := Hid.mk hX
    clear hX
    generalize (w1.alloc (.cells #[.map none] 60)).alloc (.cells #[.map none] 60) = w3 at *
    go_loopg [28] hs.length (fun k i wr => ∃ (j : Nat) (F G : Int → List Nt), j + k = hs.length ∧ i = .int .i64 j ∧ Hid (Ap p F G) ∧ Hid (In w1 X (Sep (Bok X F (3 * j)) (Bok (X + 1) G j)) wr))
    case atStart => exact ⟨0, _, _, by omega, rfl, ⟨rfl, rfl⟩, HI0⟩
    case round =>
      clear HI0
      obtain ⟨j, F, G, hk, rfl, HA, HI⟩ := hrel
      by_cases hlt : j < hs.length
      · obtain ⟨k, rfl⟩ : ∃ k, gk = k + 1 := ⟨gk - 1, by omega⟩
        have hV1 := HV.out.below HB1.out
        have hV : Hds wr a hs := hV1.keep (by have := HI.out.bel.size; exact this) (fun ad _ hlt => HI.out.bel.block _ (by rw [← HX.out]; exact hlt))
        rcases hV with rfl | ⟨b, off, rfl, hbl, hc⟩
        · simp at hlt
        obtain ⟨q0, q1, q2, q3, q4, q5, q6, q7⟩ := hc j hlt
        have hxk := HOK.out (hs.getD j hd0) (by rw [List.getD_eq_getElem?_getD, List.getElem?_eq_getElem hlt]; exact List.getElem_mem _)
        generalize hs.getD j hd0 = x at *
        obtain ⟨r0, r1, r2, r3, r4, r5, r6, r7⟩ := x
        dsimp only at q0 q1 q2 q3 q4 q5 q6 q7
        obtain ⟨s1, hs1⟩ : ∃ s, bits BinOp.and IntKind.i32 r7 2147483647 = s := ⟨_, rfl⟩
        obtain ⟨s2, hs2⟩ : ∃ s, IntKind.i32.wrap (j : Int) = s := ⟨_, rfl⟩
        have m1 := mask_b r7
        rw [hs1] at m1
        have m2 := wrap32_b (j : Int)
        rw [hs2] at m2
        have b1 : (0 : Int) ≤ (j : Int) := by omega
        have b2' : (j : Int) < hs.length := by omega
        have e6 : IntKind.i64.wrap (p : Int) = (p : Int) := by rw [IntKind.wrap_i64]; omega
        have e7 : IntKind.i64.wrap (q : Int) = (q : Int) := by rw [IntKind.wrap_i64]; omega
        obtain ⟨E1, hE1⟩ : ∃ E, noteE ⟨r0, r1, r2, r3, r4, r5, p, s1⟩ = E := ⟨_, rfl⟩
        obtain ⟨E2, hE2⟩ : ∃ E, noteE ⟨r0, r1, r2, r3, r4, r5, q, s2⟩ = E := ⟨_, rfl⟩
        obtain ⟨E3, hE3⟩ : ∃ E, noteE ⟨r0, r1, r2, r3, r4, r5, -1, -1⟩ = E := ⟨_, rfl⟩
        have z1 : HdOk ⟨r0, r1, r2, r3, r4, r5, p, s1⟩ := hxk.to (p := p) (s := s1) (by omega) (by omega) (by omega) (by omega)
        have z2 : HdOk ⟨r0, r1, r2, r3, r4, r5, q, s2⟩ := hxk.to (p := q) (s := s2) (by omega) (by omega) (by omega) (by omega)
        have z3 : HdOk ⟨r0, r1, r2, r3, r4, r5, -1, -1⟩ := hxk.to (p := -1) (s := -1) (by omega) (by omega) (by omega) (by omega)
        have HA2 : Hid (Ap p (noteF (noteF (noteF F ⟨r0, r1, r2, r3, r4, r5, p, s1⟩) ⟨r0, r1, r2, r3, r4, r5, q, s2⟩) ⟨r0, r1, r2, r3, r4, r5, -1, -1⟩) (noteF G ⟨r0, r1, r2, r3, r4, r5, p, s1⟩)) := HA.out.step (q := q) (s := s1) (t := s2) (u := -1) (by omega) (by omega) (by omega) ⟨r0, r1, r2, r3, r4, r5, r6, r7⟩
        have HC1 : Hid (∀ y, T3 w1 X (X + 1) wr.heap.size F G (3 * j) j ⟨r0, r1, r2, r3, r4, r5, p, s1⟩ y → Calls Try.prog 20 #[.pointer (some ⟨X + 1, 0, none⟩), hdV r0 r1 r2 r3 r4 r5 p s1] y fun e y' => e = .returned (.int .i64 E1) ∧ T3 w1 X (X + 1) wr.heap.size F (noteF G ⟨r0, r1, r2, r3, r4, r5, p, s1⟩) (3 * j) (j + 1) ⟨r0, r1, r2, r3, r4, r5, p, s1⟩ y') := fun y hy => by rw [← hE1]; exact hy.one _ z1 (by omega)
        have HC2 : Hid (∀ y, T3 w1 X (X + 1) wr.heap.size F (noteF G ⟨r0, r1, r2, r3, r4, r5, p, s1⟩) (3 * j) (j + 1) ⟨r0, r1, r2, r3, r4, r5, p, s1⟩ y → Calls Try.prog 20 #[.pointer (some ⟨X, 0, none⟩), hdV r0 r1 r2 r3 r4 r5 p s1] y fun e y' => e = .returned (.int .i64 E1) ∧ T3 w1 X (X + 1) wr.heap.size (noteF F ⟨r0, r1, r2, r3, r4, r5, p, s1⟩) (noteF G ⟨r0, r1, r2, r3, r4, r5, p, s1⟩) (3 * j + 1) (j + 1) ⟨r0, r1, r2, r3, r4, r5, p, s1⟩ y') := fun y hy => by rw [← hE1]; exact hy.both _ z1 (by omega)
        have HC3 : Hid (∀ y, T3 w1 X (X + 1) wr.heap.size (noteF F ⟨r0, r1, r2, r3, r4, r5, p, s1⟩) (noteF G ⟨r0, r1, r2, r3, r4, r5, p, s1⟩) (3 * j + 1) (j + 1) ⟨r0, r1, r2, r3, r4, r5, q, s2⟩ y → Calls Try.prog 20 #[.pointer (some ⟨X, 0, none⟩), hdV r0 r1 r2 r3 r4 r5 q s2] y fun e y' => e = .returned (.int .i64 E2) ∧ T3 w1 X (X + 1) wr.heap.size (noteF (noteF F ⟨r0, r1, r2, r3, r4, r5, p, s1⟩) ⟨r0, r1, r2, r3, r4, r5, q, s2⟩) (noteF G ⟨r0, r1, r2, r3, r4, r5, p, s1⟩) (3 * j + 1 + 1) (j + 1) ⟨r0, r1, r2, r3, r4, r5, q, s2⟩ y') := fun y hy => by rw [← hE2]; exact hy.both _ z2 (by omega)
        have HC4 : Hid (∀ y, T3 w1 X (X + 1) wr.heap.size (noteF (noteF F ⟨r0, r1, r2, r3, r4, r5, p, s1⟩) ⟨r0, r1, r2, r3, r4, r5, q, s2⟩) (noteF G ⟨r0, r1, r2, r3, r4, r5, p, s1⟩) (3 * j + 1 + 1) (j + 1) ⟨r0, r1, r2, r3, r4, r5, -1, -1⟩ y → Calls Try.prog 20 #[.pointer (some ⟨X, 0, none⟩), hdV r0 r1 r2 r3 r4 r5 (-1) (-1)] y fun e y' => e = .returned (.int .i64 E3) ∧ T3 w1 X (X + 1) wr.heap.size (noteF (noteF (noteF F ⟨r0, r1, r2, r3, r4, r5, p, s1⟩) ⟨r0, r1, r2, r3, r4, r5, q, s2⟩) ⟨r0, r1, r2, r3, r4, r5, -1, -1⟩) (noteF G ⟨r0, r1, r2, r3, r4, r5, p, s1⟩) (3 * j + 1 + 1 + 1) (j + 1) ⟨r0, r1, r2, r3, r4, r5, -1, -1⟩ y') := fun y hy => by rw [← hE3]; exact hy.both _ z3 (by omega)
        generalize noteF (noteF (noteF F ⟨r0, r1, r2, r3, r4, r5, p, s1⟩) ⟨r0, r1, r2, r3, r4, r5, q, s2⟩) ⟨r0, r1, r2, r3, r4, r5, -1, -1⟩ = F3 at *
        generalize noteF (noteF F ⟨r0, r1, r2, r3, r4, r5, p, s1⟩) ⟨r0, r1, r2, r3, r4, r5, q, s2⟩ = F2 at *
        generalize noteF F ⟨r0, r1, r2, r3, r4, r5, p, s1⟩ = F1 at *
        generalize noteF G ⟨r0, r1, r2, r3, r4, r5, p, s1⟩ = G1 at *
        have HI1 : Hid (T3 w1 X (X + 1) wr.heap.size F G (3 * j) j ⟨r0, r1, r2, r3, r4, r5, p, s1⟩ (wr.alloc (.cells #[.int .i64 r0, .int .i64 r1, .bool r2, .int .i64 r3, .int .i64 r4, .int .i64 r5, .int .i64 p, .int .i32 s1] 29))) := In.boxNew (two_stab _ _ _ _ _ _) HI.out
        clear hc z1 z2 z3 hE1 hE2 hE3 hxk hV1 HI HA hbl
        go_wp2_with (first
          | (go_at_call 20; with_reducible refine (HC1.out _ HI1.out).mono ?_; rintro e w4 ⟨rfl, h4⟩; obtain ⟨c0, c1, c2, c3, c4, c5, c6, c7, fz⟩ := box_cells h4.box; dsimp only at c0 c1 c2 c3 c4 c5 c6 c7; have H4 := Hid.mk h4; clear h4)
          | (go_at_call 20; with_reducible refine (HC2.out _ H4.out).mono ?_; rintro e w5 ⟨rfl, h5⟩; obtain ⟨d0, d1, d2, d3, d4, d5, d6, d7, fz5⟩ := box_cells h5.box; dsimp only at d0 d1 d2 d3 d4 d5 d6 d7; have H5 := Hid.mk (h5.put q s2); clear h5)
          | (go_at_call 20; with_reducible refine (HC3.out _ H5.out).mono ?_; rintro e w6 ⟨rfl, h6⟩; obtain ⟨f0, f1, f2, f3, f4, f5, f6, f7, fz6⟩ := box_cells h6.box; dsimp only at f0 f1 f2 f3 f4 f5 f6 f7; have H6 := Hid.mk (h6.put (-1) (-1)); clear h6)
          | (go_at_call 20; with_reducible refine (HC4.out _ H6.out).mono ?_; rintro e w7 ⟨rfl, h7⟩; have H7 := Hid.mk h7; clear h7))
        go_roundg k
        case measure => omega
        case rel => exact ⟨j + 1, F3, G1, by omega, by go_num, HA2, by have := H7.out.drop; rw [show 3 * j + 1 + 1 + 1 = 3 * (j + 1) from by omega] at this; exact this⟩
      · have hj : j = hs.length := by omega
        have hlt' : ¬ (j : Int) < hs.length := by omega
        have p0 : -9223372036854775808 ≤ (p : Int) := by omega
        have HN1 : Hid (∀ y, In w1 X (Sep (Bok X F (3 * j)) (Bok (X + 1) G j)) y → Calls Try.prog 18 #[.pointer (some ⟨X + 1, 0, none⟩), .int .i64 p] y fun e y' => e = .returned (.tuple #[.int .i32 (nxt (G p)), .bool (!(G p).isEmpty)]) ∧ In w1 X (Sep (Bok X F (3 * j)) (Bok (X + 1) G j)) y') := fun y hy => by
          obtain ⟨S, hb, _⟩ := hy.dropL
          exact (hb.bo.next p (by omega) (by omega)).mono fun e y' h => ⟨h.1, hy.call (two_stab _ _ _ _ _ _) h.2⟩
        have HN2 : Hid (∀ y, In w1 X (Sep (Bok X F (3 * j)) (Bok (X + 1) G j)) y → Calls Try.prog 18 #[.pointer (some ⟨X, 0, none⟩), .int .i64 p] y fun e y' => e = .returned (.tuple #[.int .i32 (nxt (G p)), .bool (!(G p).isEmpty)]) ∧ In w1 X (Sep (Bok X F (3 * j)) (Bok (X + 1) G j)) y') := fun y hy => by
          obtain ⟨S, hb, _⟩ := hy.drop
          rw [← HA.out.eq]
          exact (hb.bo.next p (by omega) (by omega)).mono fun e y' h => ⟨h.1, hy.call (two_stab _ _ _ _ _ _) h.2⟩
        have HB1' : Hid (∀ y, In w1 X (Sep (Bok X F (3 * j)) (Bok (X + 1) G j)) y → Calls Try.prog 22 #[.pointer (some ⟨X + 1, 0, none⟩), .int .i64 p] y fun e y' => ∃ (a : Option Addr) (cap : Nat), e = .returned (.slice a (G p).length cap) ∧ Hds y' a ((G p).map (hdOf p)) ∧ In w1 X (Sep (Bok X F (3 * j)) (Bok (X + 1) G j)) y') := fun y hy => by
          obtain ⟨S, hb, _⟩ := hy.dropL
          refine (hb.bo.batches p (by omega) (by omega)).mono ?_
          rintro e y' ⟨v, rfl, ho⟩
          obtain ⟨a, cap, rfl, hd, _⟩ := ho.row.hds
          exact ⟨a, cap, by rw [List.length_map], hd, hy.call (two_stab _ _ _ _ _ _) ho.bel⟩
        have HB2' : Hid (∀ y (a1 : Option Addr), In w1 X (Sep (Bok X F (3 * j)) (Bok (X + 1) G j)) y → Hds y a1 ((G p).map (hdOf p)) → Calls Try.prog 22 #[.pointer (some ⟨X, 0, none⟩), .int .i64 p] y fun e y' => ∃ (a : Option Addr) (cap : Nat), e = .returned (.slice a (G p).length cap) ∧ Hds y' a ((G p).map (hdOf p)) ∧ Hds y' a1 ((G p).map (hdOf p)) ∧ In w1 X (Sep (Bok X F (3 * j)) (Bok (X + 1) G j)) y') := fun y a1 hy h1 => by
          obtain ⟨S, hb, _⟩ := hy.drop
          refine (hb.bo.batches p (by omega) (by omega)).mono ?_
          rintro e y' ⟨v, rfl, ho⟩
          rw [HA.out.eq] at ho
          obtain ⟨a, cap, rfl, hd, _⟩ := ho.row.hds
          exact ⟨a, cap, by rw [List.length_map], hd, h1.below ho.bel, hy.call (two_stab _ _ _ _ _ _) ho.bel⟩
        have HB3' : Hid (∀ y, In w1 X (Sep (Bok X F (3 * j)) (Bok (X + 1) G j)) y → Calls Try.prog 22 #[.pointer (some ⟨X, 0, none⟩), .int .i64 (-1)] y fun e y' => ∃ (a : Option Addr) (cap : Nat), e = .returned (.slice a 0 cap) ∧ In w1 X (Sep (Bok X F (3 * j)) (Bok (X + 1) G j)) y') := fun y hy => by
          obtain ⟨S, hb, _⟩ := hy.drop
          refine (hb.bo.batches (-1) (by omega) (by omega)).mono ?_
          rintro e y' ⟨v, rfl, ho⟩
          rw [HA.out.no] at ho
          obtain ⟨a, cap, rfl, hd, _⟩ := ho.row.hds
          exact ⟨a, cap, rfl, hy.call (two_stab _ _ _ _ _ _) ho.bel⟩
        have HS : Hid (∀ y (a1 a2 : Option Addr) (c1 c2 : Nat), In w1 X (Sep (Bok X F (3 * j)) (Bok (X + 1) G j)) y → Hds y a1 ((G p).map (hdOf p)) → Hds y a2 ((G p).map (hdOf p)) → Calls Try.prog 21 #[.slice a1 (G p).length c1, .slice a2 (G p).length c2] y fun e y' => e = .returned (.bool true) ∧ In w1 X (Sep (Bok X F (3 * j)) (Bok (X + 1) G j)) y') := fun y a1 a2 c1 c2 hy h1 h2 => by
          have hle : ((G p).map (hdOf p)).length ≤ 9223372036854775807 := by
            obtain ⟨S, ⟨m, fs, hb, hF, _⟩, _⟩ := hy.dropL
            rw [List.length_map, ← hF]
            unfold fv
            split
            · rename_i f hf
              have := (hb.til f (look_mem hf).1).len
              omega
            · simp
          have := sameHeads_yes a1 a2 c1 c2 _ y hle h1 h2
          rw [List.length_map] at this
          exact this.mono fun e y' h => ⟨h.1, hy.call (two_stab _ _ _ _ _ _) h.2⟩
        generalize (G p).length = NL at *
        generalize nxt (G p) = NX at *
        generalize (!(G p).isEmpty) = NE at *
        clear hj hlt hk
        go_wp2_with (first
          | (go_at_call 18; with_reducible refine (HN1.out _ HI.out).mono ?_; rintro e w4 ⟨rfl, h4⟩; have H4 := Hid.mk h4; clear h4)
          | (go_at_call 18; with_reducible refine (HN2.out _ H4.out).mono ?_; rintro e w5 ⟨rfl, h5⟩; have H5 := Hid.mk h5; clear h5)
          | (go_at_call 22; with_reducible refine (HB1'.out _ H5.out).mono ?_; rintro e w6 ⟨a6, cap6, rfl, hd6, h6⟩; have H6 := Hid.mk h6; have HD6 := Hid.mk hd6; clear h6 hd6)
          | (go_at_call 22; with_reducible refine (HB2'.out _ _ H6.out HD6.out).mono ?_; rintro e w7 ⟨a7, cap7, rfl, hd7, hd7', h7⟩; have H7 := Hid.mk h7; have HD7 := Hid.mk hd7; have HD7' := Hid.mk hd7'; clear h7 hd7 hd7')
          | (go_at_call 21; with_reducible refine (HS.out _ _ _ _ _ H7.out HD7'.out HD7.out).mono ?_; rintro e w8 ⟨rfl, h8⟩; have H8 := Hid.mk h8; clear h8)
          | (go_at_call 22; with_reducible refine (HB3'.out _ H8.out).mono ?_; rintro e w9 ⟨a9, cap9, rfl, h9⟩; have H9 := Hid.mk h9; clear h9))
        go_ret
        exact ⟨by simp, HB1.out.trans (H9.out.bel.mono (by rw [← HX.out]; exact HB1.out.size))⟩
end Go.Proofs.Ytolobmhbmajolaa
