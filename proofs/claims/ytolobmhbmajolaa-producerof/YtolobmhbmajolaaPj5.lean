/- ProducerOf: its walk where nothing comes in; over all that comes in. -/
import Derived.Test.YtolobmhbmajolaaPj4
import Derived.SizedLaws
namespace Go.Proofs.Ytolobmhbmajolaa
open Go.RowKit
theorem oh_empty (w : World) : Oh w (.slice (some ⟨w.heap.size, 0, none⟩) 0 0) [] (w.alloc (.cells #[] 29)) := ⟨(Below.refl _ w).alloc (Nat.le_refl _) _, own_empty w _ (Nat.le_refl _)⟩
set_option maxHeartbeats 16000000 in
set_option maxRecDepth 80000 in
theorem of_none (below : Int) (w : World) :
    Calls Try.prog 4 #[.slice none 0 0, .int .i64 below] w fun e w' => e = .returned (.bool true) ∧ Below w.heap.size w w' := by
  have HK := Hid.mk knows_any
  obtain ⟨i0, hi, hz0, hz1, hz2⟩ := info_parts Try.infoH
  go_enter Try.func4, Try.ntmps4
  go_wp2_with (first
    | (go_at_call 8; with_reducible refine (HK.out w).mono ?_; rintro e w1 ⟨rfl, hb1⟩; have HB1 := Hid.mk hb1; clear hb1)
    | (at_builtin; refine wpList_append_own_none _ rfl _ _ 35 rfl w1.heap.size 29 i0 8 Try.underlying35 hi _ 0 [] rfl (own_empty w1 _ (Nat.le_refl _)) rfl ?_)
    | (at_builtin; refine wpList_append_lies _ rfl _ _ 35 rfl w1.heap.size 29 i0 hz8 8 64 Try.underlying35 hi hz0 hz1 hz2 rfl (by decide) _ 0 [] rfl ?d0 ⟨w1.heap.size + 1, 0, none⟩ 1 1 (hv h7) rfl rfl ?d1 ?d2 ?d3 ?d4 ?d5 ?d6 _ rfl ?_))
  case d0 => exact ((oh_empty w1).alloc (.cells (hv h7).toArray 29)).row
  case d1 => exact World.news_of_block (heap_new' _ _ _ (by simp))
  case d2 => exact hv_one _
  case d3 => omega
  case d4 => unfold maxLen; omega
  case d5 => omega
  case d6 => simp; omega
  intro g cap3 w3 hown3 hgrow3 hat3 hlt3
  have hO3 : Oh w1 _ [h7] w3 := ((oh_empty w1).alloc (.cells (hv h7).toArray 29)).push hown3 hgrow3
  obtain ⟨X, hX⟩ : ∃ X, w1.heap.size = X := ⟨_, rfl⟩
  have HI3 : Hid (In w1 X (Rw g 1 cap3 [h7]) w3) := by
    have h1 : OwH w3 0 (.slice (some ⟨g, 0, none⟩) 1 cap3) [h7] := hO3.row.base (Nat.zero_le _)
    have h2 : X ≤ g := by rw [← hX]; exact (World.ownsRow.lt hO3.row g rfl).1
    refine ⟨_, ⟨h1, rfl, rfl⟩, fun i hi => by have e : i = g := hi; omega, by rw [← hX]; exact hO3.bel, by rw [← hX]; exact hO3.bel.size⟩
  have hcp : 1 ≤ cap3 ∧ cap3 ≤ maxLen := by
    obtain ⟨S, hS, _⟩ := HI3.out
    exact hS.hds.2
  obtain ⟨hcp1, hcp2⟩ := hcp
  have hcp3 : (cap3 : Int) ≤ 9223372036854775807 := by unfold maxLen at hcp2; omega
  have hcp4 : (0 : Int) ≤ (cap3 : Int) := by omega
  have HX := Hid.mk hX
  clear hown3 hgrow3 hat3 hlt3 hO3 hX hcp2
  have COf : Hid (∀ y, In w1 X (Rw g 1 cap3 [h7]) y → Calls Try.prog 15 #[.slice (some ⟨g, 0, none⟩) 0 cap3] y fun e y' => ∃ b, e = .returned (.pointer (some ⟨b, 0, none⟩)) ∧ In w1 X (Sep (Rw g 1 cap3 [h7]) (Bok b (RF (rof [])) 0)) y' ∧ y'.cell? ⟨g, 0, none⟩ = some (.int .i64 (-7))) := fun y hy => by
    refine (of_in (hs := []) (cap := cap3) (Rw.stab _ _ _ _) hy (Or.inl rfl) (by simp) (fun x hx => by cases hx)).mono ?_
    rintro e y' ⟨b, rfl, h1⟩
    refine ⟨b, rfl, h1, ?_⟩
    obtain ⟨S, hS⟩ := h1.rw
    rcases hS.hds.1 with e1 | ⟨g', off', e1, _, hc1⟩
    · cases e1
    · cases e1
      exact (hc1 0 (by simp)).1
  have CRo : Hid (∀ (P : Res) (b : Nat) y, Stab P → In w1 X (Sep P (Bok b (RF (rof [])) 0)) y → Calls Try.prog 16 #[.slice none 0 0] y fun e y' => ∃ c, e = .returned (.pointer (some ⟨c, 0, none⟩)) ∧ In w1 X (PB b c (rof []) 0) y') := fun P b y hP hy => by
    refine (rof_in (hs := []) (cap := 0) (hP.sep (Bok.stab _ _ _)) hy (Or.inl rfl) (by simp)).mono ?_
    rintro e y' ⟨c, rfl, h2⟩
    exact ⟨c, rfl, h2.pick23⟩
  have CAg : Hid (∀ (b c : Nat) y, In w1 X (PB b c (rof []) 0) y → Calls Try.prog 13 #[.pointer (some ⟨b, 0, none⟩), .pointer (some ⟨c, 0, none⟩)] y fun e y' => e = .returned (.bool true) ∧ In w1 X (PB b c (rof []) 0) y') := fun b c y hy => pb_agree hy (by omega) (by simp [rof]) R6.nil
  have CFg : Hid (∀ (b c : Nat) y, In w1 X (PB b c (rof []) 0) y → Calls Try.prog 17 #[.pointer (some ⟨b, 0, none⟩), .int .i64 below] y fun e y' => (∃ g, e = .returned (.int .i64 g)) ∧ In w1 X (Sep (RB c (rof [])) (Bok b (RF (rof [])) 0)) y') := fun b c y hy => (In.turn (R := fun e => ∃ g, e = .returned (.int .i64 g)) hy (turn_left (RB.stab _ _) (Bok.forgetAny below (by omega) (fun q => rfl)))).mono fun e y' hh => ⟨hh.1, hh.2.mono fun _ hS => hS.swap⟩
  have CRw := Hid.mk (fun (b : Nat) y hy => CRo.out (Rw g 1 cap3 [h7]) b y (Rw.stab _ _ _ _) hy)
  have CRb := Hid.mk (fun (b c : Nat) y hy => CRo.out (RB c (rof [])) b y (RB.stab _ _) hy)
  clear CRo
  go_wp2_with (go_at_call 15; with_reducible refine (COf.out _ HI3.out).mono ?_; rintro e w4 ⟨b, rfl, h4, c7⟩; have H4 := Hid.mk h4; clear h4)
  clear COf HI3
  refine wp_loop_rounds 1 ?_
  rw [rounds_succ]
  go_wp2_with (first
    | (go_at_call 16; with_reducible refine (CRw.out _ _ H4.out).mono ?_; rintro e w5 ⟨c, rfl, h5⟩; have H5 := Hid.mk h5; clear h5)
    | (go_at_call 13; with_reducible refine (CAg.out _ _ _ H5.out).mono ?_; rintro e w6 ⟨rfl, h6⟩; have H6 := Hid.mk h6; clear h6))
  refine wp_loop_rounds 1 ?_
  rw [rounds_succ]
  go_wp2_with (first
    | (go_at_call 17; with_reducible refine (CFg.out _ _ _ H6.out).mono ?_; rintro e w8 ⟨⟨gv, rfl⟩, h8⟩; have H8 := Hid.mk h8; clear h8)
    | (go_at_call 16; with_reducible refine (CRb.out _ _ _ H8.out).mono ?_; rintro e w9 ⟨c9, rfl, h9⟩; have H9 := Hid.mk h9; clear h9)
    | (go_at_call 13; with_reducible refine (CAg.out _ _ _ H9.out).mono ?_; rintro e w10 ⟨rfl, h10⟩; have H10 := Hid.mk h10; clear h10))
  go_ret
  exact ⟨rfl, HB1.out.trans (H10.out.bel.mono (by rw [← HX.out]; exact HB1.out.size))⟩
theorem of_law (hs : List Hd) (a : Option Addr) (cap : Nat) (below : Int) (w : World) (V : Hds w a hs) (hl : hs.length * 64 ≤ reachBytes) (hn : a = none → hs = [] ∧ cap = 0) (ok : ∀ x ∈ hs, HdOk x) :
    Calls Try.prog 4 #[.slice a hs.length cap, .int .i64 below] w fun e w' => e = .returned (.bool true) ∧ Below w.heap.size w w' := by
  cases a with
  | none =>
    obtain ⟨rfl, rfl⟩ := hn rfl
    exact of_none below w
  | some A => exact of_some hs A cap below w V (by unfold reachBytes at hl; omega) ok
end Go.Proofs.Ytolobmhbmajolaa
