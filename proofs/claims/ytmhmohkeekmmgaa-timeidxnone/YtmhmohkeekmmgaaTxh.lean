/- The statement's example. -/
import Derived.Test.YtmhmohkeekmmgaaTfo
namespace Go.Proofs.Ytmhmohkeekmmgaa
open Go.RowKit
theorem Io.ch {w w' : World} {B x : Nat} {v v' : Value} {l l' : List En} (h : Io w B x v l) (hB : B ≤ w.heap.size) (h1 : Ix 60 w' x v' l') (h2 : Ch (IS x v) w w') (h3 : Moved w v v') : Io w' B x v' l' ∧ Below B w w' := by
  refine ⟨⟨h1, h.at0, fun g hg => ?_⟩, h2.below hB (fun i hi hs => ?_)⟩
  · rcases h3 g hg with h4 | h4
    · exact h.at1 g h4
    · omega
  · rcases hs with rfl | hs
    · have := h.at0; omega
    · have := h.at1 i hs; omega
/-- Append to an index of the call's own. -/
theorem oapp_any (x B : Nat) (e : En) (v : Value) (l : List En) (w w0 : World) (h : Io w B x v l) (hB : B ≤ w.heap.size) (hw : Below B w0 w) (hn : l.length ≤ 8796093022207) : Calls Try.prog 12 #[.pointer (some ⟨x, 0, none⟩), enV e] w fun r w' => r = .returned (.int .i64 (addC l e)) ∧ (∃ v', Io w' B x v' (addE l e)) ∧ B ≤ w'.heap.size ∧ Below B w0 w' := by
  refine (append_any _ e v l w h.ix hn).mono ?_
  rintro r w' ⟨rfl, v', h1, h2, h3⟩
  obtain ⟨h4, h5⟩ := h.ch hB h1 h2 h3
  exact ⟨rfl, ⟨v', h4⟩, Nat.le_trans hB h5.size, hw.trans h5⟩
def fx3 : List En := [⟨5, 10⟩, ⟨5, 11⟩, ⟨7, 20⟩]
set_option maxRecDepth 20000 in
set_option maxHeartbeats 2000000 in
theorem finds_any (w : World) : Calls Try.prog 9 #[] w fun r w' => r = .returned (.bool true) ∧ Below w.heap.size w w' := by
  have A1 : Hid (∀ wx x v, Io wx w.heap.size x v [] → Below w.heap.size w wx → Calls Try.prog 12 #[.pointer (some ⟨x, 0, none⟩), .agg #[.int .i64 5, .int .i64 10]] wx fun r w' => r = .returned (.int .i64 0) ∧ (∃ v', Io w' w.heap.size x v' [⟨5, 10⟩]) ∧ Below w.heap.size w w') := fun wx x v h hb => (oapp_any x _ ⟨5, 10⟩ v [] wx w h hb.size hb (by simp)).mono fun r w' ⟨h1, h2, _, h3⟩ => ⟨h1.trans (by rfl), h2, h3⟩
  have A2 : Hid (∀ wx x v, Io wx w.heap.size x v [⟨5, 10⟩] → Below w.heap.size w wx → Calls Try.prog 12 #[.pointer (some ⟨x, 0, none⟩), .agg #[.int .i64 5, .int .i64 11]] wx fun r w' => r = .returned (.int .i64 0) ∧ (∃ v', Io w' w.heap.size x v' [⟨5, 10⟩, ⟨5, 11⟩]) ∧ Below w.heap.size w w') := fun wx x v h hb => (oapp_any x _ ⟨5, 11⟩ v _ wx w h hb.size hb (by simp)).mono fun r w' ⟨h1, h2, _, h3⟩ => ⟨h1.trans (by rfl), h2, h3⟩
  have A3 : Hid (∀ wx x v, Io wx w.heap.size x v [⟨5, 10⟩, ⟨5, 11⟩] → Below w.heap.size w wx → Calls Try.prog 12 #[.pointer (some ⟨x, 0, none⟩), .agg #[.int .i64 7, .int .i64 20]] wx fun r w' => r = .returned (.int .i64 0) ∧ (∃ v', Io w' w.heap.size x v' fx3) ∧ Below w.heap.size w w') := fun wx x v h hb => (oapp_any x _ ⟨7, 20⟩ v _ wx w h hb.size hb (by simp)).mono fun r w' ⟨h1, h2, _, h3⟩ => ⟨h1.trans (by rfl), h2, h3⟩
  have A4 : Hid (∀ wx x v, Io wx w.heap.size x v fx3 → Below w.heap.size w wx → Calls Try.prog 12 #[.pointer (some ⟨x, 0, none⟩), .agg #[.int .i64 6, .int .i64 30]] wx fun r w' => r = .returned (.int .i64 30) ∧ (∃ v', Io w' w.heap.size x v' fx3) ∧ Below w.heap.size w w') := fun wx x v h hb => (oapp_any x _ ⟨6, 30⟩ v _ wx w h hb.size hb (by simp [fx3])).mono fun r w' ⟨h1, h2, _, h3⟩ => ⟨h1.trans (by rfl), h2, h3⟩
  have hO : Ord fx3 := by
    have h1 : Ord [⟨5, 10⟩] := Ord.nil.snoc (by rfl)
    have h2 : Ord [⟨5, 10⟩, ⟨5, 11⟩] := h1.snoc (e := ⟨5, 11⟩) (by rfl)
    exact h2.snoc (e := ⟨7, 20⟩) (by rfl)
  have e1 : findV fx3 7 = .tuple #[.agg #[.int .i64 5, .int .i64 11], .int .i64 2, .bool true] := by rfl
  have e2 : findV fx3 5 = .tuple #[.agg #[.int .i64 0, .int .i64 0], .int .i64 2, .bool false] := by rfl
  have F1 : Hid (∀ wx x v, Io wx w.heap.size x v fx3 → Calls Try.prog 24 #[.pointer (some ⟨x, 0, none⟩), .int .i64 7] wx fun r w' => r = .returned (.tuple #[.agg #[.int .i64 5, .int .i64 11], .int .i64 2, .bool true]) ∧ Below wx.heap.size wx w') := fun wx x v h => (find_any _ 7 v fx3 wx h.ip hO (by decide)).mono fun r w' ⟨h1, h2⟩ => ⟨by rw [h1, e1], h2⟩
  have F2 : Hid (∀ wx x v, Io wx w.heap.size x v fx3 → Calls Try.prog 24 #[.pointer (some ⟨x, 0, none⟩), .int .i64 5] wx fun r w' => r = .returned (.tuple #[.agg #[.int .i64 0, .int .i64 0], .int .i64 2, .bool false]) ∧ Below wx.heap.size wx w') := fun wx x v h => (find_any _ 5 v fx3 wx h.ip hO (by decide)).mono fun r w' ⟨h1, h2⟩ => ⟨by rw [h1, e2], h2⟩
  have FO : Hid (∀ wx, Calls Try.prog 22 #[.agg #[.int .i64 (-1), .int .i64 2]] wx fun r w' => r = .returned (.string ⟨#[255, 255, 255, 255, 255, 255, 255, 255, 0, 0, 0, 0, 0, 0, 0, 2]⟩) ∧ Below wx.heap.size wx w') := fun wx => (form_any ⟨-1, 2⟩ wx).mono fun r w' ⟨h1, h2⟩ => ⟨by rw [h1]; congr 2, h2⟩
  clear hO e1 e2
  have HN : Hid (Io (w.alloc (.cells #[.slice none 0 0] 60)) w.heap.size w.heap.size (.slice none 0 0) []) := ⟨Ix.new _ _, Nat.le_refl _, fun g hg => by cases hg⟩
  have HNB : Hid (Below w.heap.size w (w.alloc (.cells #[.slice none 0 0] 60))) := (Below.refl _ _).alloc (Nat.le_refl _) _
  go_enter Try.func9, Try.ntmps9
  go_wp2_with (first | (go_at_call 10; refine (new_any _).mono ?_; rintro e w' ⟨rfl, rfl⟩) | (go_at_call 12; with_reducible refine (A1.out _ _ _ HN.out HNB.out).mono ?_; rintro r w1 ⟨rfl, ⟨v1, h1⟩, hb1⟩; have H1 := hid h1; have B1 := hid hb1; clear h1 hb1) | (go_at_call 12; with_reducible refine (A2.out _ _ _ H1.out B1.out).mono ?_; rintro r w2 ⟨rfl, ⟨v2, h2⟩, hb2⟩; have H2 := hid h2; have B2 := hid hb2; clear h2 hb2) | (go_at_call 12; with_reducible refine (A3.out _ _ _ H2.out B2.out).mono ?_; rintro r w3 ⟨rfl, ⟨v3, h3⟩, hb3⟩; have H3 := hid h3; have B3 := hid hb3; clear h3 hb3) | (go_at_call 12; with_reducible refine (A4.out _ _ _ H3.out B3.out).mono ?_; rintro r w4 ⟨rfl, ⟨v4, h4⟩, hb4⟩; have H4 := hid h4; have B4 := hid hb4; clear h4 hb4) | (go_at_call 24; with_reducible refine (F1.out _ _ _ H4.out).mono ?_; rintro r w5 ⟨rfl, hb5⟩; have H5 := hid ((H4.out.below hb5).below ((Below.refl w5.heap.size w5).alloc (Nat.le_refl _) (.cells #[.int .i64 5, .int .i64 11] 29))); have B5 := hid ((B4.out.trans (hb5.mono B4.out.size)).alloc (Nat.le_trans B4.out.size hb5.size) (.cells #[.int .i64 5, .int .i64 11] 29)); clear hb5) | (go_at_call 24; with_reducible refine (F2.out _ _ _ H5.out).mono ?_; rintro r w6 ⟨rfl, hb6⟩; obtain ⟨z1, z2, z3, z4, z5⟩ := res4 rfl hb6; have B6 := hid (B5.out.trans (hb6.mono B5.out.size)); clear hb6))
  go_wp2_with (go_at_call 22; refine (FO.out _).mono ?_; rintro r w7 ⟨rfl, hb7⟩)
  go_ret
  exact ⟨rfl, (B6.out.alloc B6.out.size _).trans (hb7.mono (by have := B6.out.size; simp; omega))⟩
end Go.Proofs.Ytmhmohkeekmmgaa
