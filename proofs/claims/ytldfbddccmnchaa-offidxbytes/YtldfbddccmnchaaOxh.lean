/- The statement's example. -/
import Derived.Test.YtldfbddccmnchaaOxf
namespace Go.Proofs.Ytldfbddccmnchaa
open Go.RowKit
theorem Left.some {w w' : World} {x : Nat} {v : Value} {l' : List En} (h : Left w w' (some ⟨x, 0, none⟩) v l') : ∃ v', Ix 63 w' x v' l' ∧ Ch (IS x v) w w' ∧ Moved w v v' := by
  rcases h with ⟨x', v', h1, h2, h3, h4⟩ | ⟨h1, _⟩
  · cases h1; exact ⟨v', h2, h3, h4⟩
  · cases h1
/-- An index that is the call's own: its block and its row lie from B on. -/
structure Io (w : World) (B x : Nat) (v : Value) (l : List En) : Prop where
  ix : Ix 63 w x v l
  at0 : B ≤ x
  at1 : ∀ g, v.ownBlock = some g → B ≤ g
theorem Io.below {w w' : World} {B x : Nat} {v : Value} {l : List En} (h : Io w B x v l) (hb : Below w.heap.size w w') : Io w' B x v l := ⟨h.ix.below hb, h.at0, h.at1⟩
theorem Io.left {w w' : World} {B x : Nat} {v : Value} {l l' : List En} (h : Io w B x v l) (hB : B ≤ w.heap.size) (hl : Left w w' (some ⟨x, 0, none⟩) v l') : ∃ v', Io w' B x v' l' ∧ Below B w w' := by
  obtain ⟨v', h1, h2, h3⟩ := hl.some
  refine ⟨v', ⟨h1, h.at0, fun g hg => ?_⟩, h2.below hB (fun i hi hs => ?_)⟩
  · rcases h3 g hg with h4 | h4
    · exact h.at1 g h4
    · omega
  · rcases hs with rfl | hs
    · have := h.at0; omega
    · have := h.at1 i hs; omega
theorem Io.ip {w : World} {B x : Nat} {v : Value} {l : List En} (h : Io w B x v l) : Ip w (some ⟨x, 0, none⟩) v l := Or.inl ⟨x, rfl, h.ix⟩
/-- Add to an index of the call's own. -/
theorem oadd_any (x B : Nat) (e : En) (v : Value) (l : List En) (w w0 : World) (h : Io w B x v l) (hB : B ≤ w.heap.size) (hw : Below B w0 w) (hn : l.length ≤ 8796093022207) : Calls Try.prog 30 #[.pointer (some ⟨x, 0, none⟩), enV e] w fun r w' => r = .returned (.int .i64 (addC l e)) ∧ (∃ v', Io w' B x v' (addE l e)) ∧ B ≤ w'.heap.size ∧ Below B w0 w' := by
  refine (add_any _ e v l w h.ip hn).mono ?_
  rintro r w' ⟨rfl, hl⟩
  obtain ⟨v', h1, h2⟩ := h.left hB hl
  exact ⟨rfl, ⟨v', h1⟩, Nat.le_trans hB h2.size, hw.trans h2⟩
def fx3 : List En := [⟨0, 0⟩, ⟨5, 300⟩, ⟨100, 900⟩]
set_option maxRecDepth 20000 in
set_option maxHeartbeats 2000000 in
theorem fixed_any (w : World) : Calls Try.prog 9 #[] w fun r w' => r = .returned (.bool true) ∧ Below w.heap.size w w' := by
  have A1 : Hid (∀ wx x v, Io wx w.heap.size x v [] → Below w.heap.size w wx → Calls Try.prog 30 #[.pointer (some ⟨x, 0, none⟩), .agg #[.int .i64 0, .int .i64 0]] wx fun r w' => r = .returned (.int .i64 0) ∧ (∃ v', Io w' w.heap.size x v' [⟨0, 0⟩]) ∧ Below w.heap.size w w') := fun wx x v h hb => (oadd_any x _ ⟨0, 0⟩ v [] wx w h hb.size hb (by simp)).mono fun r w' ⟨h1, h2, _, h3⟩ => ⟨h1.trans (by rfl), h2, h3⟩
  have A2 : Hid (∀ wx x v, Io wx w.heap.size x v [⟨0, 0⟩] → Below w.heap.size w wx → Calls Try.prog 30 #[.pointer (some ⟨x, 0, none⟩), .agg #[.int .i64 0, .int .i64 5]] wx fun r w' => r = .returned (.int .i64 30) ∧ (∃ v', Io w' w.heap.size x v' [⟨0, 0⟩]) ∧ Below w.heap.size w w') := fun wx x v h hb => (oadd_any x _ ⟨0, 5⟩ v _ wx w h hb.size hb (by simp)).mono fun r w' ⟨h1, h2, _, h3⟩ => ⟨h1.trans (by rfl), h2, h3⟩
  have A3 : Hid (∀ wx x v, Io wx w.heap.size x v [⟨0, 0⟩] → Below w.heap.size w wx → Calls Try.prog 30 #[.pointer (some ⟨x, 0, none⟩), .agg #[.int .i64 5, .int .i64 300]] wx fun r w' => r = .returned (.int .i64 0) ∧ (∃ v', Io w' w.heap.size x v' [⟨0, 0⟩, ⟨5, 300⟩]) ∧ Below w.heap.size w w') := fun wx x v h hb => (oadd_any x _ ⟨5, 300⟩ v _ wx w h hb.size hb (by simp)).mono fun r w' ⟨h1, h2, _, h3⟩ => ⟨h1.trans (by rfl), h2, h3⟩
  have A4 : Hid (∀ wx x v, Io wx w.heap.size x v [⟨0, 0⟩, ⟨5, 300⟩] → Below w.heap.size w wx → Calls Try.prog 30 #[.pointer (some ⟨x, 0, none⟩), .agg #[.int .i64 100, .int .i64 900]] wx fun r w' => r = .returned (.int .i64 0) ∧ (∃ v', Io w' w.heap.size x v' fx3) ∧ Below w.heap.size w w') := fun wx x v h hb => (oadd_any x _ ⟨100, 900⟩ v _ wx w h hb.size hb (by simp)).mono fun r w' ⟨h1, h2, _, h3⟩ => ⟨h1.trans (by rfl), h2, h3⟩
  have hO : Ord fx3 := by
    have h1 : Ord [⟨0, 0⟩] := Ord.nil.snoc (by rfl)
    have h2 : Ord [⟨0, 0⟩, ⟨5, 300⟩] := h1.snoc (by rfl)
    exact h2.snoc (e := ⟨100, 900⟩) (by rfl)
  have F1 : Hid (∀ wx x v, Io wx w.heap.size x v fx3 → Calls Try.prog 25 #[.pointer (some ⟨x, 0, none⟩), .int .i64 99] wx fun r w' => (∃ n : Nat, r = .returned (.tuple #[.agg #[.int .i64 5, .int .i64 300], .bool true, .int .i64 n]) ∧ (1 : Int) ≤ n ∧ (n : Int) ≤ 3) ∧ Below wx.heap.size wx w') := fun wx x v h => (find_any _ 99 v fx3 wx h.ip hO (by decide)).mono fun r w' ⟨⟨n, h1, h2, h3⟩, h4⟩ => ⟨⟨n, h1.trans (by rfl), by have := h3 (by decide); omega, by have e : bits fx3.length = 2 := (by rfl); rw [e] at h2; omega⟩, h4⟩
  have F2 : Hid (∀ wx x v, Io wx w.heap.size x v fx3 → Calls Try.prog 25 #[.pointer (some ⟨x, 0, none⟩), .int .i64 (-1)] wx fun r w' => (∃ n : Nat, r = .returned (.tuple #[.agg #[.int .i64 0, .int .i64 0], .bool false, .int .i64 n])) ∧ Below wx.heap.size wx w') := fun wx x v h => (find_any _ (-1) v fx3 wx h.ip hO (by decide)).mono fun r w' ⟨⟨n, h1, h2, h3⟩, h4⟩ => ⟨⟨n, h1.trans (by rfl)⟩, h4⟩
  have L1 : Hid (∀ wx x v, Io wx w.heap.size x v fx3 → Calls Try.prog 24 #[.pointer (some ⟨x, 0, none⟩)] wx fun r w' => r = .returned (.int .i64 3) ∧ Below wx.heap.size wx w') := fun wx x v h => (len_any _ v fx3 wx h.ip).mono fun r w' ⟨h1, h2⟩ => ⟨h1.trans (by rfl), h2⟩
  clear hO
  have HN : Hid (Io (w.alloc (.cells #[.slice none 0 0] 63)) w.heap.size w.heap.size (.slice none 0 0) []) := ⟨Ix.new _ _, Nat.le_refl _, fun g hg => by cases hg⟩
  have HNB : Hid (Below w.heap.size w (w.alloc (.cells #[.slice none 0 0] 63))) := (Below.refl _ _).alloc (Nat.le_refl _) _
  go_enter Try.func9, Try.ntmps9
  go_wp2_with (first | (go_at_call 10; refine (new_any _).mono ?_; rintro e w' ⟨rfl, rfl⟩) | (go_at_call 30; with_reducible refine (A1.out _ _ _ HN.out HNB.out).mono ?_; rintro r w1 ⟨rfl, ⟨v1, h1⟩, hb1⟩; have H1 := hid h1; have B1 := hid hb1; clear h1 hb1) | (go_at_call 30; with_reducible refine (A2.out _ _ _ H1.out B1.out).mono ?_; rintro r w2 ⟨rfl, ⟨v2, h2⟩, hb2⟩; have H2 := hid h2; have B2 := hid hb2; clear h2 hb2) | (go_at_call 30; with_reducible refine (A3.out _ _ _ H2.out B2.out).mono ?_; rintro r w3 ⟨rfl, ⟨v3, h3⟩, hb3⟩; have H3 := hid h3; have B3 := hid hb3; clear h3 hb3) | (go_at_call 30; with_reducible refine (A4.out _ _ _ H3.out B3.out).mono ?_; rintro r w4 ⟨rfl, ⟨v4, h4⟩, hb4⟩; have H4 := hid h4; have B4 := hid hb4; clear h4 hb4) | (go_at_call 25; with_reducible refine (F1.out _ _ _ H4.out).mono ?_; rintro r w5 ⟨⟨n5, rfl, q1, q2⟩, hb5⟩; have H5 := hid ((H4.out.below hb5).below ((Below.refl w5.heap.size w5).alloc (Nat.le_refl _) (.cells #[.int .i64 5, .int .i64 300] 30))); have B5 := hid ((B4.out.trans (hb5.mono B4.out.size)).alloc (Nat.le_trans B4.out.size hb5.size) (.cells #[.int .i64 5, .int .i64 300] 30)); clear hb5) | (go_at_call 25; with_reducible refine (F2.out _ _ _ H5.out).mono ?_; rintro r w6 ⟨⟨n6, rfl⟩, hb6⟩; obtain ⟨z1, z2, z3, z4, z5⟩ := res4 rfl hb6; have z6 : w5.heap.size ≠ w6.heap.size := Nat.ne_of_lt z5; have H6 := hid ((H5.out.below hb6).below ((Below.refl w6.heap.size w6).alloc (Nat.le_refl _) (.cells #[.int .i64 0, .int .i64 0] 30))); have B6 := hid ((B5.out.trans (hb6.mono B5.out.size)).alloc (Nat.le_trans B5.out.size hb6.size) (.cells #[.int .i64 0, .int .i64 0] 30)); clear hb6) | (go_at_call 24; with_reducible refine (L1.out _ _ _ H6.out).mono ?_; rintro r w7 ⟨rfl, hb7⟩))
  go_ret
  exact ⟨rfl, B6.out.trans (hb7.mono B6.out.size)⟩
end Go.Proofs.Ytldfbddccmnchaa
