/- The examples that every statement of names opens with; NamesNames. -/
import Derived.Test.YtgffipkbbenddaaDoorPrb
namespace Go.Proofs.YtgffipkbbenddaaDoor
open Go.RowKit Go.Lib
theorem nm7 : nmV 7 1 = (⟨#[48, 48, 48, 48, 48, 48, 48, 48, 48, 48, 48, 48, 48, 48, 48, 48, 48, 48, 48, 55, 46, 111, 102, 102]⟩, 0) := by decide +kernel
theorem pr7 : prs (ByteArray.mk #[48, 48, 48, 48, 48, 48, 48, 48, 48, 48, 48, 48, 48, 48, 48, 48, 48, 48, 48, 55, 46, 111, 102, 102]).data.toList = some (7, 1) := by decide +kernel
theorem prbad : prs (ByteArray.mk #[55, 46, 108, 111, 103]).data.toList = none := by decide +kernel
set_option maxRecDepth 20000 in
theorem awake_any (w : World) (G : Gd w) : Calls Tryd.prog 9 #[] w fun e w' => e = .returned (.bool true) ∧ Below w.heap.size w w' := by
  have HN := name_any 7 1 w G
  rw [nm7] at HN
  have HN' := hid HN
  have HP : Hid (∀ wx, Below w.heap.size w wx → Calls Tryd.prog 12 #[.string ⟨#[48, 48, 48, 48, 48, 48, 48, 48, 48, 48, 48, 48, 48, 48, 48, 48, 48, 48, 48, 55, 46, 111, 102, 102]⟩] wx fun e w' => e = .returned (.tuple #[.int .i64 7, .int .i64 1, .bool true]) ∧ Below w.heap.size w w') := fun wx hx => by
    have := parse_any ⟨#[48, 48, 48, 48, 48, 48, 48, 48, 48, 48, 48, 48, 48, 48, 48, 48, 48, 48, 48, 55, 46, 111, 102, 102]⟩ wx (by decide) (G.kept hx (Nat.le_refl _))
    rw [pr7] at this
    refine this.mono ?_
    rintro e w' ⟨rfl, hb⟩
    exact ⟨rfl, hx.trans (hb.mono hx.size)⟩
  have HQ : Hid (∀ wx, Below w.heap.size w wx → Calls Tryd.prog 12 #[.string ⟨#[55, 46, 108, 111, 103]⟩] wx fun e w' => e = .returned (.tuple #[.int .i64 0, .int .i64 0, .bool false]) ∧ Below w.heap.size w w') := fun wx hx => by
    have := parse_any ⟨#[55, 46, 108, 111, 103]⟩ wx (by decide) (G.kept hx (Nat.le_refl _))
    rw [prbad] at this
    refine this.mono ?_
    rintro e w' ⟨rfl, hb⟩
    exact ⟨rfl, hx.trans (hb.mono hx.size)⟩
  clear HN G
  go_enter Tryd.func9, Tryd.ntmps9
  go_wp2_with (go_at_call 10; refine HN'.out.mono ?_; rintro e w1 ⟨rfl, hb1⟩)
  refine (HP.out _ hb1).mono ?_
  rintro e w2 ⟨rfl, hb2⟩
  go_wp2_with fail
  refine (HQ.out _ hb2).mono ?_
  rintro e w3 ⟨rfl, hb3⟩
  go_wp2_with fail
  go_ret
  exact ⟨rfl, hb3⟩
theorem names_walk (base kind : Int) (w : World) (G : Gd w) : Calls Tryd.prog 3 #[.int .i64 base, .int .i64 kind] w fun e w' => e = .returned (.bool true) ∧ Below w.heap.size w w' := by
  have HA := hid (awake_any w G)
  have HN : Hid (∀ wx, Below w.heap.size w wx → Calls Tryd.prog 10 #[.int .i64 base, .int .i64 kind] wx fun e w' => e = .returned (.tuple #[.string (nmV base kind).1, .int .i64 (nmV base kind).2]) ∧ Below w.heap.size w w') := fun wx hx => by
    refine (name_any base kind wx (G.kept hx (Nat.le_refl _))).mono ?_
    rintro e w' ⟨rfl, hb⟩
    exact ⟨rfl, hx.trans (hb.mono hx.size)⟩
  have HR : Hid (∀ wx, Below w.heap.size w wx → Calls Tryd.prog 11 #[.int .i64 base, .int .i64 kind] wx fun e w' => e = .returned (.tuple #[.string (nmV base kind).1, .int .i64 (nmV base kind).2]) ∧ Below w.heap.size w w') := fun wx hx => by
    refine (rname_any base kind wx).mono ?_
    rintro e w' ⟨rfl, hb⟩
    exact ⟨rfl, hx.trans (hb.mono hx.size)⟩
  generalize (nmV base kind).1 = S at *
  generalize (nmV base kind).2 = E at *
  clear G
  go_enter Tryd.func3, Tryd.ntmps3
  go_wp2_with (first | (go_at_call 9; refine HA.out.mono ?_; rintro e w1 ⟨rfl, hb1⟩) | (go_at_call 10; refine (HN.out _ hb1).mono ?_; rintro e w2 ⟨rfl, hb2⟩) | (go_at_call 11; refine (HR.out _ hb2).mono ?_; rintro e w3 ⟨rfl, hb3⟩))
  go_ret
  exact ⟨rfl, hb3⟩
end Go.Proofs.YtgffipkbbenddaaDoor
