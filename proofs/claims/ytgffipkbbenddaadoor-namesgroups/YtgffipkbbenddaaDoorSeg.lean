/- Segments: rows of them, Whole, and whether two rows are the same. -/
import Derived.Test.YtgffipkbbenddaaDoorTxs
import Derived.BigRegion
namespace Go.Proofs.YtgffipkbbenddaaDoor
open Go.RowKit Go.Lib
/-- A segment: its base, and which files there are. -/
structure Sg where
  b : Int
  x : Bool
  y : Bool
  z : Bool
def sg0 : Sg := ⟨0, false, false, false⟩
def sgv (s : Sg) : Value := .agg #[.int .i64 s.b, .bool s.x, .bool s.y, .bool s.z]
/-- A row of segments where it lies. -/
def Sgs (w : World) (a : Option Addr) (l : List Sg) : Prop := l = [] ∨ ∃ b off, a = some ⟨b, off, none⟩ ∧ b < w.heap.size ∧ ∀ j, j < l.length → w.cell? ⟨b, off + j * 4, none⟩ = some (.int .i64 (l.getD j sg0).b) ∧ w.cell? ⟨b, off + j * 4 + 1, none⟩ = some (.bool (l.getD j sg0).x) ∧ w.cell? ⟨b, off + j * 4 + 2, none⟩ = some (.bool (l.getD j sg0).y) ∧ w.cell? ⟨b, off + j * 4 + 3, none⟩ = some (.bool (l.getD j sg0).z)
theorem Sgs.kept {w w' : World} {a : Option Addr} {l : List Sg} {H : Nat} (h : Sgs w a l) (hb : Below H w w') (hH : w.heap.size ≤ H) : Sgs w' a l := by
  rcases h with h | ⟨b, off, h1, h2, h3⟩
  · exact Or.inl h
  · refine Or.inr ⟨b, off, h1, Nat.lt_of_lt_of_le h2 hb.size, fun j hj => ?_⟩
    obtain ⟨k0, k1, k2, k3⟩ := h3 j hj
    have hlt := Nat.lt_of_lt_of_le h2 hH
    exact ⟨(hb.cell (p := ⟨b, off + j * 4, none⟩) hlt).trans k0, (hb.cell (p := ⟨b, off + j * 4 + 1, none⟩) hlt).trans k1, (hb.cell (p := ⟨b, off + j * 4 + 2, none⟩) hlt).trans k2, (hb.cell (p := ⟨b, off + j * 4 + 3, none⟩) hlt).trans k3⟩
theorem eq3b (x y z x' y' z' : Bool) (w : World) : (Op.equalIn 10000 43 (.agg #[.bool x, .bool y, .bool z]) (.agg #[.bool x', .bool y', .bool z'])).run Tryd.prog w = .ok ((x == x') && ((y == y') && (z == z'))) w := by
  cases x <;> cases y <;> cases z <;> cases x' <;> cases y' <;> cases z' <;> kernel_rfl
set_option maxRecDepth 20000 in
theorem whole_any (s : Sg) (w : World) : Calls Tryd.prog 31 #[sgv s] w fun e w' => e = .returned (.bool (s.x && (s.y && s.z))) ∧ Below w.heap.size w w' := by
  obtain ⟨b, x, y, z⟩ := s
  unfold sgv
  have h : ∀ wx, _ := fun wx => eq3b x y z true true true wx
  have e : ((x == true) && ((y == true) && (z == true))) = (x && (y && z)) := by cases x <;> cases y <;> cases z <;> rfl
  simp only [e] at h
  dsimp only
  generalize (x && (y && z)) = R at *
  clear e
  go_enter Tryd.func31, Tryd.ntmps31
  go_wp2_with fail
  go_ret
  exact ⟨rfl, (Below.refl _ _).alloc (Nat.le_refl _) _⟩
end Go.Proofs.YtgffipkbbenddaaDoor
