/- How many bytes a record's own form has, as the program counts them; nothing that was there before is turned. -/
import Derived.Test.YtpfaioncaolmjaaGreatOsz
namespace Go.Proofs.YtpfaioncaolmjaaGreat
open Go.RowKit
def df : Hdr := (⟨#[]⟩, false, ⟨#[]⟩)
/-- Headers where they lie. -/
def Hds (w : World) (a : Option Addr) (hs : List Hdr) : Prop := hs = [] ∨ ∃ b off, a = some ⟨b, off, none⟩ ∧ b < w.heap.size ∧ ∀ j, j < hs.length → w.cell? ⟨b, off + j * 3, none⟩ = some (.string (hs.getD j df).1) ∧ w.cell? ⟨b, off + j * 3 + 1, none⟩ = some (.bool (hs.getD j df).2.1) ∧ w.cell? ⟨b, off + j * 3 + 2, none⟩ = some (.string (hs.getD j df).2.2)
theorem Hds.belowB {w w' : World} {B : Nat} {a : Option Addr} {hs : List Hdr} (h : Hds w a hs) (hB : w.heap.size ≤ B) (hb : Below B w w') : Hds w' a hs := by
  rcases h with h | ⟨b, off, ha, hlt, hc⟩
  · exact Or.inl h
  · refine Or.inr ⟨b, off, ha, Nat.lt_of_lt_of_le hlt hb.size, fun j hj => ?_⟩
    obtain ⟨h0, h1, h2⟩ := hc j hj
    exact ⟨(hb.cell (p := ⟨b, _, none⟩) (by show b < B; omega)).trans h0, (hb.cell (p := ⟨b, _, none⟩) (by show b < B; omega)).trans h1, (hb.cell (p := ⟨b, _, none⟩) (by show b < B; omega)).trans h2⟩
theorem Hds.below {w w' : World} {a : Option Addr} {hs : List Hdr} (h : Hds w a hs) (hb : Below w.heap.size w w') : Hds w' a hs := h.belowB (Nat.le_refl _) hb
/-- A record's value. -/
def recV (r : Rec) (a : Option Addr) (cap : Nat) : Value := .agg #[.int .i64 r.t, .bool r.kh, .string r.kd, .bool r.vh, .string r.vd, .slice a r.hs.length cap]
theorem hl_snoc (l : List Hdr) (x : Hdr) : hl (l ++ [x]) = hl l ++ hl1 x := by simp [hl]
theorem hl_take (hs : List Hdr) (j : Nat) (h : j < hs.length) : hl (hs.take (j + 1)) = hl (hs.take j) ++ hl1 (hs.getD j df) := by
  have e : hs.take (j + 1) = hs.take j ++ [hs.getD j df] := by
    rw [List.take_succ_eq_append_getElem h, List.getD_eq_getElem?_getD, List.getElem?_eq_getElem h]; rfl
  rw [e, hl_snoc]
theorem hl_app (l m : List Hdr) : hl (l ++ m) = hl l ++ hl m := by simp [hl]
theorem hl_take_le (hs : List Hdr) (j : Nat) : (hl (hs.take j)).length ≤ (hl hs).length := by
  have e := hl_app (hs.take j) (hs.drop j)
  rw [List.take_append_drop] at e
  rw [e, List.length_append]
  omega
theorem bel_next {B : Nat} {w0 w w' : World} (h : Below B w0 w) (hB : B ≤ w0.heap.size) (h' : Below w.heap.size w w') : Below B w0 w' :=
  ⟨h'.os.trans h.os, h'.tape.trans h.tape, h'.output.trans h.output, Nat.le_trans h.size h'.size, fun i hi => (h'.block i (by have := h.size; omega)).trans (h.block i hi)⟩
/-- A block of cells that stays. -/
theorem held_at {w0 x : World} {B P i : Nat} {c : Array Value} {T : TypeId} {v : Value} (h : w0.heap[P]? = some (.cells c T (0, 0))) (hP : P < B) (hv : c[i]? = some v) (hb : Below B w0 x) : x.cell? ⟨P, i, none⟩ = some v :=
  (cell_of ((hb.block P hP).trans h)).trans hv
theorem held5 {w0 x : World} {B P : Nat} {T : TypeId} {v0 v1 v2 v3 v4 v5 : Value} (h : w0.heap[P]? = some (.cells #[v0, v1, v2, v3, v4, v5] T (0, 0))) (hP : P < B) (hb : Below B w0 x) :
    (x.cell? ⟨P, 1, none⟩ = some v1 ∧ x.cell? ⟨P, 2, none⟩ = some v2 ∧ x.cell? ⟨P, 3, none⟩ = some v3 ∧ x.cell? ⟨P, 4, none⟩ = some v4 ∧ x.cell? ⟨P, 5, none⟩ = some v5) ∧ Below B w0 x :=
  ⟨⟨held_at h hP rfl hb, held_at h hP rfl hb, held_at h hP rfl hb, held_at h hP rfl hb, held_at h hP rfl hb⟩, hb⟩
theorem held3 {w0 x : World} {B P : Nat} {T : TypeId} {v0 v1 v2 : Value} (h : w0.heap[P]? = some (.cells #[v0, v1, v2] T (0, 0))) (hP : P < B) (hb : Below B w0 x) :
    (x.cell? ⟨P, 0, none⟩ = some v0 ∧ x.cell? ⟨P, 1, none⟩ = some v1 ∧ x.cell? ⟨P, 2, none⟩ = some v2) ∧ Below B w0 x :=
  ⟨⟨held_at h hP rfl hb, held_at h hP rfl hb, held_at h hP rfl hb⟩, hb⟩
theorem ol_ge (h : Bool) (d : ByteArray) : 1 ≤ (ol h d).length ∧ (h = true → d.size ≤ (ol h d).length) := by
  unfold ol
  split
  · rw [List.length_append, bl_len]; have := M.form_pos (2 * d.size); exact ⟨by omega, fun _ => by omega⟩
  · rename_i h'; exact ⟨by simp, fun h2 => absurd h2 h'⟩
theorem tx_ge (d : ByteArray) : 1 ≤ (tx d).length ∧ d.size ≤ (tx d).length := by
  unfold tx
  rw [List.length_append, bl_len]; have := M.form_pos d.size; exact ⟨by omega, by omega⟩
/-- Texts that can be counted, those of nulls too. -/
def Small (hs : List Hdr) : Prop := ∀ x ∈ hs, x.2.2.size ≤ 1000000000000000000
end Go.Proofs.YtpfaioncaolmjaaGreat
