/- What a file's cut and put leave. -/
import Derived.Test.YthjbhfhdepepmaaDfr
namespace Go.Proofs.Ythjbhfhdepepmaa
open Go.RowKit
/-- A row's beginning. -/
theorem own_take {w : World} {v : Value} {l : List UInt8} (h : w.ownsRow 0 5 1 v l.length (Lib.byteCells l)) (n : Nat) (hn : n ≤ l.length) :
    ∃ v2, (∀ w' : World, (Instr.slice 81 v none (some (.int .i64 (n : Int))) none).run Try.prog w' = .ok v2 w') ∧ w.ownsRow 0 5 1 v2 (l.take n).length (Lib.byteCells (l.take n)) ∧ v2.ownBlock = v.ownBlock := by
  obtain ⟨i0, hi, hz0, hz1, hz2⟩ := info_parts Try.info5
  have hl : (l.take n).length = n := by simp; omega
  rcases h.2 with ⟨rfl, h2⟩ | ⟨g, cap, cur, rfl, hg, hh, hnc, hcm, hcs, htk⟩
  · have e2 : n = 0 := by omega
    subst e2
    refine ⟨.slice none 0 0, fun w' => ?_, ?_, rfl⟩
    · have := run_slice_h (P := Try.prog) (w := w') 81 none 0 0 underB .i64 0 (by omega) (by omega)
      simpa [sizeOf, typeInfo, elemB, hi, sliced, hz1] using this
    · rw [hl, List.take_zero]; exact World.ownsRow_nil w 0 5 1
  · refine ⟨.slice (some ⟨g, 0, none⟩) n cap, fun w' => ?_, ?_, rfl⟩
    · have := run_slice_h (P := Try.prog) (w := w') 81 (some ⟨g, 0, none⟩) l.length cap underB .i64 (n : Int) (by omega) (by omega)
      rw [this]
      simp [sizeOf, typeInfo, elemB, hi, hz1, sliced, add_lit]
    · rw [hl]
      refine ⟨by simp [Lib.byteCells]; omega, Or.inr ⟨g, cap, cur, rfl, hg, hh, by omega, hcm, hcs, ?_⟩⟩
      have e : Lib.byteCells (l.take n) = (Lib.byteCells l).take n := by simp [Lib.byteCells, List.map_take]
      rw [e, ← htk]
      simp only [Nat.mul_one]
      rw [List.take_take, Nat.min_eq_left hn]
set_option maxHeartbeats 1000000 in
set_option maxRecDepth 20000 in
theorem cut_any (f : Fl) (n : Nat) (w : World) (h : FA w f) (hn : n ≤ f.da.length) :
    Calls Try.prog 87 #[.pointer (some ⟨f.bk, 0, none⟩), .int .i64 n] w fun e w' => e = .returned (.tuple #[]) ∧ ∃ v, FA w' { f with sl := v, da := f.da.take n, sy := min f.sy n } ∧ Ch (fun i => i = f.bk) w w' ∧ v.ownBlock = f.sl.ownBlock := by
  have hrw := h.row
  obtain ⟨v2, h1, h2, h3⟩ := own_take h.2 n hn
  obtain ⟨g, ho⟩ := h
  have c0 : w.cell? ⟨f.bk, 0, none⟩ = some f.sl := (cell_of g).trans rfl
  have c1 : w.cell? ⟨f.bk, 1, none⟩ = some (.int .i64 f.sy) := (cell_of g).trans rfl
  have e0 := froz_of (i := 0) g
  have e1 := froz_of (i := 1) g
  obtain ⟨ad, cap, e⟩ := own_form ho
  obtain ⟨ad2, cap2, rfl⟩ := own_form h2
  rw [e] at c0 h1
  have h1' := h1 w
  have HO := Hid.mk h2
  have HG := Hid.mk g
  have HE := Hid.mk e
  clear h1 h2 g e ho
  generalize hN : f.da.length = N at *
  have HN := Hid.mk hN
  clear hN
  generalize hM : (f.da.take n).length = M at *
  have HM := Hid.mk hM
  clear hM
  have fin : ∀ x, x = min f.sy n → FA ((w.setCell ⟨f.bk, 0, none⟩ (.slice ad2 M cap2)).setCell ⟨f.bk, 1, none⟩ (.int .i64 (x : Nat))) { f with sl := .slice ad2 M cap2, da := f.da.take n, sy := min f.sy n } := by
    rintro x rfl
    refine ⟨heap_set (heap_set HG.out), own_setCell (own_setCell (by show World.ownsRow _ _ _ _ _ (f.da.take n).length _; rw [HM.out]; exact HO.out) ?_) ?_⟩
    · rw [h3]; exact hrw
    · rw [h3]; exact hrw
  have HF := Hid.mk fin
  clear fin
  go_enter Try.func87, Try.ntmps87
  go_wp2
  all_goals
    go_end0
    first
      | exact ⟨rfl, _, HF.out f.sy (by omega), ((Ch.refl (fun i => i = f.bk) _).setCell _ _ (fun _ => rfl)).setCell _ _ (fun _ => rfl), h3⟩
      | exact ⟨rfl, _, HF.out n (by omega), ((Ch.refl (fun i => i = f.bk) _).setCell _ _ (fun _ => rfl)).setCell _ _ (fun _ => rfl), h3⟩
end Go.Proofs.Ythjbhfhdepepmaa
