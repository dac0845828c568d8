/- The program's index: Find. -/
import Derived.Test.YtmhmohkeekmmgaaTxg
import Derived.Deep.LoopGhost
namespace Go.Proofs.Ytmhmohkeekmmgaa
open Go.RowKit
/-- The boxes that the search's closure sees. -/
structure Bx (w : World) (pb sb tb x : Nat) (t : Int) (c : Int) : Prop where
  p : w.heap[pb]? = some (.cells #[.int .i64 c] 3 (0, 0))
  s : w.heap[sb]? = some (.cells #[.pointer (some ⟨x, 0, none⟩)] 24 (0, 0))
  t : w.heap[tb]? = some (.cells #[.int .i64 t] 2 (0, 0))
theorem Bx.set {w : World} {pb sb tb x : Nat} {t : Int} {c : Int} (h : Bx w pb sb tb x t c) (c' : Int) : Bx (w.setCell ⟨pb, 0, none⟩ (.int .i64 c')) pb sb tb x t c' := by
  refine ⟨heap_set h.p, heap_set_far h.s ?_, heap_set_far h.t ?_⟩
  · show sb ≠ pb
    rintro rfl
    have := h.p; rw [h.s] at this; simp at this
  · show tb ≠ pb
    rintro rfl
    have := h.p; rw [h.t] at this; simp at this
theorem Bx.drewN {w : World} {pb sb tb x : Nat} {t : Int} {c : Int} (h : Bx w pb sb tb x t c) (n : Nat) : Bx (w.drewN n) pb sb tb x t c := ⟨h.p, h.s, h.t⟩
set_option maxRecDepth 20000 in
set_option maxHeartbeats 1000000 in
theorem find1_any {T : TypeId} (pb sb tb x j : Nat) (t c : Int) (v : Value) (l : List En) (w : World) (h : Ix T w x v l) (hB : Bx w pb sb tb x t c) (hj : j < l.length) (hc0 : 0 ≤ c) (hc : c ≤ 64) (hp : pb ≠ x) (hpr : ∀ g, v.ownBlock = some g → g ≠ pb) : Calls Try.prog 49 #[.int .i64 j, .pointer (some ⟨pb, 0, none⟩), .pointer (some ⟨sb, 0, none⟩), .pointer (some ⟨tb, 0, none⟩)] w fun r w' => r = .returned (.bool (decide (t ≤ (l.getD j en0).k))) ∧ Bx w' pb sb tb x t (c + 1) ∧ Ch (fun i => i = pb) w w' := by
  have HB := hid (hB.set (c + 1))
  have HX : Hid (Ix T (w.setCell ⟨pb, 0, none⟩ (.int .i64 (c + 1))) x v l) := h.ch (S := fun i => i = pb) ((Ch.refl _ _).setCell _ _ (fun _ => rfl)) (fun i hi => by
    rcases hi with rfl | hi
    · exact fun e => hp e.symm
    · exact hpr i hi)
  have c0 : w.cell? ⟨pb, 0, none⟩ = some (.int .i64 c) := (cell_of hB.p).trans rfl
  have f0 : w.frozen? ⟨pb, 0, none⟩ = false := froz_of hB.p
  have HC : Hid (Ch (fun i => i = pb) w (w.setCell ⟨pb, 0, none⟩ (.int .i64 (c + 1)))) := (Ch.refl _ _).setCell _ _ (fun _ => rfl)
  obtain ⟨N, a, cap, hN, rfl, hens⟩ := HX.out.row.ensN
  rcases hens with e | ⟨b, off, rfl, hb, hcc⟩
  · rw [e] at hj; cases hj
  obtain ⟨p0, p1⟩ := hcc j hj
  have q0 := HX.out.c0
  have q1 : (w.setCell ⟨pb, 0, none⟩ (.int .i64 (c + 1))).cell? ⟨sb, 0, none⟩ = some (.pointer (some ⟨x, 0, none⟩)) := (cell_of HB.out.s).trans rfl
  have q2 : (w.setCell ⟨pb, 0, none⟩ (.int .i64 (c + 1))).cell? ⟨tb, 0, none⟩ = some (.int .i64 t) := (cell_of HB.out.t).trans rfl
  generalize l.getD j en0 = s at *
  obtain ⟨sk, sa⟩ := s
  simp only at p0 p1 ⊢
  have hjN : (j : Int) < N := by omega
  clear h hB hcc hN hj hb
  generalize hw1 : w.setCell ⟨pb, 0, none⟩ (.int .i64 (c + 1)) = w1 at *
  go_enter Try.func49, Try.ntmps49
  go_wp2_with fail
  go_big_quiet (fail)
  go_wp2_with fail
  go_ret
  exact ⟨rfl, HB.out.drewN _, HC.out.drewN _⟩
end Go.Proofs.Ytmhmohkeekmmgaa
