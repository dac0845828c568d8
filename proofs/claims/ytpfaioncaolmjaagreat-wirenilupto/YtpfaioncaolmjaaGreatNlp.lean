/- What attempt answers upon a nil reader. -/
import Derived.Test.YtpfaioncaolmjaaGreatNlc
namespace Go.Proofs.YtpfaioncaolmjaaGreat
open Go.RowKit
set_option maxHeartbeats 1000000 in
set_option maxRecDepth 20000 in
theorem nil_part (F : Nat) (caps : Array Value) (w : World) (hF : ∀ (args : Array Value) (w : World), (callFunc F args).run Tryz.prog w = .ok (.enter F args) w)
    (hcall : ∀ w1, Below w.heap.size w w1 → Rd w1 (w.heap.size + 1) ⟨#[]⟩ 0 0 → Calls Tryz.prog F (#[.pointer (some ⟨w.heap.size + 1, 0, none⟩)] ++ caps) w1 (fun e w2 => ∃ q, w1.heap.size ≤ q ∧ e = .returned (.pointer (some ⟨q, 0, none⟩)) ∧ Rd w2 q ⟨#[]⟩ 0 0 ∧ Rd w2 (w.heap.size + 1) ⟨#[]⟩ 0 0 ∧ Ch (fun i => i = w.heap.size + 1) w1 w2)) :
    Calls Tryz.prog 113 #[.pointer none, .func (.func F) #[] caps] w fun e w' => ∃ q, w.heap.size ≤ q ∧ e = .returned (.tuple #[.pointer (some ⟨q, 0, none⟩), .int .i64 0]) ∧ Rd w' q ⟨#[]⟩ 0 0 ∧ Below w.heap.size w w' := by
  have hmf : ∀ (fn : Fn) (first cap : Array Value) (w : World), (Instr.makeFunc fn first cap).run Tryz.prog w = .ok (.func fn first cap) w := fun _ _ _ _ => rfl
  go_enter_defers Tryz.func113, Tryz.ntmps113
  go_wp2_with (go_at_call 58; refine (source_nil _).mono ?_; rintro e w' ⟨rfl, rfl⟩)
  refine (hcall _ (((Below.refl _ _).alloc (by simp) _).alloc (by simp <;> omega) _ |>.alloc (by simp <;> omega) _ |>.alloc (by simp <;> omega) _) ?_).mono ?_
  · exact heap_alloc_at (heap_alloc_at (heap_new' _ _ _ (by simp)))
  rintro e w2 ⟨q, hq, rfl, hrq, _, hch⟩
  have hq' : w.heap.size + 4 ≤ q := by simp at hq; omega
  clear hq
  have g0 : w2.heap[w.heap.size]? = some (.cells #[.int .i64 0] 38 (0, 0)) := (hch.block _ (by simp <;> omega) (by omega)).trans (heap_alloc_at (heap_alloc_at (heap_alloc_at (heap_new _ _))))
  have c5 : w2.cell? ⟨w.heap.size, 0, none⟩ = some (.int .i64 0) := (cell_of g0).trans rfl
  have f5 := froz_of (i := 0) g0
  have HC : Hid (Ch (fun i => i = w.heap.size + 1) w w2) := ((((Ch.refl _ _).alloc _).alloc _ |>.alloc _).alloc _).trans hch
  have HG := Hid.mk g0
  clear g0 hch
  go_wp2
  refine leaves_cons (f := 133) (args := #[.pointer (some ⟨w.heap.size + 1 + 1 + 1, 0, none⟩), .pointer (some ⟨w.heap.size + 1 + 1, 0, none⟩), .pointer (some ⟨w.heap.size, 0, none⟩)]) (by simp) (by simp [go_sem]) ?_
  refine (catch_idle_rdr _ _ _ _).mono ?_
  rintro e u' w'' ⟨rfl, rfl, rfl⟩
  have c6 : (w2.setCell ⟨w.heap.size, 0, none⟩ (.int .i64 0)).cell? ⟨w.heap.size, 0, none⟩ = some (.int .i64 0) := (cell_of (heap_set HG.out)).trans rfl
  exact ⟨_, by simp [results, Tryz.results113, go_sem, c6], q, by omega, rfl, hrq.far _ (by show q ≠ w.heap.size; omega), (HC.out.below (Nat.le_refl _) (fun i hi h => by omega)).setCell (by simp) _⟩
end Go.Proofs.YtpfaioncaolmjaaGreat
