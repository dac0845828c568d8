/- What attempt answers upon a nil reader. -/
import Derived.Test.YtpfaioncaolmjaaGreatNla
import Derived.Test.YtpfaioncaolmjaaGreatAttW
import Derived.Test.YtpfaioncaolmjaaGreatAttR
namespace Go.Proofs.YtpfaioncaolmjaaGreat
open Go.RowKit
set_option maxHeartbeats 1000000 in
set_option maxRecDepth 20000 in
theorem nil_quit_str (why : Nat) (F : Nat) (caps : Array Value) (w : World) (hF : ∀ (args : Array Value) (w : World), (callFunc F args).run Tryz.prog w = .ok (.enter F args) w)
    (hcall : ∀ w1, Below w.heap.size w w1 → Rd w1 (w.heap.size + 1) ⟨#[]⟩ 0 0 → Calls Tryz.prog F (#[.pointer (some ⟨w.heap.size + 1, 0, none⟩)] ++ caps) w1 (Quits (w.heap.size + 1) ⟨#[]⟩ why w1)) :
    Calls Tryz.prog 64 #[.pointer none, .func (.func F) #[] caps] w fun e w' => e = .returned (.tuple #[.string ⟨#[]⟩, .int .i64 why]) ∧ Below w.heap.size w w' := by
  have hmf : ∀ (fn : Fn) (first cap : Array Value) (w : World), (Instr.makeFunc fn first cap).run Tryz.prog w = .ok (.func fn first cap) w := fun _ _ _ _ => rfl
  go_enter_defers Tryz.func64, Tryz.ntmps64
  go_wp2_with (go_at_call 58; refine (source_nil _).mono ?_; rintro e w' ⟨rfl, rfl⟩)
  refine (hcall _ (((Below.refl _ _).alloc (by simp) _).alloc (by simp <;> omega) _ |>.alloc (by simp <;> omega) _ |>.alloc (by simp <;> omega) _) ?_).mono ?_
  · exact heap_alloc_at (heap_alloc_at (heap_new' _ _ _ (by simp)))
  rintro e w2 ⟨rfl, ⟨k2, hrd⟩, hch⟩
  have g0 : w2.heap[w.heap.size]? = some (.cells #[.int .i64 0] 38 (0, 0)) := (hch.block _ (by simp <;> omega) (by omega)).trans (heap_alloc_at (heap_alloc_at (heap_alloc_at (heap_new _ _))))
  have g1 : w2.heap[w.heap.size + 1 + 1]? = some (.cells #[.pointer (some ⟨w.heap.size + 1, 0, none⟩)] 35 (0, 0)) := by
    exact (hch.block _ (by simp <;> omega) (by omega)).trans (heap_alloc_at (heap_new' _ _ _ (by simp)))
  have g2 : w2.heap[w.heap.size + 1 + 1 + 1]? = some (.cells #[.int .i64 0] 47 (0, 0)) := by
    exact (hch.block _ (by simp <;> omega) (by omega)).trans (heap_new' _ _ _ (by simp))
  have HC : Hid (Ch (fun i => i = w.heap.size + 1) w w2) := ((((Ch.refl _ _).alloc _).alloc _ |>.alloc _).alloc _).trans hch
  have HG0 := Hid.mk g0
  have HG1 := Hid.mk g1
  have HG2 := Hid.mk g2
  clear g0 g1 g2 hch
  go_wp2
  refine leaves_cons (f := 102) (args := #[.pointer (some ⟨w.heap.size + 1 + 1 + 1, 0, none⟩), .pointer (some ⟨w.heap.size + 1 + 1, 0, none⟩), .pointer (some ⟨w.heap.size, 0, none⟩)]) (by simp) (by simp [go_sem]) ?_
  refine (catch_panic_str _ _ _ _ ⟨#[]⟩ 0 k2 why 0 _ hrd HG2.out HG1.out HG0.out (by omega) (by omega) (by omega) (by omega) (by omega)).mono ?_
  rintro e u' w'' ⟨rfl, rfl, hrd', hg', hch'⟩
  have c6 : w''.cell? ⟨w.heap.size, 0, none⟩ = some (.int .i64 why) := (cell_of hg').trans rfl
  have HF : Below w.heap.size w w'' := (HC.out.below (Nat.le_refl _) (fun i hi h => by omega)).trans (hch'.below (by have := HC.out.size; omega) (fun i hi h => by omega))
  simp [Leaves, settle, results, Tryz.results64, go_sem, c6, HF]
set_option maxHeartbeats 1000000 in
set_option maxRecDepth 20000 in
theorem nil_ok_str (v : Value) (k' : Nat) (F : Nat) (caps : Array Value) (w : World) (hF : ∀ (args : Array Value) (w : World), (callFunc F args).run Tryz.prog w = .ok (.enter F args) w)
    (hcall : ∀ w1, Below w.heap.size w w1 → Rd w1 (w.heap.size + 1) ⟨#[]⟩ 0 0 → Calls Tryz.prog F (#[.pointer (some ⟨w.heap.size + 1, 0, none⟩)] ++ caps) w1 (Gets (w.heap.size + 1) ⟨#[]⟩ v k' w1)) :
    Calls Tryz.prog 64 #[.pointer none, .func (.func F) #[] caps] w fun e w' => e = .returned (.tuple #[v, .int .i64 0]) ∧ Below w.heap.size w w' := by
  have hmf : ∀ (fn : Fn) (first cap : Array Value) (w : World), (Instr.makeFunc fn first cap).run Tryz.prog w = .ok (.func fn first cap) w := fun _ _ _ _ => rfl
  go_enter_defers Tryz.func64, Tryz.ntmps64
  go_wp2_with (go_at_call 58; refine (source_nil _).mono ?_; rintro e w' ⟨rfl, rfl⟩)
  refine (hcall _ (((Below.refl _ _).alloc (by simp) _).alloc (by simp <;> omega) _ |>.alloc (by simp <;> omega) _ |>.alloc (by simp <;> omega) _) ?_).mono ?_
  · exact heap_alloc_at (heap_alloc_at (heap_new' _ _ _ (by simp)))
  rintro e w2 ⟨rfl, hrd, hch⟩
  have g0 : w2.heap[w.heap.size]? = some (.cells #[.int .i64 0] 38 (0, 0)) := (hch.block _ (by simp <;> omega) (by omega)).trans (heap_alloc_at (heap_alloc_at (heap_alloc_at (heap_new _ _))))
  have c5 : w2.cell? ⟨w.heap.size, 0, none⟩ = some (.int .i64 0) := (cell_of g0).trans rfl
  have f5 := froz_of (i := 0) g0
  have HC : Hid (Ch (fun i => i = w.heap.size + 1) w w2) := ((((Ch.refl _ _).alloc _).alloc _ |>.alloc _).alloc _).trans hch
  have HG := Hid.mk g0
  clear g0 hch
  go_wp2
  refine leaves_cons (f := 102) (args := #[.pointer (some ⟨w.heap.size + 1 + 1 + 1, 0, none⟩), .pointer (some ⟨w.heap.size + 1 + 1, 0, none⟩), .pointer (some ⟨w.heap.size, 0, none⟩)]) (by simp) (by simp [go_sem]) ?_
  refine (catch_idle_str _ _ _ _).mono ?_
  rintro e u' w'' ⟨rfl, rfl, rfl⟩
  have c6 : (w2.setCell ⟨w.heap.size, 0, none⟩ (.int .i64 0)).cell? ⟨w.heap.size, 0, none⟩ = some (.int .i64 0) := (cell_of (heap_set HG.out)).trans rfl
  exact ⟨_, by simp [results, Tryz.results64, go_sem, c6], rfl, (HC.out.below (Nat.le_refl _) (fun i hi h => by omega)).setCell (by simp) _⟩
set_option maxHeartbeats 1000000 in
set_option maxRecDepth 20000 in
theorem nil_quit_rdr (why : Nat) (F : Nat) (caps : Array Value) (w : World) (hF : ∀ (args : Array Value) (w : World), (callFunc F args).run Tryz.prog w = .ok (.enter F args) w)
    (hcall : ∀ w1, Below w.heap.size w w1 → Rd w1 (w.heap.size + 1) ⟨#[]⟩ 0 0 → Calls Tryz.prog F (#[.pointer (some ⟨w.heap.size + 1, 0, none⟩)] ++ caps) w1 (Quits (w.heap.size + 1) ⟨#[]⟩ why w1)) :
    Calls Tryz.prog 113 #[.pointer none, .func (.func F) #[] caps] w fun e w' => e = .returned (.tuple #[.pointer none, .int .i64 why]) ∧ Below w.heap.size w w' := by
  have hmf : ∀ (fn : Fn) (first cap : Array Value) (w : World), (Instr.makeFunc fn first cap).run Tryz.prog w = .ok (.func fn first cap) w := fun _ _ _ _ => rfl
  go_enter_defers Tryz.func113, Tryz.ntmps113
  go_wp2_with (go_at_call 58; refine (source_nil _).mono ?_; rintro e w' ⟨rfl, rfl⟩)
  refine (hcall _ (((Below.refl _ _).alloc (by simp) _).alloc (by simp <;> omega) _ |>.alloc (by simp <;> omega) _ |>.alloc (by simp <;> omega) _) ?_).mono ?_
  · exact heap_alloc_at (heap_alloc_at (heap_new' _ _ _ (by simp)))
  rintro e w2 ⟨rfl, ⟨k2, hrd⟩, hch⟩
  have g0 : w2.heap[w.heap.size]? = some (.cells #[.int .i64 0] 38 (0, 0)) := (hch.block _ (by simp <;> omega) (by omega)).trans (heap_alloc_at (heap_alloc_at (heap_alloc_at (heap_new _ _))))
  have g1 : w2.heap[w.heap.size + 1 + 1]? = some (.cells #[.pointer (some ⟨w.heap.size + 1, 0, none⟩)] 35 (0, 0)) := by
    exact (hch.block _ (by simp <;> omega) (by omega)).trans (heap_alloc_at (heap_new' _ _ _ (by simp)))
  have g2 : w2.heap[w.heap.size + 1 + 1 + 1]? = some (.cells #[.int .i64 0] 47 (0, 0)) := by
    exact (hch.block _ (by simp <;> omega) (by omega)).trans (heap_new' _ _ _ (by simp))
  have HC : Hid (Ch (fun i => i = w.heap.size + 1) w w2) := ((((Ch.refl _ _).alloc _).alloc _ |>.alloc _).alloc _).trans hch
  have HG0 := Hid.mk g0
  have HG1 := Hid.mk g1
  have HG2 := Hid.mk g2
  clear g0 g1 g2 hch
  go_wp2
  refine leaves_cons (f := 133) (args := #[.pointer (some ⟨w.heap.size + 1 + 1 + 1, 0, none⟩), .pointer (some ⟨w.heap.size + 1 + 1, 0, none⟩), .pointer (some ⟨w.heap.size, 0, none⟩)]) (by simp) (by simp [go_sem]) ?_
  refine (catch_panic_rdr _ _ _ _ ⟨#[]⟩ 0 k2 why 0 _ hrd HG2.out HG1.out HG0.out (by omega) (by omega) (by omega) (by omega) (by omega)).mono ?_
  rintro e u' w'' ⟨rfl, rfl, hrd', hg', hch'⟩
  have c6 : w''.cell? ⟨w.heap.size, 0, none⟩ = some (.int .i64 why) := (cell_of hg').trans rfl
  have HF : Below w.heap.size w w'' := (HC.out.below (Nat.le_refl _) (fun i hi h => by omega)).trans (hch'.below (by have := HC.out.size; omega) (fun i hi h => by omega))
  simp [Leaves, settle, results, Tryz.results113, go_sem, c6, HF]
set_option maxHeartbeats 1000000 in
set_option maxRecDepth 20000 in
theorem nil_ok_rdr (v : Value) (k' : Nat) (F : Nat) (caps : Array Value) (w : World) (hF : ∀ (args : Array Value) (w : World), (callFunc F args).run Tryz.prog w = .ok (.enter F args) w)
    (hcall : ∀ w1, Below w.heap.size w w1 → Rd w1 (w.heap.size + 1) ⟨#[]⟩ 0 0 → Calls Tryz.prog F (#[.pointer (some ⟨w.heap.size + 1, 0, none⟩)] ++ caps) w1 (Gets (w.heap.size + 1) ⟨#[]⟩ v k' w1)) :
    Calls Tryz.prog 113 #[.pointer none, .func (.func F) #[] caps] w fun e w' => e = .returned (.tuple #[v, .int .i64 0]) ∧ Below w.heap.size w w' := by
  have hmf : ∀ (fn : Fn) (first cap : Array Value) (w : World), (Instr.makeFunc fn first cap).run Tryz.prog w = .ok (.func fn first cap) w := fun _ _ _ _ => rfl
  go_enter_defers Tryz.func113, Tryz.ntmps113
  go_wp2_with (go_at_call 58; refine (source_nil _).mono ?_; rintro e w' ⟨rfl, rfl⟩)
  refine (hcall _ (((Below.refl _ _).alloc (by simp) _).alloc (by simp <;> omega) _ |>.alloc (by simp <;> omega) _ |>.alloc (by simp <;> omega) _) ?_).mono ?_
  · exact heap_alloc_at (heap_alloc_at (heap_new' _ _ _ (by simp)))
  rintro e w2 ⟨rfl, hrd, hch⟩
  have g0 : w2.heap[w.heap.size]? = some (.cells #[.int .i64 0] 38 (0, 0)) := (hch.block _ (by simp <;> omega) (by omega)).trans (heap_alloc_at (heap_alloc_at (heap_alloc_at (heap_new _ _))))
  have c5 : w2.cell? ⟨w.heap.size, 0, none⟩ = some (.int .i64 0) := (cell_of g0).trans rfl
  have f5 := froz_of (i := 0) g0
  have HC : Hid (Ch (fun i => i = w.heap.size + 1) w w2) := ((((Ch.refl _ _).alloc _).alloc _ |>.alloc _).alloc _).trans hch
  have HG := Hid.mk g0
  clear g0 hch
  go_wp2
  refine leaves_cons (f := 133) (args := #[.pointer (some ⟨w.heap.size + 1 + 1 + 1, 0, none⟩), .pointer (some ⟨w.heap.size + 1 + 1, 0, none⟩), .pointer (some ⟨w.heap.size, 0, none⟩)]) (by simp) (by simp [go_sem]) ?_
  refine (catch_idle_rdr _ _ _ _).mono ?_
  rintro e u' w'' ⟨rfl, rfl, rfl⟩
  have c6 : (w2.setCell ⟨w.heap.size, 0, none⟩ (.int .i64 0)).cell? ⟨w.heap.size, 0, none⟩ = some (.int .i64 0) := (cell_of (heap_set HG.out)).trans rfl
  exact ⟨_, by simp [results, Tryz.results113, go_sem, c6], rfl, (HC.out.below (Nat.le_refl _) (fun i hi h => by omega)).setCell (by simp) _⟩
end Go.Proofs.YtpfaioncaolmjaaGreat
