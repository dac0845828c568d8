/- What attempt answers, by what its cursor's call does: where it has read, that; where it gives up, zero and the error, and the reader stands where it stood. -/
import Derived.Test.YtpfaioncaolmjaaGreatCur3
import Derived.Defers
import Derived.Recover
import Derived.RegionTactic
import Derived.Deep.RegionHeld
namespace Go.Proofs.YtpfaioncaolmjaaGreat
open Go.RowKit
theorem source_some (b : Nat) (w : World) :
    Calls Tryz.prog 58 #[.pointer (some ⟨b, 0, none⟩)] w fun e w' => e = .returned (.pointer (some ⟨b, 0, none⟩)) ∧ w' = w := by
  go_enter Tryz.func58, Tryz.ntmps58
  go_wp2
  go_ret
  exact ⟨rfl, rfl⟩
theorem catch_idle_u64 (st sp ep : Nat) (w : World) :
    CallsD Tryz.prog 101 #[.pointer (some ⟨st, 0, none⟩), .pointer (some ⟨sp, 0, none⟩), .pointer (some ⟨ep, 0, none⟩)] .returning w fun e u' w' => e = .returned (.tuple #[]) ∧ u' = .returning ∧ w' = w := by
  refine callsD_of_wpS Tryz.func101 rfl fun c₀ cs hu => ?_
  apply wpS_seq
  apply wpS_region
  simp [wpOpsS, go_sem, recoverD, hu, Tryz.ntmps101, Exit.thenS]
  simp only [Array.replicate, List.replicate, List.setIfInBounds_toArray, List.set_cons_zero, List.set_cons_succ, List.append_toArray, List.cons_append, List.nil_append]
  apply wpS_of_wp
  go_wp2
  cases c₀
  simp_all [bodyPostS, results, Tryz.results101]
theorem assert_failure (v : Value) (w : World) : (Instr.typeAssert (.iface 129 v) 20 129 true).run Tryz.prog w = .ok (.tuple #[v, .bool true]) w := by
  simp [Instr.typeAssert, run_underlying Tryz.underlying129]
set_option maxHeartbeats 1000000 in
set_option maxRecDepth 20000 in
theorem catch_panic_u64 (b st sp ep : Nat) (s : ByteArray) (k k2 why : Nat) (ee : Int) (w : World) (h : Rd w b s k2 0)
    (h1 : w.heap[st]? = some (.cells #[.int .i64 k] 47 (0, 0))) (h2 : w.heap[sp]? = some (.cells #[.pointer (some ⟨b, 0, none⟩)] 35 (0, 0))) (h3 : w.heap[ep]? = some (.cells #[.int .i64 ee] 38 (0, 0)))
    (d1 : b ≠ st) (d2 : b ≠ sp) (d3 : b ≠ ep) (d4 : ep ≠ st) (d5 : ep ≠ sp) :
    CallsD Tryz.prog 101 #[.pointer (some ⟨st, 0, none⟩), .pointer (some ⟨sp, 0, none⟩), .pointer (some ⟨ep, 0, none⟩)] (.panicking [{ v := .iface 129 (.agg #[.int .i64 why]), recovered := false }]) w fun e u' w' => e = .returned (.tuple #[]) ∧ u' = .panicking [{ v := .iface 129 (.agg #[.int .i64 why]), recovered := true }] ∧ Rd w' b s k why ∧ w'.heap[ep]? = some (.cells #[.int .i64 why] 38 (0, 0)) ∧ Ch (fun i => i = b ∨ i = ep) w w' := by
  have hta := assert_failure
  have c0 := h.c0
  have c2 := h.c2
  have f0 := h.fz 0
  have f2 := h.fz 2
  have c3 : w.cell? ⟨st, 0, none⟩ = some (.int .i64 k) := (cell_of h1).trans rfl
  have c4 : w.cell? ⟨sp, 0, none⟩ = some (.pointer (some ⟨b, 0, none⟩)) := (cell_of h2).trans rfl
  have c5 : w.cell? ⟨ep, 0, none⟩ = some (.int .i64 ee) := (cell_of h3).trans rfl
  have f5 := froz_of (i := 0) h3
  have l0 := h.lt
  have l1 := lt_of_heap h1
  have l2 := lt_of_heap h2
  have l3 := lt_of_heap h3
  have d1' := d1.symm
  have d2' := d2.symm
  have d6 : b ≠ w.heap.size := by omega
  have d6' := d6.symm
  refine callsD_of_wpS Tryz.func101 rfl fun c₀ cs hu => ?_
  apply wpS_seq
  apply wpS_region
  simp [wpOpsS, go_sem, recoverD, hu, Tryz.ntmps101, Exit.thenS]
  simp only [Array.replicate, List.replicate, List.setIfInBounds_toArray, List.set_cons_zero, List.set_cons_succ, List.append_toArray, List.cons_append, List.nil_append]
  apply wpS_of_wp
  go_wp2
  go_region_held (fun w' => w'.cell? ⟨st, 0, none⟩ = some (.int .i64 k) ∧ w'.cell? ⟨sp, 0, none⟩ = some (.pointer (some ⟨b, 0, none⟩)) ∧ w'.cell? ⟨w.heap.size, 0, none⟩ = some (.int .i64 why)) ((refine ⟨?_, ?_, ?_⟩ <;> go_simp)) (fail)
  go_wp2
  refine ⟨rfl, _, rfl, _, by simp [results, Tryz.results101], rfl, rfl, ?_, ?_, ?_⟩
  · exact ((((h.set0 k).set2 why).far _ d3).alloc _).drew
  · exact heap_alloc_at (heap_set (heap_set_far (heap_set_far h3 d3.symm) d3.symm))
  · exact (((((Ch.refl _ _).setCell _ _ (fun _ => Or.inl rfl)).setCell _ _ (fun _ => Or.inl rfl)).setCell _ _ (fun _ => Or.inr rfl)).alloc _).drew
end Go.Proofs.YtpfaioncaolmjaaGreat
