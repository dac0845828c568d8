/- What attempt answers at one kind of answer: what its cursor's call has read; or zero and the error, and the reader stands where it stood; or at once the error that it has. -/
import Derived.Test.YtpfaioncaolmjaaGreatAnsd
namespace Go.Proofs.YtpfaioncaolmjaaGreat
open Go.RowKit
theorem catch_idle_u32 (st sp ep : Nat) (w : World) :
    CallsD Tryz.prog 122 #[.pointer (some ⟨st, 0, none⟩), .pointer (some ⟨sp, 0, none⟩), .pointer (some ⟨ep, 0, none⟩)] .returning w fun e u' w' => e = .returned (.tuple #[]) ∧ u' = .returning ∧ w' = w := by
  refine callsD_of_wpS Tryz.func122 rfl fun c₀ cs hu => ?_
  apply wpS_seq
  apply wpS_region
  simp [wpOpsS, go_sem, recoverD, hu, Tryz.ntmps122, Exit.thenS]
  simp only [Array.replicate, List.replicate, List.setIfInBounds_toArray, List.set_cons_zero, List.set_cons_succ, List.append_toArray, List.cons_append, List.nil_append]
  apply wpS_of_wp
  go_wp2
  cases c₀
  simp_all [bodyPostS, results, Tryz.results122]
set_option maxHeartbeats 1000000 in
set_option maxRecDepth 20000 in
theorem catch_panic_u32 (b st sp ep : Nat) (s : ByteArray) (k k2 why : Nat) (ee : Int) (w : World) (h : Rd w b s k2 0)
    (h1 : w.heap[st]? = some (.cells #[.int .i64 k] 47 (0, 0))) (h2 : w.heap[sp]? = some (.cells #[.pointer (some ⟨b, 0, none⟩)] 35 (0, 0))) (h3 : w.heap[ep]? = some (.cells #[.int .i64 ee] 38 (0, 0)))
    (d1 : b ≠ st) (d2 : b ≠ sp) (d3 : b ≠ ep) (d4 : ep ≠ st) (d5 : ep ≠ sp) :
    CallsD Tryz.prog 122 #[.pointer (some ⟨st, 0, none⟩), .pointer (some ⟨sp, 0, none⟩), .pointer (some ⟨ep, 0, none⟩)] (.panicking [{ v := .iface 129 (.agg #[.int .i64 why]), recovered := false }]) w fun e u' w' => e = .returned (.tuple #[]) ∧ u' = .panicking [{ v := .iface 129 (.agg #[.int .i64 why]), recovered := true }] ∧ Rd w' b s k why ∧ w'.heap[ep]? = some (.cells #[.int .i64 why] 38 (0, 0)) ∧ Ch (fun i => i = b ∨ i = ep) w w' := by
  have hta := assert_failure
  have c0 := h.c0
  have c2 := h.c2
  have f0 := h.fz 0
  have f2 := h.fz 2
  have c3 : w.cell? ⟨st, 0, none⟩ = some (.int .i64 k) := (cell_of h1).trans rfl
  have c4 : w.cell? ⟨sp, 0, none⟩ = some (.pointer (some ⟨b, 0, none⟩)) := (cell_of h2).trans rfl
  have c5 : w.cell? ⟨ep, 0, none⟩ = some (.int .i64 ee) := (cell_of h3).trans rfl
  have f5 := froz_of (i := 0) h3
  have l0 := h.lt
  have l1 := lt_of_heap h1
  have l2 := lt_of_heap h2
  have l3 := lt_of_heap h3
  have d1' := d1.symm
  have d2' := d2.symm
  have d6 : b ≠ w.heap.size := by omega
  have d6' := d6.symm
  refine callsD_of_wpS Tryz.func122 rfl fun c₀ cs hu => ?_
  apply wpS_seq
  apply wpS_region
  simp [wpOpsS, go_sem, recoverD, hu, Tryz.ntmps122, Exit.thenS]
  simp only [Array.replicate, List.replicate, List.setIfInBounds_toArray, List.set_cons_zero, List.set_cons_succ, List.append_toArray, List.cons_append, List.nil_append]
  apply wpS_of_wp
  go_wp2
  go_region_held (fun w' => w'.cell? ⟨st, 0, none⟩ = some (.int .i64 k) ∧ w'.cell? ⟨sp, 0, none⟩ = some (.pointer (some ⟨b, 0, none⟩)) ∧ w'.cell? ⟨w.heap.size, 0, none⟩ = some (.int .i64 why)) ((refine ⟨?_, ?_, ?_⟩ <;> go_simp)) (fail)
  go_wp2
  refine ⟨rfl, _, rfl, _, by simp [results, Tryz.results122], rfl, rfl, ?_, ?_, ?_⟩
  · exact ((((h.set0 k).set2 why).far _ d3).alloc _).drew
  · exact heap_alloc_at (heap_set (heap_set_far (heap_set_far h3 d3.symm) d3.symm))
  · exact (((((Ch.refl _ _).setCell _ _ (fun _ => Or.inl rfl)).setCell _ _ (fun _ => Or.inl rfl)).setCell _ _ (fun _ => Or.inr rfl)).alloc _).drew
set_option maxHeartbeats 1000000 in
set_option maxRecDepth 20000 in
theorem att_ok_u32 (b : Nat) (s : ByteArray) (k k' : Nat) (F : Nat) (caps : Array Value) (v : Value) (w : World) (h : Rd w b s k 0) (hF : ∀ (args : Array Value) (w : World), (callFunc F args).run Tryz.prog w = .ok (.enter F args) w)
    (hcall : ∀ w1, Below w.heap.size w w1 → Calls Tryz.prog F (#[.pointer (some ⟨b, 0, none⟩)] ++ caps) w1 (Gets b s v k' w1)) :
    Calls Tryz.prog 88 #[.pointer (some ⟨b, 0, none⟩), .func (.func F) #[] caps] w (Ans b s v k' 0 w) := by
  have hmf : ∀ (fn : Fn) (first cap : Array Value) (w : World), (Instr.makeFunc fn first cap).run Tryz.prog w = .ok (.func fn first cap) w := fun _ _ _ _ => rfl
  have c0 := h.c0
  have c2 := h.c2
  have l0 := h.lt
  go_enter_defers Tryz.func88, Tryz.ntmps88
  go_wp2_with (go_at_call 58; refine (source_some b _).mono ?_; rintro e w' ⟨rfl, rfl⟩)
  refine (hcall _ (((Below.refl _ _).alloc (by simp) _).alloc (by simp) _ |>.alloc (by simp; omega) _)).mono ?_
  rintro e w2 ⟨rfl, hrd, hch⟩
  have g0 : w2.heap[w.heap.size]? = some (.cells #[.int .i64 0] 38 (0, 0)) := (hch.block _ (by simp; omega) (by omega)).trans (heap_alloc_at (heap_alloc_at (heap_new _ _)))
  have c5 : w2.cell? ⟨w.heap.size, 0, none⟩ = some (.int .i64 0) := (cell_of g0).trans rfl
  have f5 := froz_of (i := 0) g0
  have HC : Hid (Ch (fun i => i = b) w w2) := (((Ch.refl _ _).alloc _).alloc _ |>.alloc _).trans hch
  have HG : Hid (w2.heap[w.heap.size]? = some (.cells #[.int .i64 0] 38 (0, 0))) := g0
  clear g0 hch
  go_wp2
  refine leaves_cons (f := 122) (args := #[.pointer (some ⟨w.heap.size + 1 + 1, 0, none⟩), .pointer (some ⟨w.heap.size + 1, 0, none⟩), .pointer (some ⟨w.heap.size, 0, none⟩)]) (by simp) (by simp [go_sem]) ?_
  refine (catch_idle_u32 _ _ _ _).mono ?_
  rintro e u' w'' ⟨rfl, rfl, rfl⟩
  have c6 : (w2.setCell ⟨w.heap.size, 0, none⟩ (.int .i64 0)).cell? ⟨w.heap.size, 0, none⟩ = some (.int .i64 0) := (cell_of (heap_set HG.out)).trans rfl
  exact ⟨_, by simp [results, Tryz.results88, go_sem, c6], rfl, hrd.far _ (by show b ≠ w.heap.size; omega), HC.out.setCell _ _ (by simp)⟩
set_option maxHeartbeats 1000000 in
set_option maxRecDepth 20000 in
theorem att_quit_u32 (b : Nat) (s : ByteArray) (k why : Nat) (F : Nat) (caps : Array Value) (w : World) (h : Rd w b s k 0) (hF : ∀ (args : Array Value) (w : World), (callFunc F args).run Tryz.prog w = .ok (.enter F args) w)
    (hcall : ∀ w1, Below w.heap.size w w1 → Calls Tryz.prog F (#[.pointer (some ⟨b, 0, none⟩)] ++ caps) w1 (Quits b s why w1)) :
    Calls Tryz.prog 88 #[.pointer (some ⟨b, 0, none⟩), .func (.func F) #[] caps] w (Ans b s (.int .u32 0) k why w) := by
  have hmf : ∀ (fn : Fn) (first cap : Array Value) (w : World), (Instr.makeFunc fn first cap).run Tryz.prog w = .ok (.func fn first cap) w := fun _ _ _ _ => rfl
  have c0 := h.c0
  have c2 := h.c2
  have l0 := h.lt
  go_enter_defers Tryz.func88, Tryz.ntmps88
  go_wp2_with (go_at_call 58; refine (source_some b _).mono ?_; rintro e w' ⟨rfl, rfl⟩)
  refine (hcall _ (((Below.refl _ _).alloc (by simp) _).alloc (by simp) _ |>.alloc (by simp; omega) _)).mono ?_
  rintro e w2 ⟨rfl, ⟨k2, hrd⟩, hch⟩
  have g0 : w2.heap[w.heap.size]? = some (.cells #[.int .i64 0] 38 (0, 0)) := (hch.block _ (by simp; omega) (by omega)).trans (heap_alloc_at (heap_alloc_at (heap_new _ _)))
  have g1 : w2.heap[w.heap.size + 1]? = some (.cells #[.pointer (some ⟨b, 0, none⟩)] 35 (0, 0)) := by
    exact (hch.block _ (by simp) (by omega)).trans (heap_alloc_at (heap_new' _ _ _ (by simp)))
  have g2 : w2.heap[w.heap.size + 1 + 1]? = some (.cells #[.int .i64 k] 47 (0, 0)) := by
    exact (hch.block _ (by simp) (by omega)).trans (heap_new' _ _ _ (by simp))
  have HC : Hid (Ch (fun i => i = b) w w2) := (((Ch.refl _ _).alloc _).alloc _ |>.alloc _).trans hch
  have HG0 := Hid.mk g0
  have HG1 := Hid.mk g1
  have HG2 := Hid.mk g2
  clear g0 g1 g2 hch
  go_wp2
  refine leaves_cons (f := 122) (args := #[.pointer (some ⟨w.heap.size + 1 + 1, 0, none⟩), .pointer (some ⟨w.heap.size + 1, 0, none⟩), .pointer (some ⟨w.heap.size, 0, none⟩)]) (by simp) (by simp [go_sem]) ?_
  refine (catch_panic_u32 b _ _ _ s k k2 why 0 _ hrd HG2.out HG1.out HG0.out (by omega) (by omega) (by omega) (by omega) (by omega)).mono ?_
  rintro e u' w'' ⟨rfl, rfl, hrd', hg', hch'⟩
  have c6 : w''.cell? ⟨w.heap.size, 0, none⟩ = some (.int .i64 why) := (cell_of hg').trans rfl
  have HF : Rd w'' b s k why ∧ Ch (fun i => i = b) w w'' := ⟨hrd', HC.out.then hch' (fun i hi h => by omega)⟩
  simp [Leaves, settle, results, Tryz.results88, go_sem, c6, Ans, HF]
set_option maxHeartbeats 1000000 in
set_option maxRecDepth 20000 in
theorem att_stale_u32 (b : Nat) (s : ByteArray) (k err : Nat) (fv : Value) (w : World) (h : Rd w b s k err) (he : err ≠ 0) :
    Calls Tryz.prog 88 #[.pointer (some ⟨b, 0, none⟩), fv] w (Ans b s (.int .u32 0) k err w) := by
  have hne : ((err : Int) != 0) = true := by rw [bne_iff_ne]; omega
  have hmf : ∀ (fn : Fn) (first cap : Array Value) (w : World), (Instr.makeFunc fn first cap).run Tryz.prog w = .ok (.func fn first cap) w := fun _ _ _ _ => rfl
  have c0 := h.c0
  have c2 := h.c2
  have l0 := h.lt
  have d1 : b ≠ w.heap.size := by omega
  have d2 : b ≠ w.heap.size + 1 := by omega
  clear he
  go_enter_defers Tryz.func88, Tryz.ntmps88
  go_wp2_with (go_at_call 58; refine (source_some b _).mono ?_; rintro e w' ⟨rfl, rfl⟩)
  go_region_held3 (fun w' => w'.cell? ⟨w.heap.size + 1, 0, none⟩ = some (.pointer (some ⟨b, 0, none⟩)) ∧ w'.cell? ⟨b, 2, none⟩ = some (.int .i64 err)) ((refine ⟨?_, ?_⟩ <;> go_simp)) ((fail))
  go_wp2
  exact ⟨_, by simp [results, Tryz.results88, go_sem], rfl, (h.alloc _).alloc _ |>.drew, ((Ch.refl _ _).alloc _).alloc _ |>.drew⟩
theorem catch_idle_i32 (st sp ep : Nat) (w : World) :
    CallsD Tryz.prog 123 #[.pointer (some ⟨st, 0, none⟩), .pointer (some ⟨sp, 0, none⟩), .pointer (some ⟨ep, 0, none⟩)] .returning w fun e u' w' => e = .returned (.tuple #[]) ∧ u' = .returning ∧ w' = w := by
  refine callsD_of_wpS Tryz.func123 rfl fun c₀ cs hu => ?_
  apply wpS_seq
  apply wpS_region
  simp [wpOpsS, go_sem, recoverD, hu, Tryz.ntmps123, Exit.thenS]
  simp only [Array.replicate, List.replicate, List.setIfInBounds_toArray, List.set_cons_zero, List.set_cons_succ, List.append_toArray, List.cons_append, List.nil_append]
  apply wpS_of_wp
  go_wp2
  cases c₀
  simp_all [bodyPostS, results, Tryz.results123]
set_option maxHeartbeats 1000000 in
set_option maxRecDepth 20000 in
theorem catch_panic_i32 (b st sp ep : Nat) (s : ByteArray) (k k2 why : Nat) (ee : Int) (w : World) (h : Rd w b s k2 0)
    (h1 : w.heap[st]? = some (.cells #[.int .i64 k] 47 (0, 0))) (h2 : w.heap[sp]? = some (.cells #[.pointer (some ⟨b, 0, none⟩)] 35 (0, 0))) (h3 : w.heap[ep]? = some (.cells #[.int .i64 ee] 38 (0, 0)))
    (d1 : b ≠ st) (d2 : b ≠ sp) (d3 : b ≠ ep) (d4 : ep ≠ st) (d5 : ep ≠ sp) :
    CallsD Tryz.prog 123 #[.pointer (some ⟨st, 0, none⟩), .pointer (some ⟨sp, 0, none⟩), .pointer (some ⟨ep, 0, none⟩)] (.panicking [{ v := .iface 129 (.agg #[.int .i64 why]), recovered := false }]) w fun e u' w' => e = .returned (.tuple #[]) ∧ u' = .panicking [{ v := .iface 129 (.agg #[.int .i64 why]), recovered := true }] ∧ Rd w' b s k why ∧ w'.heap[ep]? = some (.cells #[.int .i64 why] 38 (0, 0)) ∧ Ch (fun i => i = b ∨ i = ep) w w' := by
  have hta := assert_failure
  have c0 := h.c0
  have c2 := h.c2
  have f0 := h.fz 0
  have f2 := h.fz 2
  have c3 : w.cell? ⟨st, 0, none⟩ = some (.int .i64 k) := (cell_of h1).trans rfl
  have c4 : w.cell? ⟨sp, 0, none⟩ = some (.pointer (some ⟨b, 0, none⟩)) := (cell_of h2).trans rfl
  have c5 : w.cell? ⟨ep, 0, none⟩ = some (.int .i64 ee) := (cell_of h3).trans rfl
  have f5 := froz_of (i := 0) h3
  have l0 := h.lt
  have l1 := lt_of_heap h1
  have l2 := lt_of_heap h2
  have l3 := lt_of_heap h3
  have d1' := d1.symm
  have d2' := d2.symm
  have d6 : b ≠ w.heap.size := by omega
  have d6' := d6.symm
  refine callsD_of_wpS Tryz.func123 rfl fun c₀ cs hu => ?_
  apply wpS_seq
  apply wpS_region
  simp [wpOpsS, go_sem, recoverD, hu, Tryz.ntmps123, Exit.thenS]
  simp only [Array.replicate, List.replicate, List.setIfInBounds_toArray, List.set_cons_zero, List.set_cons_succ, List.append_toArray, List.cons_append, List.nil_append]
  apply wpS_of_wp
  go_wp2
  go_region_held (fun w' => w'.cell? ⟨st, 0, none⟩ = some (.int .i64 k) ∧ w'.cell? ⟨sp, 0, none⟩ = some (.pointer (some ⟨b, 0, none⟩)) ∧ w'.cell? ⟨w.heap.size, 0, none⟩ = some (.int .i64 why)) ((refine ⟨?_, ?_, ?_⟩ <;> go_simp)) (fail)
  go_wp2
  refine ⟨rfl, _, rfl, _, by simp [results, Tryz.results123], rfl, rfl, ?_, ?_, ?_⟩
  · exact ((((h.set0 k).set2 why).far _ d3).alloc _).drew
  · exact heap_alloc_at (heap_set (heap_set_far (heap_set_far h3 d3.symm) d3.symm))
  · exact (((((Ch.refl _ _).setCell _ _ (fun _ => Or.inl rfl)).setCell _ _ (fun _ => Or.inl rfl)).setCell _ _ (fun _ => Or.inr rfl)).alloc _).drew
set_option maxHeartbeats 1000000 in
set_option maxRecDepth 20000 in
theorem att_ok_i32 (b : Nat) (s : ByteArray) (k k' : Nat) (F : Nat) (caps : Array Value) (v : Value) (w : World) (h : Rd w b s k 0) (hF : ∀ (args : Array Value) (w : World), (callFunc F args).run Tryz.prog w = .ok (.enter F args) w)
    (hcall : ∀ w1, Below w.heap.size w w1 → Calls Tryz.prog F (#[.pointer (some ⟨b, 0, none⟩)] ++ caps) w1 (Gets b s v k' w1)) :
    Calls Tryz.prog 90 #[.pointer (some ⟨b, 0, none⟩), .func (.func F) #[] caps] w (Ans b s v k' 0 w) := by
  have hmf : ∀ (fn : Fn) (first cap : Array Value) (w : World), (Instr.makeFunc fn first cap).run Tryz.prog w = .ok (.func fn first cap) w := fun _ _ _ _ => rfl
  have c0 := h.c0
  have c2 := h.c2
  have l0 := h.lt
  go_enter_defers Tryz.func90, Tryz.ntmps90
  go_wp2_with (go_at_call 58; refine (source_some b _).mono ?_; rintro e w' ⟨rfl, rfl⟩)
  refine (hcall _ (((Below.refl _ _).alloc (by simp) _).alloc (by simp) _ |>.alloc (by simp; omega) _)).mono ?_
  rintro e w2 ⟨rfl, hrd, hch⟩
  have g0 : w2.heap[w.heap.size]? = some (.cells #[.int .i64 0] 38 (0, 0)) := (hch.block _ (by simp; omega) (by omega)).trans (heap_alloc_at (heap_alloc_at (heap_new _ _)))
  have c5 : w2.cell? ⟨w.heap.size, 0, none⟩ = some (.int .i64 0) := (cell_of g0).trans rfl
  have f5 := froz_of (i := 0) g0
  have HC : Hid (Ch (fun i => i = b) w w2) := (((Ch.refl _ _).alloc _).alloc _ |>.alloc _).trans hch
  have HG : Hid (w2.heap[w.heap.size]? = some (.cells #[.int .i64 0] 38 (0, 0))) := g0
  clear g0 hch
  go_wp2
  refine leaves_cons (f := 123) (args := #[.pointer (some ⟨w.heap.size + 1 + 1, 0, none⟩), .pointer (some ⟨w.heap.size + 1, 0, none⟩), .pointer (some ⟨w.heap.size, 0, none⟩)]) (by simp) (by simp [go_sem]) ?_
  refine (catch_idle_i32 _ _ _ _).mono ?_
  rintro e u' w'' ⟨rfl, rfl, rfl⟩
  have c6 : (w2.setCell ⟨w.heap.size, 0, none⟩ (.int .i64 0)).cell? ⟨w.heap.size, 0, none⟩ = some (.int .i64 0) := (cell_of (heap_set HG.out)).trans rfl
  exact ⟨_, by simp [results, Tryz.results90, go_sem, c6], rfl, hrd.far _ (by show b ≠ w.heap.size; omega), HC.out.setCell _ _ (by simp)⟩
set_option maxHeartbeats 1000000 in
set_option maxRecDepth 20000 in
theorem att_quit_i32 (b : Nat) (s : ByteArray) (k why : Nat) (F : Nat) (caps : Array Value) (w : World) (h : Rd w b s k 0) (hF : ∀ (args : Array Value) (w : World), (callFunc F args).run Tryz.prog w = .ok (.enter F args) w)
    (hcall : ∀ w1, Below w.heap.size w w1 → Calls Tryz.prog F (#[.pointer (some ⟨b, 0, none⟩)] ++ caps) w1 (Quits b s why w1)) :
    Calls Tryz.prog 90 #[.pointer (some ⟨b, 0, none⟩), .func (.func F) #[] caps] w (Ans b s (.int .i32 0) k why w) := by
  have hmf : ∀ (fn : Fn) (first cap : Array Value) (w : World), (Instr.makeFunc fn first cap).run Tryz.prog w = .ok (.func fn first cap) w := fun _ _ _ _ => rfl
  have c0 := h.c0
  have c2 := h.c2
  have l0 := h.lt
  go_enter_defers Tryz.func90, Tryz.ntmps90
  go_wp2_with (go_at_call 58; refine (source_some b _).mono ?_; rintro e w' ⟨rfl, rfl⟩)
  refine (hcall _ (((Below.refl _ _).alloc (by simp) _).alloc (by simp) _ |>.alloc (by simp; omega) _)).mono ?_
  rintro e w2 ⟨rfl, ⟨k2, hrd⟩, hch⟩
  have g0 : w2.heap[w.heap.size]? = some (.cells #[.int .i64 0] 38 (0, 0)) := (hch.block _ (by simp; omega) (by omega)).trans (heap_alloc_at (heap_alloc_at (heap_new _ _)))
  have g1 : w2.heap[w.heap.size + 1]? = some (.cells #[.pointer (some ⟨b, 0, none⟩)] 35 (0, 0)) := by
    exact (hch.block _ (by simp) (by omega)).trans (heap_alloc_at (heap_new' _ _ _ (by simp)))
  have g2 : w2.heap[w.heap.size + 1 + 1]? = some (.cells #[.int .i64 k] 47 (0, 0)) := by
    exact (hch.block _ (by simp) (by omega)).trans (heap_new' _ _ _ (by simp))
  have HC : Hid (Ch (fun i => i = b) w w2) := (((Ch.refl _ _).alloc _).alloc _ |>.alloc _).trans hch
  have HG0 := Hid.mk g0
  have HG1 := Hid.mk g1
  have HG2 := Hid.mk g2
  clear g0 g1 g2 hch
  go_wp2
  refine leaves_cons (f := 123) (args := #[.pointer (some ⟨w.heap.size + 1 + 1, 0, none⟩), .pointer (some ⟨w.heap.size + 1, 0, none⟩), .pointer (some ⟨w.heap.size, 0, none⟩)]) (by simp) (by simp [go_sem]) ?_
  refine (catch_panic_i32 b _ _ _ s k k2 why 0 _ hrd HG2.out HG1.out HG0.out (by omega) (by omega) (by omega) (by omega) (by omega)).mono ?_
  rintro e u' w'' ⟨rfl, rfl, hrd', hg', hch'⟩
  have c6 : w''.cell? ⟨w.heap.size, 0, none⟩ = some (.int .i64 why) := (cell_of hg').trans rfl
  have HF : Rd w'' b s k why ∧ Ch (fun i => i = b) w w'' := ⟨hrd', HC.out.then hch' (fun i hi h => by omega)⟩
  simp [Leaves, settle, results, Tryz.results90, go_sem, c6, Ans, HF]
set_option maxHeartbeats 1000000 in
set_option maxRecDepth 20000 in
theorem att_stale_i32 (b : Nat) (s : ByteArray) (k err : Nat) (fv : Value) (w : World) (h : Rd w b s k err) (he : err ≠ 0) :
    Calls Tryz.prog 90 #[.pointer (some ⟨b, 0, none⟩), fv] w (Ans b s (.int .i32 0) k err w) := by
  have hne : ((err : Int) != 0) = true := by rw [bne_iff_ne]; omega
  have hmf : ∀ (fn : Fn) (first cap : Array Value) (w : World), (Instr.makeFunc fn first cap).run Tryz.prog w = .ok (.func fn first cap) w := fun _ _ _ _ => rfl
  have c0 := h.c0
  have c2 := h.c2
  have l0 := h.lt
  have d1 : b ≠ w.heap.size := by omega
  have d2 : b ≠ w.heap.size + 1 := by omega
  clear he
  go_enter_defers Tryz.func90, Tryz.ntmps90
  go_wp2_with (go_at_call 58; refine (source_some b _).mono ?_; rintro e w' ⟨rfl, rfl⟩)
  go_region_held3 (fun w' => w'.cell? ⟨w.heap.size + 1, 0, none⟩ = some (.pointer (some ⟨b, 0, none⟩)) ∧ w'.cell? ⟨b, 2, none⟩ = some (.int .i64 err)) ((refine ⟨?_, ?_⟩ <;> go_simp)) ((fail))
  go_wp2
  exact ⟨_, by simp [results, Tryz.results90, go_sem], rfl, (h.alloc _).alloc _ |>.drew, ((Ch.refl _ _).alloc _).alloc _ |>.drew⟩
end Go.Proofs.YtpfaioncaolmjaaGreat
