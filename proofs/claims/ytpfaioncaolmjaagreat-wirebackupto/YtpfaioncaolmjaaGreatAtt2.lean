/- What attempt answers at one kind of answer: what its cursor's call has read; or zero and the error, and the reader stands where it stood; or at once the error that it has. -/
import Derived.Test.YtpfaioncaolmjaaGreatAnsd
namespace Go.Proofs.YtpfaioncaolmjaaGreat
open Go.RowKit
set_option maxHeartbeats 1000000 in
set_option maxRecDepth 20000 in
theorem att_ok_u64 (b : Nat) (s : ByteArray) (k k' : Nat) (F : Nat) (caps : Array Value) (v : Value) (w : World) (h : Rd w b s k 0) (hF : ∀ (args : Array Value) (w : World), (callFunc F args).run Tryz.prog w = .ok (.enter F args) w)
    (hcall : ∀ w1, Below w.heap.size w w1 → Calls Tryz.prog F (#[.pointer (some ⟨b, 0, none⟩)] ++ caps) w1 (Gets b s v k' w1)) :
    Calls Tryz.prog 61 #[.pointer (some ⟨b, 0, none⟩), .func (.func F) #[] caps] w (Ans b s v k' 0 w) := by
  have hmf : ∀ (fn : Fn) (first cap : Array Value) (w : World), (Instr.makeFunc fn first cap).run Tryz.prog w = .ok (.func fn first cap) w := fun _ _ _ _ => rfl
  have c0 := h.c0
  have c2 := h.c2
  have l0 := h.lt
  go_enter_defers Tryz.func61, Tryz.ntmps61
  go_wp2_with (go_at_call 58; refine (source_some b _).mono ?_; rintro e w' ⟨rfl, rfl⟩)
  refine (hcall _ (((Below.refl _ _).alloc (by simp) _).alloc (by simp) _ |>.alloc (by simp; omega) _)).mono ?_
  rintro e w2 ⟨rfl, hrd, hch⟩
  have g0 : w2.heap[w.heap.size]? = some (.cells #[.int .i64 0] 38 (0, 0)) := (hch.block _ (by simp; omega) (by omega)).trans (heap_alloc_at (heap_alloc_at (heap_new _ _)))
  have c5 : w2.cell? ⟨w.heap.size, 0, none⟩ = some (.int .i64 0) := (cell_of g0).trans rfl
  have f5 := froz_of (i := 0) g0
  have HC : Hid (Ch (fun i => i = b) w w2) := (((Ch.refl _ _).alloc _).alloc _ |>.alloc _).trans hch
  have HG : Hid (w2.heap[w.heap.size]? = some (.cells #[.int .i64 0] 38 (0, 0))) := g0
  clear g0 hch
  go_wp2
  refine leaves_cons (f := 101) (args := #[.pointer (some ⟨w.heap.size + 1 + 1, 0, none⟩), .pointer (some ⟨w.heap.size + 1, 0, none⟩), .pointer (some ⟨w.heap.size, 0, none⟩)]) (by simp) (by simp [go_sem]) ?_
  refine (catch_idle_u64 _ _ _ _).mono ?_
  rintro e u' w'' ⟨rfl, rfl, rfl⟩
  have c6 : (w2.setCell ⟨w.heap.size, 0, none⟩ (.int .i64 0)).cell? ⟨w.heap.size, 0, none⟩ = some (.int .i64 0) := (cell_of (heap_set HG.out)).trans rfl
  exact ⟨_, by simp [results, Tryz.results61, go_sem, c6], rfl, hrd.far _ (by show b ≠ w.heap.size; omega), HC.out.setCell _ _ (by simp)⟩
set_option maxHeartbeats 1000000 in
set_option maxRecDepth 20000 in
theorem att_quit_u64 (b : Nat) (s : ByteArray) (k why : Nat) (F : Nat) (caps : Array Value) (w : World) (h : Rd w b s k 0) (hF : ∀ (args : Array Value) (w : World), (callFunc F args).run Tryz.prog w = .ok (.enter F args) w)
    (hcall : ∀ w1, Below w.heap.size w w1 → Calls Tryz.prog F (#[.pointer (some ⟨b, 0, none⟩)] ++ caps) w1 (Quits b s why w1)) :
    Calls Tryz.prog 61 #[.pointer (some ⟨b, 0, none⟩), .func (.func F) #[] caps] w (Ans b s (.int .u64 0) k why w) := by
  have hmf : ∀ (fn : Fn) (first cap : Array Value) (w : World), (Instr.makeFunc fn first cap).run Tryz.prog w = .ok (.func fn first cap) w := fun _ _ _ _ => rfl
  have c0 := h.c0
  have c2 := h.c2
  have l0 := h.lt
  go_enter_defers Tryz.func61, Tryz.ntmps61
  go_wp2_with (go_at_call 58; refine (source_some b _).mono ?_; rintro e w' ⟨rfl, rfl⟩)
  refine (hcall _ (((Below.refl _ _).alloc (by simp) _).alloc (by simp) _ |>.alloc (by simp; omega) _)).mono ?_
  rintro e w2 ⟨rfl, ⟨k2, hrd⟩, hch⟩
  have g0 : w2.heap[w.heap.size]? = some (.cells #[.int .i64 0] 38 (0, 0)) := (hch.block _ (by simp; omega) (by omega)).trans (heap_alloc_at (heap_alloc_at (heap_new _ _)))
  have g1 : w2.heap[w.heap.size + 1]? = some (.cells #[.pointer (some ⟨b, 0, none⟩)] 35 (0, 0)) := by
    exact (hch.block _ (by simp) (by omega)).trans (heap_alloc_at (heap_new' _ _ _ (by simp)))
  have g2 : w2.heap[w.heap.size + 1 + 1]? = some (.cells #[.int .i64 k] 47 (0, 0)) := by
    exact (hch.block _ (by simp) (by omega)).trans (heap_new' _ _ _ (by simp))
  have HC : Hid (Ch (fun i => i = b) w w2) := (((Ch.refl _ _).alloc _).alloc _ |>.alloc _).trans hch
  have HG0 := Hid.mk g0
  have HG1 := Hid.mk g1
  have HG2 := Hid.mk g2
  clear g0 g1 g2 hch
  go_wp2
  refine leaves_cons (f := 101) (args := #[.pointer (some ⟨w.heap.size + 1 + 1, 0, none⟩), .pointer (some ⟨w.heap.size + 1, 0, none⟩), .pointer (some ⟨w.heap.size, 0, none⟩)]) (by simp) (by simp [go_sem]) ?_
  refine (catch_panic_u64 b _ _ _ s k k2 why 0 _ hrd HG2.out HG1.out HG0.out (by omega) (by omega) (by omega) (by omega) (by omega)).mono ?_
  rintro e u' w'' ⟨rfl, rfl, hrd', hg', hch'⟩
  have c6 : w''.cell? ⟨w.heap.size, 0, none⟩ = some (.int .i64 why) := (cell_of hg').trans rfl
  have HF : Rd w'' b s k why ∧ Ch (fun i => i = b) w w'' := ⟨hrd', HC.out.then hch' (fun i hi h => by omega)⟩
  simp [Leaves, settle, results, Tryz.results61, go_sem, c6, Ans, HF]
set_option maxHeartbeats 1000000 in
set_option maxRecDepth 20000 in
theorem att_stale_u64 (b : Nat) (s : ByteArray) (k err : Nat) (fv : Value) (w : World) (h : Rd w b s k err) (he : err ≠ 0) :
    Calls Tryz.prog 61 #[.pointer (some ⟨b, 0, none⟩), fv] w (Ans b s (.int .u64 0) k err w) := by
  have hne : ((err : Int) != 0) = true := by rw [bne_iff_ne]; omega
  have hmf : ∀ (fn : Fn) (first cap : Array Value) (w : World), (Instr.makeFunc fn first cap).run Tryz.prog w = .ok (.func fn first cap) w := fun _ _ _ _ => rfl
  have c0 := h.c0
  have c2 := h.c2
  have l0 := h.lt
  have d1 : b ≠ w.heap.size := by omega
  have d2 : b ≠ w.heap.size + 1 := by omega
  clear he
  go_enter_defers Tryz.func61, Tryz.ntmps61
  go_wp2_with (go_at_call 58; refine (source_some b _).mono ?_; rintro e w' ⟨rfl, rfl⟩)
  go_region_held3 (fun w' => w'.cell? ⟨w.heap.size + 1, 0, none⟩ = some (.pointer (some ⟨b, 0, none⟩)) ∧ w'.cell? ⟨b, 2, none⟩ = some (.int .i64 err)) ((refine ⟨?_, ?_⟩ <;> go_simp)) ((fail))
  go_wp2
  exact ⟨_, by simp [results, Tryz.results61, go_sem], rfl, (h.alloc _).alloc _ |>.drew, ((Ch.refl _ _).alloc _).alloc _ |>.drew⟩
end Go.Proofs.YtpfaioncaolmjaaGreat
