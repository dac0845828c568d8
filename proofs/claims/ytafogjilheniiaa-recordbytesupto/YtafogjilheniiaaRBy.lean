/- The document's form of any record, or why it has none; nothing that was there before is turned. -/
import Derived.Test.YtafogjilheniiaaByt
import Derived.Test.YtafogjilheniiaaWX4
import Derived.Test.YtafogjilheniiaaWX2
import Derived.Test.YtafogjilheniiaaSpl5
namespace Go.Proofs.Ytafogjilheniiaa
open Go.RowKit
theorem less_ok (t f : Int) (w : World) (h : I64 (t - f)) : Calls Try.prog 20 #[.int .i64 t, .int .i64 f] w fun e w' => e = .returned (.tuple #[.int .i64 (t - f), .bool true]) ∧ w' = w := by
  have hx : IntKind.i64.wrap (t - f) = t - f := wrap_in h.1 h.2
  obtain ⟨h1, h2⟩ := h
  by_cases h : f < 0
  · have e1 : t < t - f := by omega
    go_enter Try.func20, Try.ntmps20
    go_wp2
    go_ret2
    exact ⟨rfl, rfl⟩
  · have e1 : ¬ t < t - f := by omega
    go_enter Try.func20, Try.ntmps20
    go_wp2
    go_ret2
    exact ⟨rfl, rfl⟩
theorem less_no (t f : Int) (w : World) (ht : I64 t) (hf : I64 f) (h : ¬ I64 (t - f)) : Calls Try.prog 20 #[.int .i64 t, .int .i64 f] w fun e w' => e = .returned (.tuple #[.int .i64 (wrap64 (t - f)), .bool false]) ∧ w' = w := by
  unfold I64 at *
  by_cases h0 : f < 0
  · have e1 : ¬ t < wrap64 (t - f) := by unfold wrap64; omega
    have e2 : (f == 0) = false := by rw [beq_eq_false_iff_ne]; omega
    go_enter Try.func20, Try.ntmps20
    go_wp2
    go_ret2
    exact ⟨rfl, rfl⟩
  · have e1 : t < wrap64 (t - f) := by unfold wrap64; omega
    have e2 : (f == 0) = false := by rw [beq_eq_false_iff_ne]; omega
    go_enter Try.func20, Try.ntmps20
    go_wp2
    go_ret2
    exact ⟨rfl, rfl⟩
structure XK (p Q : Nat) (c : Array Value) (T : TypeId) (w x : World) (s : ByteArray) : Prop where
  wr : WX x p s
  ch : Ch (fun i => i = p) w x
  q : x.heap[Q]? = some (.cells c T (0, 0))
theorem XK.next {p Q : Nat} {c : Array Value} {T : TypeId} {w x x' : World} {s s' : ByteArray} {e : Ending} (h : XK p Q c T w x s) (hQ : Q ≠ p) (k : LaysX p s' x e x') : XK p Q c T w x' s' := ⟨k.2.1, h.ch.trans k.2.2, (k.2.2.block Q (lt_of_heap h.q) hQ).trans h.q⟩
set_option maxHeartbeats 1000000 in
set_option maxRecDepth 20000 in
theorem rbytes_range (r : Rec) (a : Option Addr) (cap : Nat) (first n : Int) (w : World) (hn : ¬ (0 ≤ n ∧ n < 65536)) :
    Calls Try.prog 9 #[recV r a cap, .int .i64 first, .int .i64 n] w fun e w' => e = .returned (.tuple #[.string ⟨#[]⟩, .int .i64 1]) ∧ Below w.heap.size w w' := by
  unfold recV
  by_cases h0 : n < 0
  · go_enter Try.func9, Try.ntmps9
    go_wp2_with fail
    go_ret2
    exact ⟨rfl, (Below.refl _ w).alloc (Nat.le_refl _) _⟩
  · have h1 : ¬ n < 65536 := by omega
    go_enter Try.func9, Try.ntmps9
    go_wp2_with fail
    go_ret2
    exact ⟨rfl, (Below.refl _ w).alloc (Nat.le_refl _) _⟩
set_option maxHeartbeats 1000000 in
set_option maxRecDepth 20000 in
theorem rbytes_far (r : Rec) (a : Option Addr) (cap : Nat) (first : Int) (N : Nat) (w : World) (ht : I64 r.t) (hf : I64 first) (hN : N < 65536) (hi : ¬ I64 (r.t - first)) :
    Calls Try.prog 9 #[recV r a cap, .int .i64 first, .int .i64 N] w fun e w' => e = .returned (.tuple #[.string ⟨#[]⟩, .int .i64 27]) ∧ Below w.heap.size w w' := by
  have CL := hid (fun x => less_no r.t first x ht hf hi)
  have h0 : decide ((N : Int) < 0) = false := decide_eq_false (by omega)
  have h1 : decide ((65536 : Int) ≤ (N : Int)) = false := decide_eq_false (by omega)
  clear hi ht hf
  unfold recV
  go_enter Try.func9, Try.ntmps9
  go_wp2_with (go_at_call 20; refine (CL.out _).mono ?_; rintro e w' ⟨rfl, rfl⟩)
  go_ret2
  exact ⟨rfl, (Below.refl _ w).alloc (Nat.le_refl _) _⟩
set_option maxHeartbeats 1000000 in
set_option maxRecDepth 20000 in
theorem rbytes_most (r : Rec) (a : Option Addr) (cap : Nat) (first : Int) (N : Nat) (w : World) (hN : N < 65536) (hi : I64 (r.t - first)) (hh : 1024 < r.hs.length) :
    Calls Try.prog 9 #[recV r a cap, .int .i64 first, .int .i64 N] w fun e w' => e = .returned (.tuple #[.string ⟨#[]⟩, .int .i64 5]) ∧ Below w.heap.size w w' := by
  have CL := hid (fun x => less_ok r.t first x hi)
  have h0 : decide ((N : Int) < 0) = false := decide_eq_false (by omega)
  have h1 : decide ((65536 : Int) ≤ (N : Int)) = false := decide_eq_false (by omega)
  have h2 : decide ((1024 : Int) < (r.hs.length : Int)) = true := decide_eq_true (by omega)
  clear hi hh
  unfold recV
  go_enter Try.func9, Try.ntmps9
  go_wp2_with (go_at_call 20; refine (CL.out _).mono ?_; rintro e w' ⟨rfl, rfl⟩)
  go_ret2
  exact ⟨rfl, (Below.refl _ w).alloc (Nat.le_refl _) _⟩
end Go.Proofs.Ytafogjilheniiaa
