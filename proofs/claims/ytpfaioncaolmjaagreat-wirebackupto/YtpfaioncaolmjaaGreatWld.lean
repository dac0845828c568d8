/- The worlds that layer 2's calls leave: which blocks may have turned; a reader's block, a writer's block. -/
import Derived.Test.YtpfaioncaolmjaaGreatVput
import Derived.Deep.AppendLies
namespace Go.Proofs.YtpfaioncaolmjaaGreat
open Go.RowKit
/-- Nothing that was there has turned but what S names. -/
structure Ch (S : Nat → Prop) (w w' : World) : Prop where
  os : w'.os = w.os
  tape : w'.tape = w.tape
  output : w'.output = w.output
  size : w.heap.size ≤ w'.heap.size
  block : ∀ k, k < w.heap.size → ¬ S k → w'.heap[k]? = w.heap[k]?
theorem Ch.refl (S : Nat → Prop) (w : World) : Ch S w w := ⟨rfl, rfl, rfl, Nat.le_refl _, fun _ _ _ => rfl⟩
theorem Ch.trans {S : Nat → Prop} {a b c : World} (h : Ch S a b) (k : Ch S b c) : Ch S a c :=
  ⟨k.os.trans h.os, k.tape.trans h.tape, k.output.trans h.output, Nat.le_trans h.size k.size, fun i hi hs => (k.block i (Nat.lt_of_lt_of_le hi h.size) hs).trans (h.block i hi hs)⟩
/-- Behind one step another whose blocks are S's or new. -/
theorem Ch.then {S T : Nat → Prop} {a b c : World} (h : Ch S a b) (k : Ch T b c) (hT : ∀ i, i < a.heap.size → T i → S i) : Ch S a c :=
  ⟨k.os.trans h.os, k.tape.trans h.tape, k.output.trans h.output, Nat.le_trans h.size k.size, fun i hi hs => (k.block i (Nat.lt_of_lt_of_le hi h.size) (fun ht => hs (hT i hi ht))).trans (h.block i hi hs)⟩
theorem Ch.mono {S T : Nat → Prop} {a b : World} (h : Ch S a b) (hT : ∀ i, i < a.heap.size → S i → T i) : Ch T a b :=
  ⟨h.os, h.tape, h.output, h.size, fun i hi hs => h.block i hi (fun hs' => hs (hT i hi hs'))⟩
theorem Ch.of_below {S : Nat → Prop} {a b : World} (h : Below a.heap.size a b) : Ch S a b := ⟨h.os, h.tape, h.output, h.size, fun i hi _ => h.block i hi⟩
theorem Ch.below {S : Nat → Prop} {a b : World} {B : Nat} (h : Ch S a b) (hB : B ≤ a.heap.size) (hS : ∀ i, i < B → ¬ S i) : Below B a b := ⟨h.os, h.tape, h.output, h.size, fun i hi => h.block i (by omega) (hS i hi)⟩
theorem Ch.drew {S : Nat → Prop} {a b : World} (h : Ch S a b) : Ch S a b.drew := ⟨h.os, h.tape, h.output, h.size, h.block⟩
theorem Ch.alloc {S : Nat → Prop} {a b : World} (h : Ch S a b) (o : Obj) : Ch S a (b.alloc o) :=
  ⟨h.os, h.tape, h.output, by have := h.size; simp; omega, fun i hi hs => (Below.heap_alloc b o i (by have := h.size; omega)).trans (h.block i hi hs)⟩
theorem Ch.setCell {S : Nat → Prop} {a b : World} (h : Ch S a b) (p : Addr) (v : Value) (hp : p.block < a.heap.size → S p.block) : Ch S a (b.setCell p v) :=
  ⟨h.os, h.tape, h.output, by have := h.size; simp [World.setCell]; omega, fun i hi hs => (Below.heap_setCell b p v i (fun e => hs (e ▸ hp (e ▸ hi)))).trans (h.block i hi hs)⟩
theorem Ch.drewN {S : Nat → Prop} {a b : World} (h : Ch S a b) (n : Nat) : Ch S a (b.drewN n) := by
  refine h.trans ⟨rfl, rfl, rfl, Nat.le_refl _, fun _ _ _ => rfl⟩

theorem lt_of_heap {w : World} {b : Nat} {o : Obj} (h : w.heap[b]? = some o) : b < w.heap.size := by
  rcases Nat.lt_or_ge b w.heap.size with h1 | h1
  · exact h1
  · rw [Array.getElem?_eq_none h1] at h; cases h
theorem heap_alloc_at {w : World} {b : Nat} {o o' : Obj} (h : w.heap[b]? = some o) : (w.alloc o').heap[b]? = some o := by rw [Below.heap_alloc w o' b (lt_of_heap h), h]
theorem heap_new (w : World) (o : Obj) : (w.alloc o).heap[w.heap.size]? = some o := by show (w.heap.push o)[w.heap.size]? = _; simp
theorem heap_set_far {w : World} {b : Nat} {o : Obj} {p : Addr} {v : Value} (h : w.heap[b]? = some o) (hp : b ≠ p.block) : (w.setCell p v).heap[b]? = some o := by rw [Below.heap_setCell w p v b hp, h]
theorem heap_set {w : World} {b i : Nat} {c : Array Value} {T : TypeId} {fz : Nat × Nat} {v : Value} (h : w.heap[b]? = some (.cells c T fz)) : (w.setCell ⟨b, i, none⟩ v).heap[b]? = some (.cells (c.setIfInBounds i v) T fz) := by
  simp only [World.setCell, Array.getElem?_modify, if_true, h]
  rfl
theorem cell_of {w : World} {b i : Nat} {c : Array Value} {T : TypeId} {fz : Nat × Nat} (h : w.heap[b]? = some (.cells c T fz)) : w.cell? ⟨b, i, none⟩ = c[i]? := by simp [World.cell?, h]
theorem froz_of {w : World} {b i : Nat} {c : Array Value} {T : TypeId} (h : w.heap[b]? = some (.cells c T (0, 0))) : w.frozen? ⟨b, i, none⟩ = false := by simp [World.frozen?, h]

/-- A reader's block: where it stands, its bytes, its error. -/
def Rd (w : World) (b : Nat) (s : ByteArray) (k e : Nat) : Prop := w.heap[b]? = some (.cells #[.int .i64 k, .string s, .int .i64 e] 56 (0, 0))
theorem Rd.c0 {w : World} {b : Nat} {s : ByteArray} {k e : Nat} (h : Rd w b s k e) : w.cell? ⟨b, 0, none⟩ = some (.int .i64 k) := (cell_of h).trans rfl
theorem Rd.c1 {w : World} {b : Nat} {s : ByteArray} {k e : Nat} (h : Rd w b s k e) : w.cell? ⟨b, 1, none⟩ = some (.string s) := (cell_of h).trans rfl
theorem Rd.c2 {w : World} {b : Nat} {s : ByteArray} {k e : Nat} (h : Rd w b s k e) : w.cell? ⟨b, 2, none⟩ = some (.int .i64 e) := (cell_of h).trans rfl
theorem Rd.fz {w : World} {b : Nat} {s : ByteArray} {k e : Nat} (h : Rd w b s k e) (i : Nat) : w.frozen? ⟨b, i, none⟩ = false := froz_of h
theorem Rd.lt {w : World} {b : Nat} {s : ByteArray} {k e : Nat} (h : Rd w b s k e) : b < w.heap.size := lt_of_heap h
theorem Rd.set0 {w : World} {b : Nat} {s : ByteArray} {k e : Nat} (h : Rd w b s k e) (k' : Nat) : Rd (w.setCell ⟨b, 0, none⟩ (.int .i64 k')) b s k' e := heap_set h
theorem Rd.set2 {w : World} {b : Nat} {s : ByteArray} {k e : Nat} (h : Rd w b s k e) (e' : Nat) : Rd (w.setCell ⟨b, 2, none⟩ (.int .i64 e')) b s k e' := heap_set h
theorem Rd.far {w : World} {b : Nat} {s : ByteArray} {k e : Nat} (h : Rd w b s k e) {p : Addr} (v : Value) (hp : b ≠ p.block) : Rd (w.setCell p v) b s k e := heap_set_far h hp
theorem Rd.alloc {w : World} {b : Nat} {s : ByteArray} {k e : Nat} (h : Rd w b s k e) (o : Obj) : Rd (w.alloc o) b s k e := heap_alloc_at h
theorem Rd.drew {w : World} {b : Nat} {s : ByteArray} {k e : Nat} (h : Rd w b s k e) : Rd w.drew b s k e := h
theorem Rd.drewN {w : World} {b : Nat} {s : ByteArray} {k e : Nat} (h : Rd w b s k e) (n : Nat) : Rd (w.drewN n) b s k e := h
theorem Rd.ch {S : Nat → Prop} {w w' : World} {b : Nat} {s : ByteArray} {k e : Nat} (h : Rd w b s k e) (hc : Ch S w w') (hS : ¬ S b) : Rd w' b s k e := (hc.block b h.lt hS).trans h
theorem Rd.below {w w' : World} {b : Nat} {s : ByteArray} {k e B : Nat} (h : Rd w b s k e) (hc : Below B w w') (hB : b < B) : Rd w' b s k e := (hc.block b hB).trans h
end Go.Proofs.YtpfaioncaolmjaaGreat
