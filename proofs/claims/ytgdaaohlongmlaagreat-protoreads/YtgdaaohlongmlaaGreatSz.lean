/- Small words that the walks of layer 17 lean on. -/
import Derived.Test.YtgdaaohlongmlaaGreatRecM
namespace Go.Proofs.YtgdaaohlongmlaaGreat
open Go.RowKit
theorem hid {p : Prop} (h : p) : Hid p := h
def I64 (x : Int) : Prop := -9223372036854775808 ≤ x ∧ x ≤ 9223372036854775807
theorem drewN_bel {w0 w : World} {B : Nat} (hb : Below B w0 w) (n : Nat) : Below B w0 (w.drewN n) := ⟨hb.os, hb.tape, hb.output, hb.size, hb.block⟩
theorem bel_al {w w' : World} {o : Obj} (h : Below (w.alloc o).heap.size (w.alloc o) w') : Below w.heap.size w w' := ((Below.refl _ w).alloc (Nat.le_refl _) o).trans (h.mono (by simp))
theorem bel_next {B : Nat} {w0 w w' : World} (h : Below B w0 w) (hB : B ≤ w0.heap.size) (h' : Below w.heap.size w w') : Below B w0 w' :=
  ⟨h'.os.trans h.os, h'.tape.trans h.tape, h'.output.trans h.output, Nat.le_trans h.size h'.size, fun i hi => (h'.block i (by have := h.size; omega)).trans (h.block i hi)⟩
end Go.Proofs.YtgdaaohlongmlaaGreat
