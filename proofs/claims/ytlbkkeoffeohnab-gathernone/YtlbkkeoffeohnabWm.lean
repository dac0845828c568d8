import Derived.Test.YtlbkkeoffeohnabWr2
/- What a writer's calls lay down behind what is written, one form each. -/
namespace Go.Proofs.Ytlbkkeoffeohnab
open Go.RowKit
theorem Wr.below {w w' : World} {p B : Nat} {l : List Nat} (h : Wr w p B l) (hb : Below w.heap.size w w') : Wr w' p B l := h.ch (Ch.of_below (S := fun _ => False) hb) (fun h => h) (fun _ _ h => h)
theorem Wr.alloc {w : World} {p B : Nat} {l : List Nat} (h : Wr w p B l) (o : Obj) : Wr (w.alloc o) p B l := h.ch ((Ch.refl (fun _ => False) _).alloc o) (fun h => h) (fun _ _ h => h)
/-- A writer's call has laid m behind l. -/
def Lays (p B : Nat) (l : List Nat) (w : World) (e : Ending) (w' : World) : Prop := e = .returned (.tuple #[]) ∧ Wr w' p B l ∧ Ch (WU p B w) w w'
theorem Wr.lt {w : World} {p B : Nat} {l : List Nat} (h : Wr w p B l) : p < w.heap.size := by
  obtain ⟨_, _, _, _, _, _, hp, hB, _⟩ := h
  omega
theorem zz_nat (n : Nat) : (M.zz (n : Int)).toNat = 2 * n := by unfold M.zz; rw [if_pos (by omega)]; omega
end Go.Proofs.Ytlbkkeoffeohnab
