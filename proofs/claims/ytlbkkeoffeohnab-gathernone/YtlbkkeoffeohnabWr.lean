import Derived.Test.YtlbkkeoffeohnabAnsd
import Derived.Lib.AppendStr
import Derived.Deep.AppendLies
import Derived.Deep.RegionLaw
/- What the calls of a sheet lay down: a text's bytes, a number's bytes; no other memory turns. -/
namespace Go.Proofs.Ytlbkkeoffeohnab
open Go.RowKit
/-- A writer's block and what is written; what it has made lies from B on. -/
def Wr (w : World) (p B : Nat) (l : List Nat) : Prop := ∃ a n cap T, w.heap[p]? = some (.cells #[.int .i64 l.length, .slice a n cap] T (0, 0)) ∧ w.ownsRow B 5 1 (.slice a n cap) l.length (bc l) ∧ p < B ∧ B ≤ w.heap.size ∧ ∀ b ∈ l, b < 256
theorem own_ch {S : Nat → Prop} {w w' : World} {B n size : Nat} {e : TypeId} {v : Value} {l : List Value} (h : w.ownsRow B e size v n l) (hc : Ch S w w') (hS : ∀ i, B ≤ i → ¬ S i) : w'.ownsRow B e size v n l := by
  have hlt := h.lt
  obtain ⟨h1, h2⟩ := h
  refine ⟨h1, ?_⟩
  rcases h2 with h2 | ⟨g, cap, cur, rfl, hg, hh, r⟩
  · exact Or.inl h2
  · exact Or.inr ⟨g, cap, cur, rfl, hg, (hc.block g (hlt g rfl).2 (hS g hg)).trans hh, r⟩
theorem Wr.ch {S : Nat → Prop} {w w' : World} {p B : Nat} {l : List Nat} (h : Wr w p B l) (hc : Ch S w w') (h1 : ¬ S p) (h2 : ∀ i, B ≤ i → ¬ S i) : Wr w' p B l := by
  obtain ⟨a, n, cap, T, g, ho, hp, hB, hb⟩ := h
  exact ⟨a, n, cap, T, (hc.block p (by omega) h1).trans g, own_ch ho hc h2, hp, Nat.le_trans hB hc.size, hb⟩
/-- What a writer's call may turn: its block, and a row of bytes from B on. -/
def WU (p B : Nat) (w : World) : Nat → Prop := fun i => i = p ∨ (B ≤ i ∧ ∃ c fz, w.heap[i]? = some (.cells c 5 fz))
theorem Ch.tu {p B : Nat} {a b c : World} (h : Ch (WU p B a) a b) (k : Ch (WU p B b) b c) : Ch (WU p B a) a c :=
  h.then k (fun i hi hT => by
    rcases hT with rfl | ⟨hB, o, fz, ho⟩
    · exact Or.inl rfl
    · apply Classical.byContradiction
      intro hn
      apply hn
      rw [h.block i hi hn] at ho
      exact Or.inr ⟨hB, o, fz, ho⟩)
/-- A block of another kind stays. -/
theorem Ch.other {p B i : Nat} {w w' : World} {c : Array Value} {T : TypeId} {fz : Nat × Nat} (h : Ch (WU p B w) w w') (hi : w.heap[i]? = some (.cells c T fz)) (hp : i ≠ p) (hT : T ≠ 5) : w'.heap[i]? = some (.cells c T fz) := by
  rw [h.block i (lt_of_heap hi) (fun hs => ?_), hi]
  rcases hs with hs | ⟨_, c', fz', he⟩
  · exact hp hs
  · rw [hi] at he
    injection he with he
    injection he with _ h2 _
    exact hT h2
end Go.Proofs.Ytlbkkeoffeohnab
