/- Both disks: what stays in a call of the document's. -/
import Derived.Test.YtclelafnjfhdjaaPak
namespace Go.Proofs.Ytclelafnjfhdjaa
open Go.RowKit
/-- Blocks of other types than the disks' own stay. -/
def OthA (w w' : World) : Prop := ∀ (i : Nat) (c : Array Value) (T : TypeId) (fz : Nat × Nat), w.heap[i]? = some (.cells c T fz) → T ≠ 5 → T ≠ 48 → T ≠ 74 → T ≠ 61 → T ≠ 82 → w'.heap[i]? = some (.cells c T fz)
theorem Oth.a {w w' : World} (h : Oth w w') : OthA w w' := fun i c T fz h1 h2 h3 h4 _ _ => h i c T fz h1 h2 h3 h4
theorem OthA.refl (w : World) : OthA w w := fun _ _ _ _ h _ _ _ _ _ => h
theorem OthA.trans {a b c : World} (h : OthA a b) (k : OthA b c) : OthA a c := fun i _ _ _ hi h1 h2 h3 h4 h5 => k i _ _ _ (h i _ _ _ hi h1 h2 h3 h4 h5) h1 h2 h3 h4 h5
theorem Rk.oth {w w' : World} {d : Nat} {fl : Value} {rm : Nat} {cl cb : Int} {V : Vw} (h : Rk w d fl rm cl cb V) (hc : Ch (Rt d fl) w w') : OthA w w' := by
  intro i c T fz hi _ _ _ h1 h2
  refine (hc.block i (lt_of_heap hi) (fun hf => ?_)).trans hi
  rcases hf with rfl | hf
  · rw [h.blk] at hi; injection hi with hi; injection hi with _ e _; exact h1 e.symm
  · rcases h.row.2 with ⟨rfl, _⟩ | ⟨g, cap, cur, rfl, _, hh, _⟩
    · cases hf
    · injection hf with hf
      subst hf
      rw [hh] at hi; injection hi with hi; injection hi with _ e _; exact h2 e.symm
section
variable {w0 : World} {K : Nat → Prop} {w w' : World} {d r : Nat} {rm : Nat} {cl cb : Int} {V : Vw} {cl' cb' : Int} {V' : Vw}
theorem Pr.refA (h : Pr w0 K w d r rm cl cb V cl' cb' V') {Q : Ending → World → Prop} {cl1 cb1 : Int} {V1 : Vw} {f : FuncId} {args : Array Value} {v : Value}
    (hc : ∀ fl, Rk w r fl rm cl' cb' V' → Calls Try.prog f args w fun e w' => e = .returned v ∧ RAft w (Rt r fl) r rm cl1 cb1 V1 w') (hQ : ∀ w', Pr w0 K w' d r rm cl cb V cl1 cb1 V1 → OthA w w' → Q (.returned v) w') : Calls Try.prog f args w Q := by
  obtain ⟨fa, fb, h1, ⟨fl, h2, rfl⟩, h3, h4, h5, h7⟩ := h
  refine (hc fl h2).mono ?_
  rintro e w' ⟨rfl, fb', k1, k2, k3⟩
  refine hQ w' ⟨fa, fb', h1.ch k2 (fun i ha hb => h3 i ha hb), k1, fun i ha hb => ?_, h4, fun i hb hK => ?_, h7.ch k2 (fun i hK hb => h5 i hb hK)⟩ (h2.oth k2)
  · rcases k3 i hb with k | k
    · exact h3 i ha k
    · have := h1.lt ha; omega
  · rcases k3 i hb with k | k
    · exact h5 i k hK
    · have := (h7.2.2 i hK).1; have := h7.2.1; omega
end
end Go.Proofs.Ytclelafnjfhdjaa
