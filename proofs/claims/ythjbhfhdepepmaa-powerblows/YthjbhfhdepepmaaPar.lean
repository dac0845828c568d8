/- The program's disk and the document's, side by side. -/
import Derived.Test.YthjbhfhdepepmaaRcr
import Derived.Test.YthjbhfhdepepmaaRap
import Derived.Test.YthjbhfhdepepmaaLst
import Derived.Test.YthjbhfhdepepmaaCln0
namespace Go.Proofs.Ythjbhfhdepepmaa
open Go.RowKit
theorem Ds.kept {w w' : World} {d : Nat} {ft : Nat → Prop} {rm : Nat} {cl cb : Int} {V : Vw} (h : Ds w d ft rm cl cb V) (hb : Below w.heap.size w w') : Ds w' d ft rm cl cb V := h.ch (Ch.of_below (S := fun _ => False) hb) (fun _ _ e => e)
theorem Rs.kept {w w' : World} {d : Nat} {ft : Nat → Prop} {rm : Nat} {cl cb : Int} {V : Vw} (h : Rs w d ft rm cl cb V) (hb : Below w.heap.size w w') : Rs w' d ft rm cl cb V := h.ch (Ch.of_below (S := fun _ => False) hb) (fun _ _ e => e)
theorem Ds.len {w : World} {d : Nat} {ft : Nat → Prop} {rm : Nat} {cl cb : Int} {V : Vw} (h : Ds w d ft rm cl cb V) : ∃ m fs, Dk w d m rm cl cb fs ∧ vw fs = V ∧ fs.length = V.length ∧ fs.map Fl.nm = V.map (·.1) := by
  obtain ⟨m, fs, h1, rfl, _⟩ := h
  refine ⟨m, fs, h1, rfl, by simp [vw], by simp [vw]⟩
theorem s_listV (d : Nat) (ft : Nat → Prop) (rm : Nat) (cl cb : Int) (V : Vw) (w : World) (h : Ds w d ft rm cl cb V) (hl : V.length ≤ 65536) :
    Calls Try.prog 39 #[.pointer (some ⟨d, 0, none⟩)] w fun e w' => ∃ v, e = .returned v ∧ Lsd w' w.heap.size v (V.map (·.1)) ∧ Below w.heap.size w w' := by
  obtain ⟨m, fs, h1, h2, h3, h4⟩ := h.len
  rw [← h4]
  exact list_any d m rm cl cb fs w h1 (by omega)
theorem s_clone (d : Nat) (ft : Nat → Prop) (rm : Nat) (cl cb : Int) (V : Vw) (w : World) (h : Ds w d ft rm cl cb V) (hl : V.length ≤ 65536) :
    Calls Try.prog 33 #[.pointer (some ⟨d, 0, none⟩)] w fun e w' => e = .returned (.pointer (some ⟨w.heap.size, 0, none⟩)) ∧ (∃ fc, Ds w' w.heap.size fc rm cl cb V ∧ ∀ i, fc i → w.heap.size ≤ i) ∧ Below w.heap.size w w' := by
  obtain ⟨m, fs, h1, h2, h3, h4⟩ := h.len
  refine (dclone_any d m rm cl cb fs w h1 (by omega)).mono ?_
  rintro e w' ⟨he, gs, k1, k2, k3, k4⟩
  exact ⟨he, ⟨_, ⟨_, gs, k1, k2.trans h2, rfl⟩, k3⟩, k4⟩
/-- Both, apart from one another, all of their blocks from H on. -/
def Pr (w0 : World) (H : Nat) (w : World) (d r : Nat) (rm : Nat) (cl cb : Int) (V : Vw) (cl' cb' : Int) (V' : Vw) : Prop :=
  ∃ fd fr, Ds w d fd rm cl cb V ∧ Rs w r fr rm cl' cb' V' ∧ (∀ i, fd i → ¬ fr i) ∧ (∀ i, fd i → H ≤ i) ∧ (∀ i, fr i → H ≤ i) ∧ H ≤ w.heap.size ∧ Below H w0 w
section
variable {w0 : World} {H : Nat} {w w' : World} {d r : Nat} {rm : Nat} {cl cb : Int} {V : Vw} {cl' cb' : Int} {V' : Vw}
theorem Pr.below (h : Pr w0 H w d r rm cl cb V cl' cb' V') : Below H w0 w := let ⟨_, _, _, _, _, _, _, _, k⟩ := h; k
theorem Pr.prog (h : Pr w0 H w d r rm cl cb V cl' cb' V') {Q : Ending → World → Prop} {cl1 cb1 : Int} {V1 : Vw} {f : FuncId} {args : Array Value} {v : Value}
    (hc : ∀ fa, Ds w d fa rm cl cb V → Calls Try.prog f args w fun e w' => e = .returned v ∧ Aft w fa d rm cl1 cb1 V1 w') (hQ : ∀ w', Pr w0 H w' d r rm cl1 cb1 V1 cl' cb' V' → Oth w w' → Q (.returned v) w') : Calls Try.prog f args w Q := by
  obtain ⟨fa, fb, h1, h2, h3, h4, h5, h6, h7⟩ := h
  refine (hc fa h1).mono ?_
  rintro e w' ⟨rfl, fa', k1, k2, k3⟩
  refine hQ w' ⟨fa', fb, k1, h2.ch k2 (fun i hb ha => h3 i ha hb), fun i ha hb => ?_, fun i ha => ?_, h5, Nat.le_trans h6 k2.size, h7.trans (k2.below h6 (fun i hi hf => by have := h4 i hf; omega))⟩ (h1.oth k2)
  · rcases k3 i ha with k | k
    · exact h3 i k hb
    · have := h2.lt hb; omega
  · rcases k3 i ha with k | k
    · exact h4 i k
    · omega
theorem Pr.ref (h : Pr w0 H w d r rm cl cb V cl' cb' V') {Q : Ending → World → Prop} {cl1 cb1 : Int} {V1 : Vw} {f : FuncId} {args : Array Value} {v : Value}
    (hc : ∀ fl, Rk w r fl rm cl' cb' V' → Calls Try.prog f args w fun e w' => e = .returned v ∧ RAft w (Rt r fl) r rm cl1 cb1 V1 w') (hQ : ∀ w', Pr w0 H w' d r rm cl cb V cl1 cb1 V1 → Q (.returned v) w') : Calls Try.prog f args w Q := by
  obtain ⟨fa, fb, h1, ⟨fl, h2, rfl⟩, h3, h4, h5, h6, h7⟩ := h
  refine (hc fl h2).mono ?_
  rintro e w' ⟨rfl, fb', k1, k2, k3⟩
  refine hQ w' ⟨fa, fb', h1.ch k2 (fun i ha hb => h3 i ha hb), k1, fun i ha hb => ?_, h4, fun i hb => ?_, Nat.le_trans h6 k2.size, h7.trans (k2.below h6 (fun i hi hf => by have := h5 i hf; omega))⟩
  · rcases k3 i hb with k | k
    · exact h3 i ha k
    · have := h1.lt ha; omega
  · rcases k3 i hb with k | k
    · exact h5 i k
    · omega
theorem Pr.kept (h : Pr w0 H w d r rm cl cb V cl' cb' V') (hb : Below w.heap.size w w') : Pr w0 H w' d r rm cl cb V cl' cb' V' := by
  obtain ⟨fa, fb, h1, h2, h3, h4, h5, h6, h7⟩ := h
  exact ⟨fa, fb, h1.kept hb, h2.kept hb, h3, h4, h5, Nat.le_trans h6 hb.size, h7.trans (hb.mono h6)⟩
theorem Pr.drewN (h : Pr w0 H w d r rm cl cb V cl' cb' V') (k : Nat) : Pr w0 H (w.drewN k) d r rm cl cb V cl' cb' V' := h.kept (bel_drewN w k)
end
theorem Pr.new (w : World) (x : Int) (H : Nat) (w0 : World) (h : Below H w0 w) (hs : H ≤ w.heap.size) : Pr w0 H ((w.alloc (.cells #[.int .i64 (clamp x), .int .i64 0, .map none, .int .i64 0, .int .i64 0] 107)).alloc (.cells #[.int .i64 (clamp x), .slice none 0 0, .int .i64 0, .int .i64 0] 77)) w.heap.size (w.heap.size + 1) (clamp x) 0 0 [] 0 0 [] := by
  obtain ⟨w1, hw1⟩ : ∃ w1, w1 = w.alloc (.cells #[.int .i64 (clamp x), .int .i64 0, .map none, .int .i64 0, .int .i64 0] 107) := ⟨_, rfl⟩
  have hs1 : w1.heap.size = w.heap.size + 1 := by rw [hw1]; simp
  have h1 := Ds.new w x
  have h2 := Rs.new w1 x
  rw [← hw1] at h1 ⊢
  rw [hs1] at h2
  refine ⟨_, _, h1.kept (bel_alloc _ _), h2, fun i ha hb => ?_, fun i ha => ?_, fun i hb => ?_, by simp; omega, ?_⟩
  · have e1 : i = w.heap.size := ha
    have e2 : i = w.heap.size + 1 := hb
    omega
  · have e1 : i = w.heap.size := ha
    omega
  · have e2 : i = w.heap.size + 1 := hb
    omega
  · exact Below.alloc (by rw [hw1]; exact h.alloc hs _) (by omega) _
theorem clamp_le (x : Int) : clamp x ≤ 1099511627776 := by unfold clamp; omega
end Go.Proofs.Ythjbhfhdepepmaa
