/- The program's disk and the document's, side by side. -/
import Derived.Test.YtclelafnjfhdjaaRcr
import Derived.Test.YtclelafnjfhdjaaRap
import Derived.Test.YtclelafnjfhdjaaLst
import Derived.Test.YtclelafnjfhdjaaCln0
namespace Go.Proofs.Ytclelafnjfhdjaa
open Go.RowKit
theorem Ds.kept {w w' : World} {d : Nat} {ft : Nat → Prop} {rm : Nat} {cl cb : Int} {V : Vw} (h : Ds w d ft rm cl cb V) (hb : Below w.heap.size w w') : Ds w' d ft rm cl cb V := h.ch (Ch.of_below (S := fun _ => False) hb) (fun _ _ e => e)
theorem Rs.kept {w w' : World} {d : Nat} {ft : Nat → Prop} {rm : Nat} {cl cb : Int} {V : Vw} (h : Rs w d ft rm cl cb V) (hb : Below w.heap.size w w') : Rs w' d ft rm cl cb V := h.ch (Ch.of_below (S := fun _ => False) hb) (fun _ _ e => e)
theorem Ds.len {w : World} {d : Nat} {ft : Nat → Prop} {rm : Nat} {cl cb : Int} {V : Vw} (h : Ds w d ft rm cl cb V) : ∃ m fs, Dk w d m rm cl cb fs ∧ vw fs = V ∧ fs.length = V.length ∧ fs.map Fl.nm = V.map (·.1) := by
  obtain ⟨m, fs, h1, rfl, _⟩ := h
  refine ⟨m, fs, h1, rfl, by simp [vw], by simp [vw]⟩
theorem s_listV (d : Nat) (ft : Nat → Prop) (rm : Nat) (cl cb : Int) (V : Vw) (w : World) (h : Ds w d ft rm cl cb V) (hl : V.length ≤ 65536) :
    Calls Try.prog 15 #[.pointer (some ⟨d, 0, none⟩)] w fun e w' => ∃ v, e = .returned v ∧ Lsd w' w.heap.size v (V.map (·.1)) ∧ Below w.heap.size w w' := by
  obtain ⟨m, fs, h1, h2, h3, h4⟩ := h.len
  rw [← h4]
  exact list_any d m rm cl cb fs w h1 (by omega)
theorem s_clone (d : Nat) (ft : Nat → Prop) (rm : Nat) (cl cb : Int) (V : Vw) (w : World) (h : Ds w d ft rm cl cb V) (hl : V.length ≤ 65536) :
    Calls Try.prog 12 #[.pointer (some ⟨d, 0, none⟩)] w fun e w' => e = .returned (.pointer (some ⟨w.heap.size, 0, none⟩)) ∧ (∃ fc, Ds w' w.heap.size fc rm cl cb V ∧ ∀ i, fc i → w.heap.size ≤ i) ∧ Below w.heap.size w w' := by
  obtain ⟨m, fs, h1, h2, h3, h4⟩ := h.len
  refine (dclone_any d m rm cl cb fs w h1 (by omega)).mono ?_
  rintro e w' ⟨he, gs, k1, k2, k3, k4⟩
  exact ⟨he, ⟨_, ⟨_, gs, k1, k2.trans h2, rfl⟩, k3⟩, k4⟩
/-- Nothing that K names has turned. -/
def Fk (K : Nat → Prop) (w0 w : World) : Prop := (w.os = w0.os ∧ w.tape = w0.tape ∧ w.output = w0.output) ∧ w0.heap.size ≤ w.heap.size ∧ ∀ i, K i → i < w0.heap.size ∧ w.heap[i]? = w0.heap[i]?
theorem Fk.ch {K S : Nat → Prop} {w0 w w' : World} (h : Fk K w0 w) (hc : Ch S w w') (hS : ∀ i, K i → ¬ S i) : Fk K w0 w' :=
  ⟨⟨hc.os.trans h.1.1, hc.tape.trans h.1.2.1, hc.output.trans h.1.2.2⟩, Nat.le_trans h.2.1 hc.size, fun i hi => ⟨(h.2.2 i hi).1, (hc.block i (Nat.lt_of_lt_of_le (h.2.2 i hi).1 h.2.1) (hS i hi)).trans (h.2.2 i hi).2⟩⟩
theorem Fk.kept {K : Nat → Prop} {w0 w w' : World} (h : Fk K w0 w) (hb : Below w.heap.size w w') : Fk K w0 w' := h.ch (Ch.of_below (S := fun _ => False) hb) (fun _ _ e => e)
theorem Fk.refl {K : Nat → Prop} {w : World} (h : ∀ i, K i → i < w.heap.size) : Fk K w w := ⟨⟨rfl, rfl, rfl⟩, Nat.le_refl _, fun i hi => ⟨h i hi, rfl⟩⟩
theorem Fk.toCh {K : Nat → Prop} {w0 w : World} (h : Fk K w0 w) : Ch (fun i => ¬ K i) w0 w := ⟨h.1.1, h.1.2.1, h.1.2.2, h.2.1, fun i _ hs => (h.2.2 i (Classical.not_not.1 hs)).2⟩
theorem Fk.below {w0 w : World} {H : Nat} {K : Nat → Prop} (h : Fk K w0 w) (hK : ∀ i, i < H → K i) : Below H w0 w := ⟨h.1.1, h.1.2.1, h.1.2.2, h.2.1, fun i hi => (h.2.2 i (hK i hi)).2⟩
/-- Both, apart from one another and from what K names. -/
def Pr (w0 : World) (K : Nat → Prop) (w : World) (d r : Nat) (rm : Nat) (cl cb : Int) (V : Vw) (cl' cb' : Int) (V' : Vw) : Prop :=
  ∃ fd fr, Ds w d fd rm cl cb V ∧ Rs w r fr rm cl' cb' V' ∧ (∀ i, fd i → ¬ fr i) ∧ (∀ i, fd i → ¬ K i) ∧ (∀ i, fr i → ¬ K i) ∧ Fk K w0 w
section
variable {w0 : World} {K : Nat → Prop} {w w' : World} {d r : Nat} {rm : Nat} {cl cb : Int} {V : Vw} {cl' cb' : Int} {V' : Vw}
theorem Pr.fk (h : Pr w0 K w d r rm cl cb V cl' cb' V') : Fk K w0 w := let ⟨_, _, _, _, _, _, _, k⟩ := h; k
theorem Pr.prog (h : Pr w0 K w d r rm cl cb V cl' cb' V') {Q : Ending → World → Prop} {cl1 cb1 : Int} {V1 : Vw} {f : FuncId} {args : Array Value} {v : Value}
    (hc : ∀ fa, Ds w d fa rm cl cb V → Calls Try.prog f args w fun e w' => e = .returned v ∧ Aft w fa d rm cl1 cb1 V1 w') (hQ : ∀ w', Pr w0 K w' d r rm cl1 cb1 V1 cl' cb' V' → Oth w w' → Q (.returned v) w') : Calls Try.prog f args w Q := by
  obtain ⟨fa, fb, h1, h2, h3, h4, h5, h7⟩ := h
  refine (hc fa h1).mono ?_
  rintro e w' ⟨rfl, fa', k1, k2, k3⟩
  refine hQ w' ⟨fa', fb, k1, h2.ch k2 (fun i hb ha => h3 i ha hb), fun i ha hb => ?_, fun i ha hK => ?_, h5, h7.ch k2 (fun i hK ha => h4 i ha hK)⟩ (h1.oth k2)
  · rcases k3 i ha with k | k
    · exact h3 i k hb
    · have := h2.lt hb; omega
  · rcases k3 i ha with k | k
    · exact h4 i k hK
    · have := (h7.2.2 i hK).1; have := h7.2.1; omega
theorem Pr.kept (h : Pr w0 K w d r rm cl cb V cl' cb' V') (hb : Below w.heap.size w w') : Pr w0 K w' d r rm cl cb V cl' cb' V' := by
  obtain ⟨fa, fb, h1, h2, h3, h4, h5, h7⟩ := h
  exact ⟨fa, fb, h1.kept hb, h2.kept hb, h3, h4, h5, h7.kept hb⟩
theorem Pr.drewN (h : Pr w0 K w d r rm cl cb V cl' cb' V') (k : Nat) : Pr w0 K (w.drewN k) d r rm cl cb V cl' cb' V' := h.kept (bel_drewN w k)
end
theorem Pr.new (w : World) (x : Int) (K : Nat → Prop) (w0 : World) (h : Fk K w0 w) : Pr w0 K ((w.alloc (.cells #[.int .i64 (clamp x), .int .i64 0, .map none, .int .i64 0, .int .i64 0] 48)).alloc (.cells #[.int .i64 (clamp x), .slice none 0 0, .int .i64 0, .int .i64 0] 61)) w.heap.size (w.heap.size + 1) (clamp x) 0 0 [] 0 0 [] := by
  obtain ⟨w1, hw1⟩ : ∃ w1, w1 = w.alloc (.cells #[.int .i64 (clamp x), .int .i64 0, .map none, .int .i64 0, .int .i64 0] 48) := ⟨_, rfl⟩
  have hs1 : w1.heap.size = w.heap.size + 1 := by rw [hw1]; simp
  have h1 := Ds.new w x
  have h2 := Rs.new w1 x
  rw [← hw1] at h1 ⊢
  rw [hs1] at h2
  have hk1 : Fk K w0 w1 := h.kept (by rw [hw1]; exact bel_alloc _ _)
  refine ⟨_, _, h1.kept (bel_alloc _ _), h2, fun i ha hb => ?_, fun i ha hK => ?_, fun i hb hK => ?_, hk1.kept (bel_alloc _ _)⟩
  · have e1 : i = w.heap.size := ha
    have e2 : i = w.heap.size + 1 := hb
    omega
  · have e1 : i = w.heap.size := ha
    have := (h.2.2 i hK).1
    have := h.2.1
    omega
  · have e2 : i = w.heap.size + 1 := hb
    have := (h.2.2 i hK).1
    have := h.2.1
    omega
theorem clamp_le (x : Int) : clamp x ≤ 1099511627776 := by unfold clamp; omega
end Go.Proofs.Ytclelafnjfhdjaa
