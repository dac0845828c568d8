/- sameTexts of two lists of the same names; two disks side by side. -/
import Derived.Test.YthjbhfhdepepmaaLst
import Derived.Test.YthjbhfhdepepmaaDon
import Derived.Deep.LoopGhost
namespace Go.Proofs.Ythjbhfhdepepmaa
open Go.RowKit
theorem hid {p : Prop} (h : p) : Hid p := h
theorem row_form {w : World} {B n : Nat} {v : Value} {xs : List Value} (h : w.ownsRow B 9 1 v n xs) : ∃ a cap, v = .slice a n cap ∧ ∀ j u, xs[j]? = some u → ∃ g, a = some ⟨g, 0, none⟩ ∧ w.cell? ⟨g, j, none⟩ = some u := by
  rcases h.2 with ⟨rfl, rfl⟩ | ⟨g, cap, cur, rfl, r⟩
  · refine ⟨none, 0, rfl, fun j u hj => ?_⟩
    have e : xs = [] := List.eq_nil_of_length_eq_zero (by have := h.1; omega)
    rw [e] at hj
    cases hj
  · refine ⟨_, cap, rfl, fun j u hj => ⟨g, rfl, ?_⟩⟩
    have := h.cells (g := g) rfl j u hj
    rw [add_lit] at this
    exact this
/-- Blocks of other types than a disk's own stay. -/
def Oth (w w' : World) : Prop := ∀ (i : Nat) (c : Array Value) (T : TypeId) (fz : Nat × Nat), w.heap[i]? = some (.cells c T fz) → T ≠ 5 → T ≠ 107 → T ≠ 109 → w'.heap[i]? = some (.cells c T fz)
theorem Oth.refl (w : World) : Oth w w := fun _ _ _ _ h _ _ _ => h
theorem Oth.trans {a b c : World} (h : Oth a b) (k : Oth b c) : Oth a c := fun i _ _ _ hi h1 h2 h3 => k i _ _ _ (h i _ _ _ hi h1 h2 h3) h1 h2 h3
theorem Oth.below {w w' : World} (h : Below w.heap.size w w') : Oth w w' := fun i _ _ _ hi _ _ _ => (h.block i (lt_of_heap hi)).trans hi
theorem Ds.oth {w w' : World} {d : Nat} {ft : Nat → Prop} {rm : Nat} {cl cb : Int} {V : Vw} (h : Ds w d ft rm cl cb V) (hc : Ch ft w w') : Oth w w' := by
  intro i c T fz hi h1 h2 h3
  refine (hc.block i (lt_of_heap hi) (fun hf => ?_)).trans hi
  obtain ⟨m, fs, hd, _, rfl⟩ := h
  rcases hf with rfl | hf | ⟨f, hf, rfl | hf⟩
  · rw [hd.blk] at hi; injection hi with hi; injection hi with _ e _; exact h2 e.symm
  · exact hd.m_cells hf hi rfl
  · rw [(hd.fil f hf).1] at hi; injection hi with hi; injection hi with _ e _; exact h3 e.symm
  · obtain ⟨cur, hcu⟩ := row_at (hd.fil f ‹_›).2 hf
    rw [hcu] at hi; injection hi with hi; injection hi with _ e _; exact h1 e.symm
/-- Two disks, apart from one another, all of whose blocks lie from H on. -/
def Two (w0 : World) (H : Nat) (w : World) (a b : Nat) (rm : Nat) (cla cba : Int) (Va : Vw) (clb cbb : Int) (Vb : Vw) : Prop :=
  ∃ fa fb, Ds w a fa rm cla cba Va ∧ Ds w b fb rm clb cbb Vb ∧ (∀ i, fa i → ¬ fb i) ∧ (∀ i, fa i → H ≤ i) ∧ (∀ i, fb i → H ≤ i) ∧ H ≤ w.heap.size ∧ Below H w0 w
section
variable {w0 : World} {H : Nat} {w w' : World} {a b : Nat} {rm : Nat} {cla cba : Int} {Va : Vw} {clb cbb : Int} {Vb : Vw}
theorem Two.below (h : Two w0 H w a b rm cla cba Va clb cbb Vb) : Below H w0 w := let ⟨_, _, _, _, _, _, _, _, k⟩ := h; k
theorem Two.swap (h : Two w0 H w a b rm cla cba Va clb cbb Vb) : Two w0 H w b a rm clb cbb Vb cla cba Va := by
  obtain ⟨fa, fb, h1, h2, h3, h4, h5, h6⟩ := h
  exact ⟨fb, fa, h2, h1, fun i hb ha => h3 i ha hb, h5, h4, h6⟩
theorem Two.first (h : Two w0 H w a b rm cla cba Va clb cbb Vb) {Q : Ending → World → Prop} {cl' cb' : Int} {V' : Vw} {f : FuncId} {args : Array Value} {v : Value}
    (hc : ∀ fa, Ds w a fa rm cla cba Va → Calls Try.prog f args w fun e w' => e = .returned v ∧ Aft w fa a rm cl' cb' V' w') (hQ : ∀ w', Two w0 H w' a b rm cl' cb' V' clb cbb Vb → Oth w w' → Q (.returned v) w') : Calls Try.prog f args w Q := by
  obtain ⟨fa, fb, h1, h2, h3, h4, h5, h6, h7⟩ := h
  refine (hc fa h1).mono ?_
  rintro e w' ⟨rfl, fa', k1, k2, k3⟩
  refine hQ w' ⟨fa', fb, k1, h2.ch k2 (fun i hb ha => h3 i ha hb), fun i ha hb => ?_, fun i ha => ?_, h5, Nat.le_trans h6 k2.size, h7.trans (k2.below h6 (fun i hi hf => by have := h4 i hf; omega))⟩ (h1.oth k2)
  · rcases k3 i ha with k | k
    · exact h3 i k hb
    · have := h2.lt hb; omega
  · rcases k3 i ha with k | k
    · exact h4 i k
    · omega
theorem Two.kept (h : Two w0 H w a b rm cla cba Va clb cbb Vb) (hb : Below w.heap.size w w') : Two w0 H w' a b rm cla cba Va clb cbb Vb := by
  obtain ⟨fa, fb, h1, h2, h3, h4, h5, h6, h7⟩ := h
  have hc : Ch (fun _ => False) w w' := Ch.of_below hb
  exact ⟨fa, fb, h1.ch hc (fun _ _ e => e), h2.ch hc (fun _ _ e => e), h3, h4, h5, Nat.le_trans h6 hb.size, h7.trans (hb.mono h6)⟩
theorem bel_drewN (w : World) (k : Nat) : Below w.heap.size w (w.drewN k) := ((Ch.refl (fun _ => False) w).drewN k).below (Nat.le_refl _) (fun _ _ e => e)
theorem bel_alloc (w : World) (o : Obj) : Below w.heap.size w (w.alloc o) := (Below.refl _ w).alloc (Nat.le_refl _) o
end
theorem Two.new (w : World) (r : Int) (H : Nat) (w0 : World) (h : Below H w0 w) (hs : H ≤ w.heap.size) : Two w0 H ((w.alloc (.cells #[.int .i64 (clamp r), .int .i64 0, .map none, .int .i64 0, .int .i64 0] 107)).alloc (.cells #[.int .i64 (clamp r), .int .i64 0, .map none, .int .i64 0, .int .i64 0] 107)) w.heap.size (w.heap.size + 1) (clamp r) 0 0 [] 0 0 [] := by
  obtain ⟨w1, hw1⟩ : ∃ w1, w1 = w.alloc (.cells #[.int .i64 (clamp r), .int .i64 0, .map none, .int .i64 0, .int .i64 0] 107) := ⟨_, rfl⟩
  have hs1 : w1.heap.size = w.heap.size + 1 := by rw [hw1]; simp
  have h1 := Ds.new w r
  have h2 := Ds.new w1 r
  rw [← hw1] at h1 ⊢
  rw [hs1] at h2
  refine ⟨_, _, h1.alloc _, h2, fun i ha hb => ?_, fun i ha => ?_, fun i hb => ?_, by simp; omega, ?_⟩
  · have e1 : i = w.heap.size := ha
    have e2 : i = w.heap.size + 1 := hb
    omega
  · have e1 : i = w.heap.size := ha
    omega
  · have e2 : i = w.heap.size + 1 := hb
    omega
  · exact Below.alloc (by rw [hw1]; exact h.alloc hs _) (by omega) _
end Go.Proofs.Ythjbhfhdepepmaa
