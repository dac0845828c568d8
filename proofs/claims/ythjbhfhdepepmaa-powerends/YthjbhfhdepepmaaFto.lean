/- What a list of fates that came in is. -/
import Derived.Test.YthjbhfhdepepmaaPen
namespace Go.Proofs.Ythjbhfhdepepmaa
open Go.ChangeShapes Go.WideShapes Go.ChangeAt Go.RowKit Go.Deep
/-- A list of fates that came in: where it lies, where each one's writes lie, how great they are. -/
structure FtIn (w : World) (a : Option Addr) (ms : List Ft3) (fs : List Ftp) : Prop where
  F : Fts w a ms
  len : ms.length = fs.length
  at1 : ∀ j, j < fs.length → (ms.getD j t00).1 = (fs.getD j p00).1 ∧ (ms.getD j t00).2.1 = (fs.getD j p00).2.1 ∧ (ms.getD j t00).2.2.2.1 = (fs.getD j p00).2.2.length ∧ Wrs w (ms.getD j t00).2.2.1 (fs.getD j p00).2.2 ∧ (fs.getD j p00).2.2.length ≤ 140737488355328 ∧ (∀ y ∈ (fs.getD j p00).2.2, WrOk y) ∧ (fs.getD j p00).1.size ≤ 140737488355328 ∧ (Lit.int .i64 (fs.getD j p00).2.1).wf = true
variable {H : Type} {enc : TypeId × Value → H} {W : World}
theorem Try.bFate : Try.prog.bytesOf 24 = 48 := by kernel_rfl
theorem open_fates {fuel : Nat} {cs : List Value} {x : DataW H × List MemPlace} (h : DataW.trod enc Try.prog W 0 (fun _ => true) true fuel 37 cs = some x) (hz : ∀ n ∈ x.1.weights Try.prog 37, n ≤ reachBytes) : ∃ (a : Option Addr) (cap : Nat) (ms : List Ft3) (fs : List Ftp), cs = [.slice a ms.length cap] ∧ FtIn W a ms fs ∧ ms.length ≤ 2932031007402 := by
  haveI : Inhabited (Ft3 × Ftp) := ⟨(t00, p00)⟩
  rcases open_slice Try.underlying37 h with ⟨hcs', hx⟩ | ⟨x', l, c, m, n, D, Pl, hcs', _, hl', hm, hmm, hx, hel⟩
  · exact ⟨none, 0, [], [], by simpa using hcs', ⟨Or.inl rfl, rfl, fun j hj => by simp at hj⟩, by simp⟩
  · simp only [if_true] at hmm
    subst hx
    simp only [DataW.weights, Try.underlying37, List.length_map, List.length_range, Try.bFate, List.mem_cons, List.mem_append] at hz
    have hl0 := hz _ (Or.inl rfl)
    have each : ∀ i, i < l → ∃ o : Ft3 × Ftp, W.cell? ((x'.add (i * 3)).add 0) = some (.string o.1.1) ∧ W.cell? ((x'.add (i * 3)).add 1) = some (.int .i64 o.1.2.1) ∧ W.cell? ((x'.add (i * 3)).add 2) = some (ovS o.1.2.2) ∧ o.1.1 = o.2.1 ∧ o.1.2.1 = o.2.2.1 ∧ o.1.2.2.2.1 = o.2.2.2.length ∧ Wrs W o.1.2.2.1 o.2.2.2 ∧ o.2.2.2.length ≤ 140737488355328 ∧ (∀ y ∈ o.2.2.2, WrOk y) ∧ o.2.1.size ≤ 140737488355328 ∧ (Lit.int .i64 o.2.2.1).wf = true := by
      intro i hi
      obtain ⟨cs', e1, e2⟩ := hel i (by omega)
      rw [Try.cFate] at e1
      obtain ⟨nm, kp, ao, co, ws, hcs, V, hl2, hk2, hn2, wf2⟩ := open_fate e2 (fun n hn => hz n (by
        first
        | exact Or.inr (Or.inl (w_mem_all (by simp; exact ⟨i, by omega, rfl⟩) n hn))
        | exact Or.inr (w_mem_all (by simp; exact ⟨i, by omega, rfl⟩) n hn)))
      have g := (World.cells?_some e1)
      refine ⟨((nm, kp, ao, ws.length, co), (nm, kp, ws)), ?_, ?_, ?_, rfl, rfl, rfl, V, hl2, hk2, hn2, wf2⟩
      · rw [g.2.2 0 (by omega), hcs]; rfl
      · rw [g.2.2 1 (by omega), hcs]; rfl
      · rw [g.2.2 2 (by omega), hcs]; rfl
    obtain ⟨f, hf⟩ := choose_lt each
    have eg : ∀ j, j < l → ((List.range l).map (fun i => (f i).1)).getD j t00 = (f j).1 := fun j hj => by
      rw [List.getD_eq_getElem?_getD, List.getElem?_map, List.getElem?_range hj]
      rfl
    have eg2 : ∀ j, j < l → ((List.range l).map (fun i => (f i).2)).getD j p00 = (f j).2 := fun j hj => by
      rw [List.getD_eq_getElem?_getD, List.getElem?_map, List.getElem?_range hj]
      rfl
    refine ⟨some x', c, (List.range l).map (fun i => (f i).1), (List.range l).map (fun i => (f i).2), by simpa using hcs', ⟨?_, by simp, ?_⟩, ?_⟩
    · by_cases h0 : l = 0
      · left; subst h0; rfl
      · right
        obtain ⟨b, off, spot⟩ := x'
        have h00 := (hf 0 (by omega)).1
        have hspot : spot = none := by simpa [Addr.add] using World.cell?_spot h00
        subst hspot
        have hlt := World.block_lt_of_cell? _ _ h00
        refine ⟨b, off, rfl, by simpa [Addr.add] using hlt, fun j hj => ?_⟩
        have hj' : j < l := by simpa using hj
        obtain ⟨k0, k1, k2, _⟩ := hf j hj'
        rw [Go.WideShapes.add_plain, Go.WideShapes.add_plain] at k0 k1 k2
        rw [eg j hj']
        exact ⟨by simpa using k0, k1, k2⟩
    · intro j hj
      have hj' : j < l := by simpa using hj
      obtain ⟨_, _, _, k3⟩ := hf j hj'
      rw [eg j hj', eg2 j hj']
      exact k3
    · simp only [List.length_map, List.length_range]
      unfold reachBytes at hl0
      omega
end Go.Proofs.Ythjbhfhdepepmaa
