/- What a list of files that came in is. -/
import Derived.Test.YthjbhfhdepepmabPMB
namespace Go.Proofs.Ythjbhfhdepepmab
open Go.ChangeShapes Go.WideShapes Go.ChangeAt Go.RowKit Go.Deep
variable {H : Type} {enc : TypeId × Value → H} {W : World}
theorem Try.cFile : Try.prog.cellsOf 43 = 3 := by kernel_rfl
theorem Try.bFile : Try.prog.bytesOf 43 = 40 := by kernel_rfl
theorem Try.cStrF : Try.prog.cellsOf 9 = 1 := by kernel_rfl
theorem Try.cU16F : Try.prog.cellsOf 41 = 1 := by kernel_rfl
theorem w_mem_allF {P : Program} {e : TypeId} : ∀ {l : List (DataW H)} {d : DataW H}, d ∈ l → ∀ n ∈ d.weights P e, n ∈ DataW.weightsAll P e l
  | x :: l, d, h, n, hn => by
    simp only [DataW.weightsAll, List.mem_append]
    rcases List.mem_cons.1 h with rfl | h
    · exact Or.inl hn
    · exact Or.inr (w_mem_allF h n hn)
set_option maxRecDepth 40000 in
theorem open_file {fuel : Nat} {cs : List Value} {x : DataW H × List MemPlace} (h : DataW.trod enc Try.prog W 0 (fun _ => true) true fuel 43 cs = some x) (hz : ∀ n ∈ x.1.weights Try.prog 43, n ≤ reachBytes) : ∃ f : ByteArray × ByteArray × Nat, cs = [.string f.1, .string f.2.1, .int .u16 f.2.2] ∧ FlOk f := by
  obtain ⟨xs, n, _, rfl, hlen, hxs, hf⟩ := DataW.trod_struct Try.underlying43 h
  rw [Try.cFile] at hlen
  match xs, hxs with
  | [y0, y1, y2], _ =>
    have k0 : DataW.trod enc Try.prog W 0 (fun _ => true) true n 9 ((cs.drop 0).take (Try.prog.cellsOf 9)) = some y0 := hf 0 _ rfl
    have k1 : DataW.trod enc Try.prog W 0 (fun _ => true) true n 9 ((cs.drop 1).take (Try.prog.cellsOf 9)) = some y1 := hf 1 _ rfl
    have k2 : DataW.trod enc Try.prog W 0 (fun _ => true) true n 41 ((cs.drop 2).take (Try.prog.cellsOf 41)) = some y2 := hf 2 _ rfl
    rw [Try.cStrF] at k0 k1
    rw [Try.cU16F] at k2
    have hz' : ∀ n ∈ DataW.weightsEach Try.prog [9, 9, 41] [y0.1, y1.1, y2.1], n ≤ reachBytes := by
      have e : DataW.weights Try.prog 43 (DataW.agg (H := H) [y0.1, y1.1, y2.1]) = DataW.weightsEach Try.prog [9, 9, 41] [y0.1, y1.1, y2.1] := by
        simp only [DataW.weights, Try.underlying43]
        rfl
      rw [← e]
      exact hz
    obtain ⟨nm, q0, r0, w0⟩ := DataW.trod_string Try.underlying9 k0
    obtain ⟨da, q1, r1, w1⟩ := DataW.trod_string Try.underlying9 k1
    obtain ⟨sf, q2, r2, w2⟩ := DataW.trod_int Try.underlying41 k2
    have hnm := hz' nm.size (DataW.weights_mem_each (j := 0) (t := 9) (d := y0.1) rfl rfl _ (by rw [r0]; simp [DataW.weights]))
    have hda := hz' da.size (DataW.weights_mem_each (j := 1) (t := 9) (d := y1.1) rfl rfl _ (by rw [r1]; simp [DataW.weights]))
    have hb := bounds_u16 w2
    match cs, hlen with
    | [c0, c1, c2], _ =>
      simp at q0 q1 q2
      subst q0 q1 q2
      refine ⟨(nm, da, sf.toNat), ?_, ?_, ?_, ?_⟩
      · simp only
        rw [show ((sf.toNat : Nat) : Int) = sf from by omega]
      · unfold reachBytes at hnm; unfold maxLen; show nm.size ≤ _; omega
      · unfold reachBytes at hda; unfold maxLen; show da.size ≤ _; omega
      · show sf.toNat < 65536; omega
theorem open_files {fuel : Nat} {cs : List Value} {x : DataW H × List MemPlace} (h : DataW.trod enc Try.prog W 0 (fun _ => true) true fuel 22 cs = some x) (hz : ∀ n ∈ x.1.weights Try.prog 22, n ≤ reachBytes) : ∃ (a : Option Addr) (cap : Nat) (fs : List (ByteArray × ByteArray × Nat)), cs = [.slice a fs.length cap] ∧ Fls W a fs ∧ fs.length ≤ 9223372036854775806 ∧ ∀ f ∈ fs, FlOk f := by
  haveI : Inhabited (ByteArray × ByteArray × Nat) := ⟨f00⟩
  rcases open_slice Try.underlying22 h with ⟨hcs', hx⟩ | ⟨x', l, c, m, n, D, Pl, hcs', _, hl', hm, hmm, hx, hel⟩
  · exact ⟨none, 0, [], by simpa using hcs', Or.inl rfl, by simp, by simp⟩
  · simp only [if_true] at hmm
    subst hx
    simp only [DataW.weights, Try.underlying22, List.length_map, List.length_range, Try.bFile, List.mem_cons, List.mem_append] at hz
    have hl0 := hz _ (Or.inl rfl)
    have each : ∀ i, i < l → ∃ o : ByteArray × ByteArray × Nat, W.cell? ((x'.add (i * 3)).add 0) = some (.string o.1) ∧ W.cell? ((x'.add (i * 3)).add 1) = some (.string o.2.1) ∧ W.cell? ((x'.add (i * 3)).add 2) = some (.int .u16 o.2.2) ∧ FlOk o := by
      intro i hi
      obtain ⟨cs', e1, e2⟩ := hel i (by omega)
      rw [Try.cFile] at e1
      obtain ⟨o, hcs, hok⟩ := open_file e2 (fun n hn => hz n (by
        first
        | exact Or.inr (Or.inl (w_mem_allF (by simp; exact ⟨i, by omega, rfl⟩) n hn))
        | exact Or.inr (w_mem_allF (by simp; exact ⟨i, by omega, rfl⟩) n hn)))
      have g := (World.cells?_some e1)
      refine ⟨o, ?_, ?_, ?_, hok⟩
      · rw [g.2.2 0 (by omega), hcs]; rfl
      · rw [g.2.2 1 (by omega), hcs]; rfl
      · rw [g.2.2 2 (by omega), hcs]; rfl
    obtain ⟨f, hf⟩ := choose_lt each
    refine ⟨some x', c, (List.range l).map f, by simpa using hcs', ?_, ?_, ?_⟩
    · by_cases h0 : l = 0
      · left; subst h0; rfl
      · right
        obtain ⟨b, off, spot⟩ := x'
        have h00 := (hf 0 (by omega)).1
        have hspot : spot = none := by simpa [Addr.add] using World.cell?_spot h00
        subst hspot
        have hlt := World.block_lt_of_cell? _ _ h00
        refine ⟨b, off, rfl, by simpa [Addr.add] using hlt, fun j hj => ?_⟩
        have hj' : j < l := by simpa using hj
        obtain ⟨k0, k1, k2, _⟩ := hf j hj'
        rw [Go.WideShapes.add_plain, Go.WideShapes.add_plain] at k0 k1 k2
        have eg : ((List.range l).map f).getD j f00 = f j := by
          rw [List.getD_eq_getElem?_getD, List.getElem?_map, List.getElem?_range hj']
          rfl
        rw [eg]
        exact ⟨by simpa using k0, k1, k2⟩
    · simp only [List.length_map, List.length_range]
      unfold reachBytes at hl0
      omega
    · intro y hy
      simp only [List.mem_map, List.mem_range] at hy
      obtain ⟨i, hi, rfl⟩ := hy
      exact (hf i hi).2.2.2
end Go.Proofs.Ythjbhfhdepepmab
