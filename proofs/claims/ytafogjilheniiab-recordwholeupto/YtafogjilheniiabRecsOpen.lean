/- Reading a slice of records as an argument. -/
import Derived.Test.YtafogjilheniiabRecOpen
import Derived.Test.YtafogjilheniiabRecL
namespace Go.Proofs.Ytafogjilheniiab
open Go.ChangeShapes Go.WideShapes Go.ChangeAt Go.RowKit Go.Deep
variable {H : Type} {enc : TypeId × Value → H} {W : World}
instance : Inhabited RI := ⟨dri⟩
def rbk (l : List RI) : Nat := (l.map fun x => x.r.kd.size + x.r.vd.size + hbk x.r.hs + 1).sum
theorem rbk_mem {l : List RI} {x : RI} (h : x ∈ l) : x.r.kd.size + x.r.vd.size + hbk x.r.hs + 1 ≤ rbk l := by
  unfold rbk
  induction l with
  | nil => simp at h
  | cons y l ih =>
    rw [List.map_cons, List.sum_cons]
    rcases List.mem_cons.1 h with rfl | h
    · omega
    · have := ih h; omega
theorem rbk_len (l : List RI) : l.length ≤ rbk l := by
  unfold rbk
  induction l with
  | nil => simp
  | cons y l ih => rw [List.map_cons, List.sum_cons, List.length_cons]; omega
theorem sum_ler {H : Type} (f : Nat → RI) (D : Nat → DataW H) : ∀ (l : List Nat), (∀ i ∈ l, (f i).r.kd.size + (f i).r.vd.size + hbk (f i).r.hs + 1 ≤ Rows.uptoBulk (D i)) → rbk (l.map f) ≤ Rows.uptoBulkAll (l.map D)
  | [], _ => by simp [rbk, Rows.uptoBulkAll]
  | i :: l, h => by
    have ih := sum_ler f D l (fun j hj => h j (List.mem_cons_of_mem _ hj))
    have h0 := h i (List.mem_cons_self ..)
    simp only [rbk, List.map_cons, List.sum_cons, Rows.uptoBulkAll] at ih ⊢
    omega
set_option maxRecDepth 20000 in
theorem open_recs {fuel : Nat} {cs : List Value} {x : DataW H × List MemPlace} (h : DataW.trod enc Try.prog W 0 (fun _ => true) true fuel 22 cs = some x) : ∃ (a : Option Addr) (cap : Nat) (l : List RI), cs = [.slice a l.length cap] ∧ Rcs W a l ∧ rbk l ≤ Rows.uptoBulk x.1 ∧ (∀ y ∈ l, (Lit.int .i64 y.r.t).wf = true) ∧ (a = none → cap = 0) := by
  rcases open_slice Try.underlying22 h with ⟨hcs', hx⟩ | ⟨x', l, c, m, n, D, Pl, hcs', _, hl', hm, hmm, hx, hel⟩
  · exact ⟨none, 0, [], by simpa using hcs', ⟨fun x hx => by simp at hx, Or.inl rfl⟩, Nat.zero_le _, fun y hy => by simp at hy, fun _ => rfl⟩
  · simp only [if_true] at hmm
    subst hx
    have each : ∀ i, i < l → ∃ o : RI, (W.cell? ((x'.add (i * 6)).add 0) = some (.int .i64 o.r.t) ∧ W.cell? ((x'.add (i * 6)).add 1) = some (.bool o.r.kh) ∧ W.cell? ((x'.add (i * 6)).add 2) = some (.string o.r.kd) ∧ W.cell? ((x'.add (i * 6)).add 3) = some (.bool o.r.vh) ∧ W.cell? ((x'.add (i * 6)).add 4) = some (.string o.r.vd) ∧ W.cell? ((x'.add (i * 6)).add 5) = some (.slice o.a o.r.hs.length o.cap)) ∧ Hds W o.a o.r.hs ∧ o.r.kd.size + o.r.vd.size + hbk o.r.hs + 1 ≤ Rows.uptoBulk (D i) ∧ (Lit.int .i64 o.r.t).wf = true := by
      intro i hi
      obtain ⟨cs', e1, e2⟩ := hel i (by omega)
      rw [Try.cRec] at e1
      obtain ⟨r, a, cap, hy, V, hb, _, wf⟩ := open_rec e2
      have g := (World.cells?_some e1)
      refine ⟨⟨r, a, cap⟩, ⟨?_, ?_, ?_, ?_, ?_, ?_⟩, V, hb, wf⟩
      · rw [g.2.2 0 (by omega), hy]; rfl
      · rw [g.2.2 1 (by omega), hy]; rfl
      · rw [g.2.2 2 (by omega), hy]; rfl
      · rw [g.2.2 3 (by omega), hy]; rfl
      · rw [g.2.2 4 (by omega), hy]; rfl
      · rw [g.2.2 5 (by omega), hy]; rfl
    obtain ⟨f, hf⟩ := choose_lt each
    refine ⟨some x', c, (List.range l).map f, by simpa using hcs', ⟨?_, ?_⟩, ?_, ?_, fun h => by cases h⟩
    · intro y hy
      obtain ⟨i, hi, rfl⟩ := List.mem_map.1 hy
      exact (hf i (by simpa using hi)).2.1
    · by_cases h0 : l = 0
      · left; subst h0; rfl
      · right
        obtain ⟨b, off, spot⟩ := x'
        have h00 := (hf 0 (by omega)).1.1
        have hspot : spot = none := by simpa [Addr.add] using World.cell?_spot h00
        subst hspot
        have hlt := World.block_lt_of_cell? _ _ h00
        refine ⟨b, off, rfl, by simpa [Addr.add] using hlt, fun j hj => ?_⟩
        have hj' : j < l := by simpa using hj
        obtain ⟨⟨k0, k1, k2, k3, k4, k5⟩, _⟩ := hf j hj'
        rw [Go.WideShapes.add_plain, Go.WideShapes.add_plain] at k0 k1 k2 k3 k4 k5
        have eg : ((List.range l).map f).getD j dri = f j := by
          rw [List.getD_eq_getElem?_getD, List.getElem?_map, List.getElem?_range hj']
          rfl
        rw [eg]
        exact ⟨by simpa using k0, k1, k2, k3, k4, k5⟩
    · have := sum_ler f D (List.range l) (fun i hi => (hf i (by simpa using hi)).2.2.1)
      simp only [Rows.uptoBulk]
      have := this
      subst hmm
      omega
    · intro y hy
      obtain ⟨i, hi, rfl⟩ := List.mem_map.1 hy
      exact (hf i (by simpa using hi)).2.2.2
end Go.Proofs.Ytafogjilheniiab
