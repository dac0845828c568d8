/- What a slice of a text and two numbers each that came in is: its elements, where they lie; what the bound on what comes in gives. -/
import Derived.Test.YtdkfenmhfkggdaaUnps
import Derived.ProofKit
import Derived.OpenShut
import Derived.ShutString
import Derived.ChangeOld
import Derived.JoinedCond
import Derived.ChangeSame
import Derived.Deep.Slices
import Derived.Deep.Strs
namespace Go.Proofs.Ytdkfenmhfkggdaa
open Go.ChangeShapes Go.WideShapes Go.ChangeAt Go.RowKit Go.Deep
/-- All bytes of the texts, and one for each. -/
def trb (rs : List (ByteArray × Int × Int)) : Nat := (rs.map fun r => r.1.size + 1).sum
theorem trb_mem {rs : List (ByteArray × Int × Int)} {r : ByteArray × Int × Int} (h : r ∈ rs) : r.1.size + 1 ≤ trb rs := by
  induction rs with
  | nil => simp at h
  | cons x l ih =>
    rcases List.mem_cons.1 h with e | e
    · subst e; simp [trb]
    · have := ih e
      simp only [trb, List.map_cons, List.sum_cons] at *
      omega
theorem trb_len (rs : List (ByteArray × Int × Int)) : rs.length ≤ trb rs := by
  induction rs with
  | nil => simp [trb]
  | cons x l ih => simp only [trb, List.map_cons, List.sum_cons, List.length_cons] at *; omega
theorem sum_le3 {H : Type} (f : Nat → ByteArray × Int × Int) (D : Nat → DataW H) : ∀ (l : List Nat), (∀ i ∈ l, (f i).1.size + 1 ≤ Rows.uptoBulk (D i)) → trb (l.map f) ≤ Rows.uptoBulkAll (l.map D)
  | [], _ => by simp [trb, Rows.uptoBulkAll]
  | i :: l, h => by
    have ih := sum_le3 f D l (fun j hj => h j (List.mem_cons_of_mem _ hj))
    have h0 := h i (List.mem_cons_self ..)
    simp only [trb, List.map_cons, List.sum_cons, Rows.uptoBulkAll] at ih ⊢
    omega
theorem open_trip {H : Type} {enc : TypeId × Value → H} {W : World} {a : Option Addr} {len cap : Nat} {d : DataW H} {p : List MemPlace} {ST ET TS TI : TypeId} {f0 f1 f2 : Field}
    (hST : Try.prog.underlying ST = some (.slice ET)) (hET : Try.prog.underlying ET = some (.struct #[f0, f1, f2])) (hTS : Try.prog.underlying TS = some .string) (hTI : Try.prog.underlying TI = some (.int .i64))
    (t0 : f0.type = TS) (o0 : f0.offset = 0) (t1 : f1.type = TI) (o1 : f1.offset = 1) (t2 : f2.type = TI) (o2 : f2.offset = 2)
    (hc3 : Try.prog.cellsOf ET = 3) (hci : Try.prog.cellsOf TI = 1) (hcs : Try.prog.cellsOf TS = 1)
    (h : DataW.Trod enc Try.prog W 0 (fun _ => true) true ST (.slice a len cap) d p) : ∃ rs : List (ByteArray × Int × Int), rs.length = len ∧ Trip W a rs ∧ trb rs ≤ Rows.uptoBulk d ∧ (∀ r ∈ rs, (Lit.int .i64 r.2.1).wf = true ∧ (Lit.int .i64 r.2.2).wf = true) ∧ rs.length ≤ 9223372036854775807 := by
  obtain ⟨fuel, hf⟩ := h
  rcases open_slice hST hf with ⟨hcs', hx⟩ | ⟨x, l, c, m, n, D, Pl, hcs', _, hl, hm, hmm, hx, hel⟩
  · simp [Value.cells] at hcs'
    obtain ⟨rfl, rfl, rfl⟩ := hcs'
    exact ⟨[], rfl, Or.inl rfl, Nat.zero_le _, by simp, by simp⟩
  · simp [Value.cells] at hcs'
    obtain ⟨rfl, rfl, rfl⟩ := hcs'
    simp only [if_true] at hmm
    simp only [Prod.mk.injEq] at hx
    obtain ⟨hd, _⟩ := hx
    have each : ∀ i, i < len → ∃ o : ByteArray × Int × Int, W.cell? ((x.add (i * 3)).add 0) = some (.string o.1) ∧ W.cell? ((x.add (i * 3)).add 1) = some (.int .i64 o.2.1) ∧ W.cell? ((x.add (i * 3)).add 2) = some (.int .i64 o.2.2) ∧ o.1.size + 1 ≤ Rows.uptoBulk (D i) ∧ (Lit.int .i64 o.2.1).wf = true ∧ (Lit.int .i64 o.2.2).wf = true := by
      intro i hi
      obtain ⟨cs', e1, e2⟩ := hel i (by omega)
      rw [hc3] at e1
      obtain ⟨y0, y1, y2, n', hy, hlen, k0, k1, k2⟩ := trod_struct3 hET e2
      rw [t0, o0, hcs] at k0
      rw [t1, o1, hci] at k1
      rw [t2, o2, hci] at k2
      obtain ⟨s, q0, r0, _⟩ := DataW.trod_string hTS k0
      obtain ⟨z, q1, r1, wf1⟩ := DataW.trod_int hTI k1
      obtain ⟨z2, q2, r2, wf2⟩ := DataW.trod_int hTI k2
      rw [hc3] at hlen
      match cs', hlen with
      | [u, v, v2], _ =>
        simp at q0 q1 q2
        have g := (World.cells?_some e1)
        refine ⟨(s, z, z2), ?_, ?_, ?_, ?_, wf1, wf2⟩
        · rw [g.2.2 0 (by omega)]; simp [q0]
        · rw [g.2.2 1 (by omega)]; simp [q1]
        · rw [g.2.2 2 (by omega)]; simp [q2]
        · have hD : D i = .agg [y0.1, y1.1, y2.1] := congrArg Prod.fst hy
          rw [hD, r0, r1, r2]
          simp [Rows.uptoBulk, Rows.uptoBulkAll]
    obtain ⟨f, hf⟩ := choose_lt each
    refine ⟨(List.range len).map f, by simp, ?_, ?_, ?_, ?_⟩
    · by_cases h0 : len = 0
      · left; subst h0; rfl
      · right
        obtain ⟨b, off, spot⟩ := x
        have h00 := (hf 0 (by omega)).1
        have hspot : spot = none := by simpa [Addr.add] using World.cell?_spot h00
        subst hspot
        have hlt := World.block_lt_of_cell? _ _ h00
        refine ⟨b, off, rfl, by simpa [Addr.add] using hlt, fun j hj => ?_⟩
        have hj' : j < len := by simpa using hj
        obtain ⟨k0, k1, k2, _⟩ := hf j hj'
        rw [Go.WideShapes.add_plain, Go.WideShapes.add_plain] at k0 k1 k2
        have eg : ((List.range len).map f).getD j (ByteArray.empty, 0, 0) = f j := by
          rw [List.getD_eq_getElem?_getD, List.getElem?_map, List.getElem?_range hj']
          rfl
        rw [eg]
        exact ⟨by simpa using k0, k1, k2⟩
    · rw [hd]
      have := sum_le3 f D (List.range len) (fun i hi => (hf i (by simpa using hi)).2.2.2.1)
      simp only [Rows.uptoBulk]
      omega
    · intro r hr
      simp only [List.mem_map, List.mem_range] at hr
      obtain ⟨i, hi, rfl⟩ := hr
      exact (hf i hi).2.2.2.2
    · simp
      unfold maxLen at hm
      omega
end Go.Proofs.Ytdkfenmhfkggdaa
