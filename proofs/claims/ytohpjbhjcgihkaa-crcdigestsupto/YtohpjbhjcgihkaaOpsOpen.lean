/- What a script of calls that came in is: its elements, where they lie; what the bound on what comes in gives. -/
import Derived.Test.YtohpjbhjcgihkaaDigsF
import Derived.Test.YtohpjbhjcgihkaaDigsT
import Derived.ProofKit
import Derived.OpenShut
import Derived.ShutString
import Derived.ChangeOld
import Derived.JoinedCond
import Derived.ChangeSame
import Derived.Deep.Slices
namespace Go.Proofs.Ytohpjbhjcgihkaa
open Go.ChangeShapes Go.WideShapes Go.ChangeAt Go.RowKit Go.Deep
theorem Try.underOps : Try.prog.underlying 34 = some (.slice 40) := by kernel_rfl
theorem Try.underOp : ∃ f0 f1 : Field, Try.prog.underlying 40 = some (.struct #[f0, f1]) ∧ f0.type = 3 ∧ f0.offset = 0 ∧ f1.type = 9 ∧ f1.offset = 1 := by
  exact ⟨_, _, Try.underlying40, rfl, rfl, rfl, rfl⟩
theorem sum_le {H : Type} (f : Nat → Int × ByteArray) (D : Nat → DataW H) : ∀ (l : List Nat), (∀ i ∈ l, (f i).2.size ≤ Rows.uptoBulk (D i)) → tot (l.map f) ≤ Rows.uptoBulkAll (l.map D)
  | [], _ => by simp [tot, Rows.uptoBulkAll]
  | i :: l, h => by
    have ih := sum_le f D l (fun j hj => h j (List.mem_cons_of_mem _ hj))
    have h0 := h i (List.mem_cons_self ..)
    simp only [tot, List.map_cons, List.sum_cons, Rows.uptoBulkAll] at ih ⊢
    omega
theorem open_ops {H : Type} {enc : TypeId × Value → H} {W : World} {a : Option Addr} {len cap : Nat} {d : DataW H} {p : List MemPlace}
    (h : DataW.Trod enc Try.prog W 0 (fun _ => true) true 34 (.slice a len cap) d p) : ∃ os : List (Int × ByteArray), os.length = len ∧ Opsl W a os ∧ tot os ≤ Rows.uptoBulk d ∧ os.length ≤ 9223372036854775807 := by
  obtain ⟨fuel, hf⟩ := h
  rcases open_slice Try.underOps hf with ⟨hcs, hx⟩ | ⟨x, l, c, m, n, D, Pl, hcs, _, hl, hm, hmm, hx, hel⟩
  · simp [Value.cells] at hcs
    obtain ⟨rfl, rfl, rfl⟩ := hcs
    exact ⟨[], rfl, Or.inl rfl, Nat.zero_le _, by simp⟩
  · simp [Value.cells] at hcs
    obtain ⟨rfl, rfl, rfl⟩ := hcs
    simp only [if_true] at hmm
    simp only [Prod.mk.injEq] at hx
    obtain ⟨hd, _⟩ := hx
    have hc2 : Try.prog.cellsOf 40 = 2 := by kernel_rfl
    have hci : Try.prog.cellsOf 3 = 1 := by kernel_rfl
    have hcs : Try.prog.cellsOf 9 = 1 := by kernel_rfl
    have hui : Try.prog.underlying 3 = some (.int .i64) := by kernel_rfl
    have each : ∀ i, i < len → ∃ o : Int × ByteArray, W.cell? ((x.add (i * 2)).add 0) = some (.int .i64 o.1) ∧ W.cell? ((x.add (i * 2)).add 1) = some (.string o.2) ∧ o.2.size ≤ Rows.uptoBulk (D i) := by
      intro i hi
      obtain ⟨cs', e1, e2⟩ := hel i (by omega)
      rw [hc2] at e1
      obtain ⟨f0, f1, hu, t0, o0, t1, o1⟩ := Try.underOp
      obtain ⟨y0, y1, n', hy, hlen, k0, k1⟩ := trod_struct2 hu e2
      rw [t0, o0, hci] at k0
      rw [t1, o1, hcs] at k1
      obtain ⟨z, q0, r0, _⟩ := DataW.trod_int hui k0
      obtain ⟨s, q1, r1, _⟩ := DataW.trod_string Try.underStr k1
      rw [hc2] at hlen
      match cs', hlen with
      | [u, v], _ =>
        simp at q0 q1
        have g := (World.cells?_some e1)
        refine ⟨(z, s), ?_, ?_, ?_⟩
        · rw [g.2.2 0 (by omega)]; simp [q0]
        · rw [g.2.2 1 (by omega)]; simp [q1]
        · have hD : D i = .agg [y0.1, y1.1] := congrArg Prod.fst hy
          rw [hD, r0, r1]
          simp [Rows.uptoBulk, Rows.uptoBulkAll]
          omega
    obtain ⟨f, hf⟩ := choose_lt each
    refine ⟨(List.range len).map f, by simp, ?_, ?_, ?_⟩
    · by_cases h0 : len = 0
      · left; subst h0; rfl
      · right
        obtain ⟨b, off, spot⟩ := x
        have h00 := (hf 0 (by omega)).1
        have hspot : spot = none := by simpa [Addr.add] using World.cell?_spot h00
        subst hspot
        have hlt := World.block_lt_of_cell? _ _ h00
        refine ⟨b, off, rfl, by simpa [Addr.add] using hlt, fun j hj => ?_⟩
        have hj' : j < len := by simpa using hj
        obtain ⟨k0, k1, _⟩ := hf j hj'
        rw [Go.WideShapes.add_plain, Go.WideShapes.add_plain] at k0 k1
        have eg : ((List.range len).map f).getD j (0, ByteArray.empty) = f j := by
          rw [List.getD_eq_getElem?_getD, List.getElem?_map, List.getElem?_range hj']
          rfl
        rw [eg]
        exact ⟨by simpa using k0, k1⟩
    · rw [hd]
      have := sum_le f D (List.range len) (fun i hi => (hf i (by simpa using hi)).2.2)
      simp only [Rows.uptoBulk]
      omega
    · simp
      unfold maxLen at hm
      omega
theorem small_ops {H : Type} {d e : DataW H} (hk : Rows.uptoSmall H [d, e] = true) : Rows.uptoBulk d ≤ 1048576 := by
  have h : Rows.uptoBulkAll [d, e] ≤ 1048576 := of_decide_eq_true hk
  simp only [Rows.uptoBulkAll] at h
  omega
end Go.Proofs.Ytohpjbhjcgihkaa
