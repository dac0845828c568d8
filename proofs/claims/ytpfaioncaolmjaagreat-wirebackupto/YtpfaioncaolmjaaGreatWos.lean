/- What a script of calls that came in is: its elements, where they lie; what the bound on what comes in gives. -/
import Derived.Test.YtpfaioncaolmjaaGreatWow
import Derived.ProofKit
import Derived.OpenShut
import Derived.ShutString
import Derived.ChangeOld
import Derived.JoinedCond
import Derived.ChangeSame
import Derived.Deep.Slices
import Derived.Deep.Strs
namespace Go.Proofs.YtpfaioncaolmjaaGreat
open Go.ChangeShapes Go.WideShapes Go.ChangeAt Go.RowKit Go.Deep
theorem sum_leo {H : Type} (f : Nat → Nat × Nat × ByteArray) (D : Nat → DataW H) : ∀ (l : List Nat), (∀ i ∈ l, (f i).2.2.size + 1 ≤ Rows.uptoBulk (D i)) → l.length ≤ Rows.uptoBulkAll (l.map D) ∧ ∀ i ∈ l, (f i).2.2.size ≤ Rows.uptoBulkAll (l.map D)
  | [], _ => by simp [Rows.uptoBulkAll]
  | i :: l, h => by
    have ih := sum_leo f D l (fun j hj => h j (List.mem_cons_of_mem _ hj))
    have h0 := h i (List.mem_cons_self ..)
    simp only [List.map_cons, Rows.uptoBulkAll, List.length_cons]
    refine ⟨by have := ih.1; omega, fun j hj => ?_⟩
    rcases List.mem_cons.1 hj with rfl | hj
    · omega
    · have := ih.2 j hj
      omega
theorem open_opw {H : Type} {enc : TypeId × Value → H} {W : World} {a : Option Addr} {len cap : Nat} {d : DataW H} {p : List MemPlace} {ST ET T0 T1 TS : TypeId} {f0 f1 f2 : Field}
    (hST : Tryz.prog.underlying ST = some (.slice ET)) (hET : Tryz.prog.underlying ET = some (.struct #[f0, f1, f2])) (hT0 : Tryz.prog.underlying T0 = some (.int .u8)) (hT1 : Tryz.prog.underlying T1 = some (.int .u64)) (hTS : Tryz.prog.underlying TS = some .string)
    (t0 : f0.type = T0) (o0 : f0.offset = 0) (t1 : f1.type = T1) (o1 : f1.offset = 1) (t2 : f2.type = TS) (o2 : f2.offset = 2)
    (hc3 : Tryz.prog.cellsOf ET = 3) (hc0 : Tryz.prog.cellsOf T0 = 1) (hc1 : Tryz.prog.cellsOf T1 = 1) (hcs : Tryz.prog.cellsOf TS = 1)
    (h : DataW.Trod enc Tryz.prog W 0 (fun _ => true) true ST (.slice a len cap) d p) : ∃ os : List (Nat × Nat × ByteArray), os.length = len ∧ Opq W a os ∧ len ≤ cap ∧ os.length ≤ Rows.uptoBulk d ∧ (∀ o ∈ os, o.1 < 256 ∧ o.2.1 < 18446744073709551616 ∧ o.2.2.size ≤ Rows.uptoBulk d) := by
  obtain ⟨fuel, hf⟩ := h
  rcases open_slice hST hf with ⟨hcs', hx⟩ | ⟨x, l, c, m, n, D, Pl, hcs', _, hl, hm, hmm, hx, hel⟩
  · simp [Value.cells] at hcs'
    obtain ⟨rfl, rfl, rfl⟩ := hcs'
    exact ⟨[], rfl, Or.inl rfl, Nat.le_refl _, Nat.zero_le _, by simp⟩
  · simp [Value.cells] at hcs'
    obtain ⟨rfl, rfl, rfl⟩ := hcs'
    simp only [if_true] at hmm
    simp only [Prod.mk.injEq] at hx
    obtain ⟨hd, _⟩ := hx
    have each : ∀ i, i < len → ∃ o : Nat × Nat × ByteArray, W.cell? ((x.add (i * 3)).add 0) = some (.int .u8 (o.1 : Nat)) ∧ W.cell? ((x.add (i * 3)).add 1) = some (.int .u64 (o.2.1 : Nat)) ∧ W.cell? ((x.add (i * 3)).add 2) = some (.string o.2.2) ∧ (o.1 < 256 ∧ o.2.1 < 18446744073709551616) ∧ o.2.2.size + 1 ≤ Rows.uptoBulk (D i) := by
      intro i hi
      obtain ⟨cs', e1, e2⟩ := hel i (by omega)
      rw [hc3] at e1
      obtain ⟨y0, y1, y2, n', hy, hlen, k0, k1, k2⟩ := trod_struct3 hET e2
      rw [t0, o0, hc0] at k0
      rw [t1, o1, hc1] at k1
      rw [t2, o2, hcs] at k2
      obtain ⟨z, q0, r0, wf0⟩ := DataW.trod_int hT0 k0
      obtain ⟨z1, q1, r1, wf1⟩ := DataW.trod_int hT1 k1
      obtain ⟨s, q2, r2, _⟩ := DataW.trod_string hTS k2
      have hb0 := bounds_u8 wf0
      have hb1 := bounds_u64 wf1
      obtain ⟨Z, rfl⟩ := Int.eq_ofNat_of_zero_le hb0.1
      obtain ⟨Z1, rfl⟩ := Int.eq_ofNat_of_zero_le hb1.1
      rw [hc3] at hlen
      match cs', hlen with
      | [u, v, v2], _ =>
        simp at q0 q1 q2
        have g := (World.cells?_some e1)
        refine ⟨(Z, Z1, s), ?_, ?_, ?_, ⟨by show Z < 256; have := hb0.2; omega, by show Z1 < 18446744073709551616; have := hb1.2; omega⟩, ?_⟩
        · rw [g.2.2 0 (by omega)]; simp [q0]
        · rw [g.2.2 1 (by omega)]; simp [q1]
        · rw [g.2.2 2 (by omega)]; simp [q2]
        · have hD : D i = .agg [y0.1, y1.1, y2.1] := congrArg Prod.fst hy
          rw [hD, r0, r1, r2]
          simp [Rows.uptoBulk, Rows.uptoBulkAll]
          omega
    obtain ⟨f, hf⟩ := choose_lt each
    have hsum := sum_leo f D (List.range len) (fun i hi => (hf i (by simpa using hi)).2.2.2.2)
    rw [List.length_range] at hsum
    refine ⟨(List.range len).map f, by simp, ?_, by omega, ?_, ?_⟩
    · by_cases h0 : len = 0
      · left; subst h0; rfl
      · right
        obtain ⟨b, off, spot⟩ := x
        have h00 := (hf 0 (by omega)).1
        have hspot : spot = none := by simpa [Addr.add] using World.cell?_spot h00
        subst hspot
        have hlt := World.block_lt_of_cell? _ _ h00
        refine ⟨b, off, rfl, by simpa [Addr.add] using hlt, fun j hj => ?_⟩
        have hj' : j < len := by simpa using hj
        obtain ⟨k0, k1, k2, _⟩ := hf j hj'
        rw [Go.WideShapes.add_plain, Go.WideShapes.add_plain] at k0 k1 k2
        have eg : ((List.range len).map f).getD j (0, 0, ByteArray.empty) = f j := by
          rw [List.getD_eq_getElem?_getD, List.getElem?_map, List.getElem?_range hj']
          rfl
        rw [eg]
        exact ⟨by simpa using k0, k1, k2⟩
    · rw [hd]
      simp only [Rows.uptoBulk, List.length_map, List.length_range]
      have := hsum.1
      omega
    · intro o ho
      simp only [List.mem_map, List.mem_range] at ho
      obtain ⟨i, hi, rfl⟩ := ho
      refine ⟨(hf i hi).2.2.2.1.1, (hf i hi).2.2.2.1.2, ?_⟩
      rw [hd]
      have := hsum.2 i (by simpa using hi)
      simp only [Rows.uptoBulk]
      omega
end Go.Proofs.YtpfaioncaolmjaaGreat
