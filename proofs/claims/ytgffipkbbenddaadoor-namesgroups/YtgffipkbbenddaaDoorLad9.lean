/- What the rows' list of package variables gives; a world in which they hold what the text lays. -/
import Derived.Test.YtgffipkbbenddaaDoorAwk
import Derived.Deep.DeepHandedRow
import Derived.Deep.DeepWitnessRowRef
import Derived.Lib.LaidTab
import Derived.ProofKit
import Derived.OpenShut
namespace Go.Proofs.YtgffipkbbenddaaDoor
open Go.ChangeShapes Go.WideShapes Go.ChangeAt Go.RowKit Go.Lib
/-- An array of texts that reads as these holds them, cell for cell. -/
theorem cells_of_strs {H : Type} {enc : TypeId × Value → H} {P : Program} {w : World} {base : Nat} {sp : Nat → Bool} {held : Bool} {fuel : Nat} {t e : TypeId} {n : Nat} {cs : List Value} {zs : List (List UInt8)} {p : List MemPlace}
    (ht : P.underlying t = some (.array n e)) (he : P.underlying e = some .string) (hce : P.cellsOf e = 1) (hct : P.cellsOf t = n)
    (h : DataW.trod enc P w base sp held fuel t cs = some (.agg (zs.map fun z => .lit (.string z)), p)) : cs = zs.map fun z => Value.string (ba z) := by
  cases fuel with
  | zero => simp [DataW.trod] at h
  | succ fuel =>
    simp only [DataW.trod, ht, hce, hct, Nat.mul_one] at h
    split at h
    · rename_i hl
      obtain ⟨xs, hm, hx⟩ := Option.map_eq_some_iff.1 h
      have hxs : xs.map (·.1) = zs.map fun z => (DataW.lit (.string z) : DataW H) := by
        have := congrArg Prod.fst hx
        simpa using this
      have hxl : xs.length = n := by simpa using mapM_length hm
      have hzl : zs.length = n := by
        have := congrArg List.length hxs
        simp at this
        omega
      apply List.ext_getElem?
      intro i
      by_cases hi : i < n
      · obtain ⟨b, hb, hf⟩ := mapM_at hm i i (by simp [hi])
        obtain ⟨z, hc, rfl, _⟩ := DataW.trod_string he hf
        have h1 : cs[i]? = some (.string z) := by
          have := congrArg (·[0]?) hc
          simpa [List.getElem?_take, List.getElem?_drop] using this
        have h2 : (xs.map (·.1))[i]? = some (DataW.lit (.string z.data.toList) : DataW H) := by simp [hb]
        rw [hxs] at h2
        simp only [List.getElem?_map, Option.map_eq_some_iff, DataW.lit.injEq, Lit.string.injEq] at h2
        obtain ⟨z', hz', e'⟩ := h2
        rw [h1, List.getElem?_map, hz', Option.map_some, e', ba_of]
      · rw [List.getElem?_eq_none (by omega), List.getElem?_eq_none (by simp; omega)]
    · cases h
theorem Tryd.gErrR : Tryd.prog.globalNamed "strconv.ErrRange" = some 4 := by kernel_rfl
theorem Tryd.gErrS : Tryd.prog.globalNamed "strconv.ErrSyntax" = some 3 := by kernel_rfl
theorem Tryd.gEnd : Tryd.prog.globalNamed "gantry/names.endings" = some 0 := by kernel_rfl
theorem Tryd.gpowT : (Tryd.prog.globals[1]?).map (·.type) = some 109 := by kernel_rfl
theorem Tryd.gErrRT : (Tryd.prog.globals[4]?).map (·.type) = some 75 := by kernel_rfl
theorem Tryd.gErrST : (Tryd.prog.globals[3]?).map (·.type) = some 75 := by kernel_rfl
theorem Tryd.gEndT : (Tryd.prog.globals[0]?).map (·.type) = some 54 := by kernel_rfl
theorem Tryd.c20 : Tryd.prog.cellsOf 109 = 20 := by kernel_rfl
theorem Tryd.cu64 : Tryd.prog.cellsOf 80 = 1 := by kernel_rfl
theorem Tryd.c3s : Tryd.prog.cellsOf 54 = 3 := by kernel_rfl
theorem Tryd.cs : Tryd.prog.cellsOf 9 = 1 := by kernel_rfl
theorem pow_data {H : Type} : (Rows.laid_internal_strconv_uint64pow10 : DataW H) = tabData .u64 pow10Tab := rfl
theorem end_data {H : Type} : (Rows.laid_gantry_names_endings : DataW H) = .agg ([en 0, en 1, en 2].map fun z => .lit (.string z)) := rfl
theorem gd_of {W : World} (h : laidMetH Tryd.prog Rows.namesNamesRow.laid W) : Gd W := by
  have h' : laidMet Tryd.prog Rows.namesNamesRow.laid W := h
  obtain ⟨ps, hv, _, _⟩ := h'
  obtain ⟨_, _, _, _, _, _, _, _, _, _, hv, _⟩ := hv
  obtain ⟨_, _, _, _, _, _, _, _, _, _, hv, _⟩ := hv
  obtain ⟨g2, t2, cs2, f2, p2, q2, a2, b2, c2, d2, hv, _⟩ := hv
  obtain ⟨g3, t3, cs3, f3, p3, q3, a3, b3, c3, d3, hv, _⟩ := hv
  obtain ⟨g4, t4, cs4, f4, p4, q4, a4, b4, c4, d4, hv, _⟩ := hv
  obtain ⟨g5, t5, cs5, f5, p5, q5, a5, b5, c5, d5, hv, _⟩ := hv
  obtain rfl := Option.some.inj (Tryd.gpow.symm.trans a2)
  obtain rfl := Option.some.inj (Tryd.gpowT.symm.trans b2)
  obtain rfl := Option.some.inj (Tryd.gErrR.symm.trans a3)
  obtain rfl := Option.some.inj (Tryd.gErrRT.symm.trans b3)
  obtain rfl := Option.some.inj (Tryd.gErrS.symm.trans a4)
  obtain rfl := Option.some.inj (Tryd.gErrST.symm.trans b4)
  obtain rfl := Option.some.inj (Tryd.gEnd.symm.trans a5)
  obtain rfl := Option.some.inj (Tryd.gEndT.symm.trans b5)
  have htab : TabIs Tryd.prog W "internal/strconv.uint64pow10" .u64 pow10Tab := by
    unfold TabIs
    rw [c2, ← cells_of_tab Tryd.underlying109 Tryd.underlying80 Tryd.cu64 Tryd.c20 d2]
  obtain ⟨_, u3, v3, e3, _, _⟩ := iface_of_trod Tryd.underlying75 d3
  obtain ⟨_, u4, v4, e4, _, _⟩ := iface_of_trod Tryd.underlying75 d4
  have e5 := cells_of_strs (zs := [en 0, en 1, en 2]) Tryd.underlying54 Tryd.underlying9 Tryd.cs Tryd.c3s d5
  have r3 := World.var?_cell Tryd.gErrR c3 0
  have r4 := World.var?_cell Tryd.gErrS c4 0
  have hcs3 : cs3 = #[.iface u3 v3] := by apply Array.ext'; simpa using e3
  have hcs4 : cs4 = #[.iface u4 v4] := by apply Array.ext'; simpa using e4
  have hcs5 : cs5 = #[.string (ba (en 0)), .string (ba (en 1)), .string (ba (en 2))] := by apply Array.ext'; simpa using e5
  have r2 := htab.cell Tryd.gpow 0 (by decide)
  refine ⟨?_, htab, World.block_lt_of_cell? _ _ r2, ⟨u4, v4, by rw [r4, hcs4]; rfl⟩, ⟨u3, v3, by rw [r3, hcs3]; rfl⟩⟩
  unfold World.var? at c5
  rw [Tryd.gEnd] at c5
  simp only [Option.bind_some] at c5
  split at c5
  · rename_i cs t fz hh
    simp only [Option.some.injEq] at c5
    subst c5
    exact ⟨t, fz, by rw [hh, hcs5]⟩
  · cases c5
end Go.Proofs.YtgffipkbbenddaaDoor
