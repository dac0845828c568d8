/- What the bound on what comes in gives: lengths. -/
import Derived.Test.YtkaoipckjilnbaaAllW
import Derived.ProofKit
import Derived.OpenShut
import Derived.ShutString
import Derived.ChangeOld
import Derived.JoinedCond
namespace Go.Proofs.Ytkaoipckjilnbaa
open Go.ChangeShapes Go.WideShapes Go.ChangeAt Go.RowKit
open Go.ChangeMaps (open_string shut_string)
theorem bulk_one {H : Type} (d : DataW H) : 1 ≤ Rows.uptoBulk d := by
  cases d with
  | lit l => cases l <;> simp [Rows.uptoBulk]
  | _ => simp [Rows.uptoBulk]
theorem bulk_len {H : Type} (l : List (DataW H)) : l.length ≤ Rows.uptoBulkAll l := by
  induction l with
  | nil => simp [Rows.uptoBulkAll]
  | cons x r ih => have := bulk_one x; simp only [Rows.uptoBulkAll, List.length_cons]; omega
theorem forms_ten (zs : List Int) : (forms zs).length ≤ 10 * zs.length := by
  induction zs with
  | nil => simp [forms]
  | cons z zs ih =>
    have e : forms (z :: zs) = M.form z.toNat ++ forms zs := by simp [forms]
    have := M.form_le z.toNat
    rw [e, List.length_append, List.length_cons]; omega
theorem rall_len : ∀ (f : Nat) (l : List Nat), (∀ b ∈ l, b < 256) → (rall f l).1.length ≤ l.length
  | 0, _, _ => by simp [rall]
  | f + 1, l, hb => by
    simp only [rall]
    split
    · simp
    · split
      · rename_i h1 h2
        obtain ⟨t, e1, e2, e3⟩ := M.rd_fwd hb h2
        have hp := M.form_pos (M.rd 0 0 l).1
        have hl := congrArg List.length e1
        rw [List.length_append] at hl
        have ih := rall_len f (l.drop (M.rd 0 0 l).2.1) (fun b h => hb b (List.mem_of_mem_drop h))
        rw [List.length_drop] at ih
        split
        · simp only [List.length_cons]; omega
        · simp
      · simp
/-- What a slice of numbers that came in is: its elements, where they lie, each fitting its kind; its datum's length. -/
theorem open_vals {H : Type} {enc : TypeId × Value → H} {P : Program} {W : World} {t e : TypeId} {k : IntKind} {a : Option Addr} {len cap : Nat} {d : DataW H} {p : List MemPlace} (ht : P.underlying t = some (.slice e)) (he : P.underlying e = some (.int k)) (hc : P.cellsOf e = 1)
    (h : DataW.Trod enc P W 0 (fun _ => true) true t (.slice a len cap) d p) : ∃ zs : List Int, zs.length = len ∧ (∀ z ∈ zs, (Lit.int k z).wf = true) ∧ Vals k W a zs ∧ len ≤ Rows.uptoBulk d ∧ zs.length ≤ 9223372036854775807 := by
  obtain ⟨fuel, hf⟩ := h
  rcases open_ints ht he hc hf with ⟨hcs, hx⟩ | ⟨x, l, c, zs, hcs, _, hl, hm, hz, hx, hcell, hwz⟩
  · simp [Value.cells] at hcs
    obtain ⟨rfl, rfl, rfl⟩ := hcs
    exact ⟨[], rfl, by simp, Or.inl rfl, by omega, by simp⟩
  · simp [Value.cells] at hcs
    obtain ⟨rfl, rfl, rfl⟩ := hcs
    simp only [if_true] at hz
    simp only [Prod.mk.injEq] at hx
    obtain ⟨hd, _⟩ := hx
    have hlen : (zs.take len).length = len := by rw [List.length_take]; omega
    refine ⟨zs.take len, hlen, fun z hz => hwz z (List.mem_of_mem_take hz), ?_, ?_, by rw [hlen]; unfold maxLen at hm; omega⟩
    · by_cases h0 : len = 0
      · left; subst h0; rfl
      · right
        obtain ⟨b, off, spot⟩ := x
        have h00 := hcell 0 (by omega)
        have hspot : spot = none := by simpa [Addr.add] using World.cell?_spot h00
        subst hspot
        have hlt := World.block_lt_of_cell? _ _ h00
        refine ⟨b, off, rfl, by simpa [Addr.add] using hlt, fun j hj => ?_⟩
        have e2 : (zs.take len).getD j 0 = zs.getD j 0 := by
          simp only [List.getD_eq_getElem?_getD]
          rw [List.getElem?_take_of_lt (by omega)]
        rw [e2, ← Go.WideShapes.add_plain]
        exact hcell j (by omega)
    · rw [hd]
      have h1 := bulk_len (lits (H := H) k (zs.take len))
      simp only [Rows.uptoBulk]
      simp only [lits, List.length_map] at h1
      rw [hlen] at h1
      simp only [lits]
      omega
theorem small_two {H : Type} {d1 d2 : DataW H} (hk : Rows.uptoSmall H [d1, d2] = true) : Rows.uptoBulk d1 + Rows.uptoBulk d2 ≤ 1048576 := by
  have h : Rows.uptoBulkAll [d1, d2] ≤ 1048576 := of_decide_eq_true hk
  simp only [Rows.uptoBulkAll] at h
  omega
end Go.Proofs.Ytkaoipckjilnbaa
