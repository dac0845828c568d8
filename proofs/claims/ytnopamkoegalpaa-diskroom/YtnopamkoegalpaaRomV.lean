/- One disk: its calls, what they keep. -/
import Derived.Test.YtnopamkoegalpaaFac
import Derived.Deep.DeepCutAuto
import Derived.Lib.MinMaxS
namespace Go.Proofs.Ytnopamkoegalpaa
open Go.RowKit
theorem One.first {w0 : World} {H : Nat} {w : World} {d : Nat} {rm : Nat} {cl cb : Int} {V : Vw} (h : One w0 H w d rm cl cb V) {Q : Ending → World → Prop} {cl' cb' : Int} {V' : Vw} {f : FuncId} {args : Array Value} {v : Value}
    (hc : ∀ fa, Ds w d fa rm cl cb V → Calls Try.prog f args w fun e w' => e = .returned v ∧ Aft w fa d rm cl' cb' V' w') (hQ : ∀ w', One w0 H w' d rm cl' cb' V' → Oth w w' → Q (.returned v) w') : Calls Try.prog f args w Q := by
  obtain ⟨ft, h1, h2, h3, h4⟩ := h
  refine (hc ft h1).mono ?_
  rintro e w' ⟨rfl, ha⟩
  exact hQ w' (One.aft h2 h3 h4 ha) (by obtain ⟨ft', k1, k2, k3⟩ := ha; exact h1.oth k2)
theorem One.kept {w0 : World} {H : Nat} {w w' : World} {d : Nat} {rm : Nat} {cl cb : Int} {V : Vw} (h : One w0 H w d rm cl cb V) (hb : Below w.heap.size w w') : One w0 H w' d rm cl cb V := by
  obtain ⟨ft, h1, h2, h3, h4⟩ := h
  exact ⟨ft, h1.ch (Ch.of_below (S := fun _ => False) hb) (fun _ _ e => e), h2, Nat.le_trans h3 hb.size, h4.trans (hb.mono h3)⟩
theorem One.below {w0 : World} {H : Nat} {w : World} {d : Nat} {rm : Nat} {cl cb : Int} {V : Vw} (h : One w0 H w d rm cl cb V) : Below H w0 w := let ⟨_, _, _, _, k⟩ := h; k
/-- What a script's calls keep: how many files, and their names. -/
def Vn (V : Vw) : Prop := V.length ≤ 65536 ∧ ∀ x ∈ V, 1 ≤ x.1.size ∧ x.1.size ≤ 255
theorem vset_names {nm : ByteArray} {x : List UInt8 × Nat} {V : Vw} {y : ByteArray × List UInt8 × Nat} (h : y ∈ vset nm x V) : ∃ z ∈ V, z.1 = y.1 := by
  unfold vset at h
  obtain ⟨z, hz, rfl⟩ := List.mem_map.1 h
  refine ⟨z, hz, ?_⟩
  split
  · rename_i e; exact e
  · rfl
theorem vins_mem {nm : ByteArray} : ∀ {V : Vw} {y : ByteArray × List UInt8 × Nat}, y ∈ vins nm V → y = (nm, [], 0) ∨ y ∈ V
  | [], y, h => by simp [vins] at h; exact Or.inl h
  | z :: r, y, h => by
    unfold vins at h
    split at h
    · rcases List.mem_cons.1 h with h | h
      · exact Or.inl h
      · exact Or.inr h
    · rcases List.mem_cons.1 h with h | h
      · exact Or.inr (by simp [h])
      · rcases vins_mem h with h | h
        · exact Or.inl h
        · exact Or.inr (by simp [h])
theorem Vn.set {nm : ByteArray} {x : List UInt8 × Nat} {V : Vw} (h : Vn V) : Vn (vset nm x V) := by
  refine ⟨by rw [vset_len]; exact h.1, fun y hy => ?_⟩
  obtain ⟨z, hz, e⟩ := vset_names hy
  rw [← e]
  exact h.2 z hz
theorem Vn.dn (o : Op5) (rm : Nat) {V : Vw} (h : Vn V) : Vn (dnV o rm V) := by
  refine ⟨dnV_len o rm V h.1, ?_⟩
  unfold dnV
  repeat' split
  · unfold crV
    split
    · rename_i hE
      have hg : 1 ≤ o.nm.size ∧ o.nm.size ≤ 255 := Classical.byContradiction fun hg => by unfold crE at hE; rw [if_neg hg] at hE; cases hE
      intro y hy
      rcases vins_mem hy with rfl | hy
      · exact hg
      · exact h.2 y hy
    · exact h.2
  · unfold apV; split
    · exact h.2
    · exact h.set.2
  · unfold cuV; split
    · exact h.2
    · split
      · exact h.set.2
      · exact h.2
  · unfold synV; split
    · exact h.2
    · exact h.set.2
  · unfold vdel; intro y hy; exact h.2 y (List.mem_filter.1 hy).1
  · exact h.2
theorem Vn.ov (nm : ByteArray) (a : Int) (s : ByteArray) {V : Vw} (h : Vn V) : Vn (ovV nm a s V) := by
  unfold ovV; split
  · exact h
  · split
    · exact h.set
    · exact h
/-- How much is used behind a file's turn. -/
theorem vt_set {nm : ByteArray} {V : Vw} {x y : List UInt8 × Nat} (hp : V.Pairwise (fun a b => bytesBefore a.1.data.toList b.1.data.toList = true)) (hl : vl nm V = some x) : vt (vset nm y V) + x.1.length = vt V + y.1.length := by
  unfold vl at hl
  rw [Option.map_eq_some_iff] at hl
  obtain ⟨z, hz, rfl⟩ := hl
  obtain ⟨h1, l, r, rfl, h3⟩ := List.find?_eq_some_iff_append.1 hz
  have h1' : z.1 = nm := by simpa using h1
  have hl : ∀ x ∈ l, x.1 ≠ nm := fun x hx => by simpa using h3 x hx
  have hr : ∀ x ∈ r, x.1 ≠ nm := fun x hx e => by
    have := (List.pairwise_cons.1 (List.pairwise_append.1 hp).2.1).1 x hx
    rw [e, h1', bb_irr] at this
    cases this
  have e : vset nm y (l ++ z :: r) = l ++ (nm, y) :: r := by
    unfold vset
    rw [List.map_append, List.map_cons, if_pos h1']
    congr 1
    · conv => rhs; rw [← List.map_id l]
      exact List.map_congr_left fun x hx => by rw [if_neg (hl x hx)]; rfl
    · congr 1
      conv => rhs; rw [← List.map_id r]
      exact List.map_congr_left fun x hx => by rw [if_neg (hr x hx)]; rfl
  rw [e]
  unfold vt
  simp
  omega
theorem Ds.rise {w : World} {d : Nat} {ft : Nat → Prop} {rm : Nat} {cl cb : Int} {V : Vw} (h : Ds w d ft rm cl cb V) : V.Pairwise (fun a b => bytesBefore a.1.data.toList b.1.data.toList = true) := by
  obtain ⟨m, fs, h1, rfl, _⟩ := h
  unfold vw
  exact List.pairwise_map.2 h1.nms
theorem Ds.lens {w : World} {d : Nat} {ft : Nat → Prop} {rm : Nat} {cl cb : Int} {V : Vw} (h : Ds w d ft rm cl cb V) : (∀ x ∈ V, x.1.size ≤ maxLen ∧ x.2.1.length ≤ 1073741824 ∧ x.2.2 ≤ x.2.1.length) ∧ vt V ≤ rm ∧ rm ≤ 1099511627776 := by
  obtain ⟨m, fs, h1, rfl, _⟩ := h
  refine ⟨fun x hx => ?_, by rw [vt_vw]; exact h1.rom⟩
  unfold vw at hx
  obtain ⟨f, hf, rfl⟩ := List.mem_map.1 hx
  exact h1.lng f hf
theorem vl_mem {nm : ByteArray} {V : Vw} {x : List UInt8 × Nat} (h : vl nm V = some x) : (nm, x) ∈ V := by
  unfold vl at h
  rw [Option.map_eq_some_iff] at h
  obtain ⟨z, hz, rfl⟩ := h
  have h1 := List.find?_some hz
  have h2 : z.1 = nm := by simpa using h1
  rw [← h2]
  exact List.mem_of_find?_eq_some hz
theorem vl_at {V : Vw} (hp : V.Pairwise (fun a b => bytesBefore a.1.data.toList b.1.data.toList = true)) {x : ByteArray × List UInt8 × Nat} (hx : x ∈ V) : vl x.1 V = some x.2 := by
  unfold vl
  obtain ⟨l, r, rfl⟩ := List.append_of_mem hx
  have : (l ++ x :: r).find? (fun y => decide (y.1 = x.1)) = some x := by
    refine List.find?_eq_some_iff_append.2 ⟨by simp, l, r, rfl, fun y hy => ?_⟩
    have h1 := (List.pairwise_append.1 hp).2.2 y hy x (by simp)
    have : y.1 ≠ x.1 := fun e => by rw [e, bb_irr] at h1; cases h1
    simpa using this
  rw [this]
  rfl
theorem vt_take {V : Vw} {m : Nat} (h : m < V.length) : vt (V.take (m + 1)) = vt (V.take m) + (V[m]).2.1.length := by
  unfold vt
  rw [List.take_succ_eq_append_getElem h, List.map_append, List.sum_append]
  simp
theorem vt_le (V : Vw) (m : Nat) : vt (V.take m) ≤ vt V := by
  unfold vt
  conv => rhs; rw [← List.take_append_drop m V]
  rw [List.map_append, List.sum_append]
  omega
theorem w64_small {M : Nat} (h : M ≤ 65536) : wrap64 (M : Int) = M ∧ IntKind.i64.wrap (M : Int) = M ∧ (0 : Int) < (M : Int) + 1 := by
  refine ⟨by unfold wrap64; omega, ?_, by omega⟩
  simp only [IntKind.wrap, IntKind.bits, IntKind.signed, Bool.true_and]; split <;> rename_i h <;> simp at h <;> omega
theorem w64_wrap (z : Int) : wrap64 z = IntKind.i64.wrap z := by
  unfold wrap64
  simp only [IntKind.wrap, IntKind.bits, IntKind.signed, Bool.true_and]; split <;> rename_i h <;> simp at h <;> omega
theorem less_nm {a b : ByteArray} (h : bytesBefore a.data.toList b.data.toList = true) : Op.bytesLess a.toList b.toList = true := by
  rw [Proofs.bytesLess_eq, Lib.toList_data, Lib.toList_data]
  exact decide_eq_true (bb_lt h)
end Go.Proofs.Ytnopamkoegalpaa
