/- A row of bytes that a conversion made. -/
import Derived.Test.YthjbhfhdepepmaaWth
import Derived.Lib.ConvBytes
import Derived.Lib.FrozenHead
namespace Go.Proofs.Ythjbhfhdepepmaa
open Go.RowKit
def Cb (w : World) (g cap : Nat) (b : List UInt8) : Prop := ∃ cur fz, w.heap[g]? = some (.cells cur 5 fz) ∧ cur.size ≤ fz.1 ∧ b.length ≤ cur.size ∧ cur.size = cap ∧ cur.toList.take b.length = Lib.byteCells b
theorem Cb.conv (w : World) (s : ByteArray) : Cb (Lib.bytesWorld w 5 s) w.heap.size (Lib.bytesCells w 5 s).size s.data.toList := by
  have hl : s.data.toList.length = s.size := Array.length_toList
  refine ⟨_, _, Lib.bytesWorld_at_new w 5 s, Nat.le_refl _, ?_, rfl, ?_⟩
  · simp [Lib.bytesCells]
  · unfold Lib.bytesCells Lib.byteCells
    rw [Array.toList_append, List.take_append_of_le_length (by simp)]
    simp only [Array.toList_map]
    exact List.take_of_length_le (by simp)
theorem Cb.cell {w : World} {g cap : Nat} {b : List UInt8} (h : Cb w g cap b) (j : Nat) (hj : j < b.length) : w.cell? ⟨g, j, none⟩ = some (.int .u8 (b.getD j 0).toNat) := by
  obtain ⟨cur, fz, h1, _, h3, _, h4⟩ := h
  rw [cell_of h1]
  have : (cur.toList.take b.length)[j]? = (Lib.byteCells b)[j]? := by rw [h4]
  rw [List.getElem?_take, if_pos hj] at this
  rw [← Array.getElem?_toList, this]
  unfold Lib.byteCells
  rw [List.getElem?_map, List.getD_eq_getElem?_getD, List.getElem?_eq_getElem hj]
  rfl
theorem Cb.frz {w : World} {g cap : Nat} {b : List UInt8} (h : Cb w g cap b) (j : Nat) (hj : j < b.length) : w.frozen? ⟨g, j, none⟩ = false := by
  obtain ⟨cur, fz, h1, h2, h3, _, h4⟩ := h
  simp only [World.frozen?, h1, Bool.and_eq_false_iff, decide_eq_false_iff_not]
  left
  omega
theorem Cb.set {w : World} {g cap : Nat} {b : List UInt8} (h : Cb w g cap b) (j : Nat) (c : UInt8) : Cb (w.setCell ⟨g, j, none⟩ (.int .u8 c.toNat)) g cap (b.set j c) := by
  obtain ⟨cur, fz, h1, h2, h3, h5, h4⟩ := h
  refine ⟨_, fz, heap_set h1, by simpa using h2, by simpa using h3, by simpa using h5, ?_⟩
  rw [Array.toList_setIfInBounds, List.length_set, List.take_set, h4]
  unfold Lib.byteCells
  rw [List.map_set]
theorem Cb.kept {w w' : World} {g cap : Nat} {b : List UInt8} (h : Cb w g cap b) (hb : w'.heap[g]? = w.heap[g]?) : Cb w' g cap b := by
  obtain ⟨cur, fz, h1, r⟩ := h
  exact ⟨cur, fz, hb.trans h1, r⟩
theorem run_storeCells_tail (P : Program) (g o : Nat) (t : TypeId) (fz : Nat × Nat) : ∀ (vs : List Value) (i : Nat) (cur : Array Value) (w : World), w.heap[g]? = some (.cells cur t fz) → cur.size ≤ fz.1 → o + i + vs.length ≤ cur.size → (∀ v ∈ vs, v.oneCell' = true) →
    (storeCells ⟨g, o, none⟩ vs i).run P w = .ok () (w.setRow g (cur.toList.take (o + i) ++ vs ++ cur.toList.drop (o + i + vs.length)).toArray)
  | [], i, cur, w, hg, _, _, _ => by
    simp only [storeCells, List.append_nil, List.length_nil, Nat.add_zero, List.take_append_drop, Array.toArray_toList]
    rw [setRow_self w g cur t fz hg]
    rfl
  | v :: rest, i, cur, w, hg, hfz, hl, h1 => by
    have hi : o + i < cur.size := by simp at hl; omega
    have hadd : (⟨g, o, none⟩ : Addr).add i = ⟨g, o + i, none⟩ := by unfold Addr.add; split <;> simp_all
    have hcell : w.cell? ⟨g, o + i, none⟩ = some cur[o + i] := by simp [World.cell?, hg, hi]
    have hfro : w.frozen? ⟨g, o + i, none⟩ = false := by
      obtain ⟨lo, hi'⟩ := fz
      simp only [World.frozen?, hg, Bool.and_eq_false_iff, decide_eq_false_iff_not]
      left
      simp only at hfz
      omega
    have hst : (store ((⟨g, o, none⟩ : Addr).add i) v).run P w = .ok () (w.setRow g (cur.setIfInBounds (o + i) v)) := by
      rw [hadd, run_store P w _ v _ (h1 v (by simp)), hcell]
      simp [hfro, setCell_eq_setRow w g (o + i) cur t fz v hg]
    have ih := run_storeCells_tail P g o t fz rest (i + 1) (cur.setIfInBounds (o + i) v) (w.setRow g (cur.setIfInBounds (o + i) v)) (setRow_heap w g cur _ t _ hg) (by simpa using hfz) (by simp at hl ⊢; omega) (fun x hx => h1 x (by simp [hx]))
    simp only [storeCells, Sem.run_bind, hst, Result.andThen_ok, ih, setRow_setRow]
    congr 3
    have e := list_seg_step cur.toList (o + i) v rest (by simp at hl ⊢; omega)
    simpa [Array.toList_setIfInBounds, Nat.add_assoc] using e
/-- 'copy(left[a:], s)'. -/
theorem Cb.put {w : World} {g cap : Nat} {l : List UInt8} (h : Cb w g cap l) (a : Nat) (s : ByteArray) (hn : a + s.size ≤ l.length) :
    ∃ v2 r w', (∀ w' : World, (Instr.slice 81 (.slice (some ⟨g, 0, none⟩) l.length cap) (some (.int .i64 (a : Int))) none none).run Try.prog w' = .ok v2 w') ∧ (Builtin.copy_ #[81, 9] 3 #[v2, .string s]).run Try.prog w = .ok (.int .i64 r) w' ∧
      Cb w' g cap (ovr l a s.data.toList) ∧ Ch (fun i => i = g) w w' ∧ ∃ d n c, v2 = .slice d n c := by
  obtain ⟨i0, hi, hz0, hz1, hz2⟩ := info_parts Try.info5
  have hsz : s.data.toList.length = s.size := by rw [← Lib.size_eq]
  have hinfo : (Try.prog.info? 5).map (·.size) = some 1 := by rw [hi]; simp [hz1]
  have hsl : ∀ (w' : World), (Instr.slice 81 (.slice (some ⟨g, 0, none⟩) l.length cap) (some (.int .i64 (a : Int))) none none).run Try.prog w' = .ok (sliced (some ⟨g, 0, none⟩) a l.length cap 1) w' := fun w' => by
    have := run_slice_l (P := Try.prog) (w := w') 81 (some ⟨g, 0, none⟩) l.length cap underB .i64 (a : Int) (by omega) (by omega)
    rw [this]
    simp [sizeOf, typeInfo, elemB, hi, hz1]
  by_cases h0 : s.size = 0
  · have hs0 : s.data.toList = [] := List.eq_nil_of_length_eq_zero (by omega)
    refine ⟨_, _, w, hsl, Lib.run_copy_empty_string w 81 9 3 5 _ _ _ s Try.underBytes (by rw [hinfo]; rfl) h0, ?_, Ch.refl _ _, ⟨_, _, _, rfl⟩⟩
    have : ovr l a s.data.toList = l := by unfold ovr; rw [hs0]; simp
    rw [this]
    exact h
  · obtain ⟨cur, fz, hg, hf, hl, hc, htk⟩ := h
    have e1 : sliced (some ⟨g, 0, none⟩) a l.length cap 1 = .slice (some ⟨g, a, none⟩) (l.length - a) (cap - a) := by
      unfold sliced
      rw [if_neg (by omega), Option.map_some, add_lit, Nat.mul_one]
    have hcp : (Builtin.copy_ #[81, 9] 3 #[.slice (some ⟨g, a, none⟩) (l.length - a) (cap - a), .string s]).run Try.prog w = .ok (goInt s.size) (w.setRow g (cur.toList.take a ++ Lib.byteCells s.data.toList ++ cur.toList.drop (a + s.size)).toArray) := by
      have hlen : (Lib.byteCells s.data.toList).length = s.size := by rw [Lib.byteCells_length, hsz]
      have hst := run_storeCells_tail Try.prog g a 5 fz (Lib.byteCells s.data.toList) 0 cur w hg hf (by rw [hlen]; omega) (Lib.byteCells_one _)
      have hmin : Nat.min s.size (l.length - a) = s.size := Nat.min_eq_left (by omega)
      have htk : List.take s.size (List.map (fun b : UInt8 => Value.int IntKind.u8 (b.toNat : Int)) s.data.toList) = Lib.byteCells s.data.toList := by
        rw [List.take_of_length_le (by rw [List.length_map, hsz]; exact Nat.le_refl _)]
        rfl
      rw [hlen] at hst
      simp only [Nat.add_zero] at hst
      simp [Builtin.copy_, run_underlying Try.underBytes, Builtin.lenOf, Builtin.firstCells, sizeOf, typeInfo, hi, hmin]
      rw [htk, hst]
      simp [Result.andThen]
    refine ⟨_, _, _, hsl, by rw [e1]; exact hcp, ⟨_, fz, setRow_heap w g cur _ 5 _ hg, ?_, ?_, ?_, ?_⟩, ?_, ⟨_, _, _, rfl⟩⟩
    · simp [Lib.byteCells]; omega
    · rw [ovr_len _ _ _ (by omega)]; simp [Lib.byteCells]; omega
    · simp [Lib.byteCells]; omega
    · rw [ovr_len _ _ _ (by omega), bc_ovr, ← htk, List.toList_toArray, ← hsz]
      have := ovr_take cur.toList (Lib.byteCells s.data.toList) a l.length (by rw [Lib.byteCells_length]; omega) (by have : cur.toList.length = cur.size := Array.length_toList; omega)
      rw [Lib.byteCells_length] at this
      exact this
    · exact ⟨rfl, rfl, rfl, by simp [World.setRow], fun k _ hk => setRow_other w g k _ (fun e => hk (by rw [e]))⟩
theorem Cb.back {w : World} {g cap : Nat} {b : List UInt8} (h : Cb w g cap b) : (convert 81 9 (.slice (some ⟨g, 0, none⟩) b.length cap)).run Try.prog w = .ok (.string (ba b)) w := by
  have := run_convert_bytes_back (P := Try.prog) w 81 9 5 ⟨g, 0, none⟩ cap b Try.underBytes Try.under5 Try.under9 (by
    intro j hj
    rw [Go.WideShapes.add_plain, Nat.zero_add, h.cell j hj, List.getD_eq_getElem?_getD, List.getElem?_eq_getElem hj]
    rfl)
  exact this
end Go.Proofs.Ythjbhfhdepepmaa
