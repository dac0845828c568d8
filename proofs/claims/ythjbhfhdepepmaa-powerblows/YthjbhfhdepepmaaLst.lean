/- List: the names of all files, rising. -/
import Derived.Test.YthjbhfhdepepmaaLay
namespace Go.Proofs.Ythjbhfhdepepmaa
open Go.RowKit
open Go.Sort
theorem bb_lt : ∀ {a b : List UInt8}, bytesBefore a b = true → a < b
  | [], [], h => by cases h
  | [], _ :: _, _ => List.nil_lt_cons _ _
  | _ :: _, [], h => by cases h
  | a :: r, b :: s, h => by
    simp only [bytesBefore, Bool.or_eq_true, decide_eq_true_eq, Bool.and_eq_true, beq_iff_eq] at h
    rw [List.cons_lt_cons_iff]
    rcases h with h | ⟨rfl, h⟩
    · exact Or.inl h
    · exact Or.inr ⟨rfl, bb_lt h⟩
theorem bb_le {a b : List UInt8} (h : bytesBefore a b = true) : a ≤ b := List.le_of_lt (bb_lt h)
/-- Two rising lists of the same names are one. -/
theorem sorted_eq {fs : List Fl} (hn : fs.Pairwise (fun f g => bytesBefore f.nm.data.toList g.nm.data.toList = true)) {ss : List (List UInt8)} (hp : ss.Perm (fs.map fun f => f.nm.data.toList)) : ss.mergeSort (fun x y => decide (x ≤ y)) = fs.map fun f => f.nm.data.toList := by
  have h1 : (ss.mergeSort (fun x y => decide (x ≤ y))).Perm (fs.map fun f => f.nm.data.toList) := (List.mergeSort_perm ss _).trans hp
  have h2 : (ss.mergeSort (fun x y => decide (x ≤ y))).Pairwise (fun x y => x ≤ y) := by
    have := List.pairwise_mergeSort (le := fun x y : List UInt8 => decide (x ≤ y)) (fun a b c h k => by simp at *; exact List.le_trans h k) (fun a b => by simp; exact List.le_total a b) ss
    exact this.imp fun h => by simpa using h
  have h3 : (fs.map fun f => f.nm.data.toList).Pairwise (fun x y => x ≤ y) := List.pairwise_map.2 (hn.imp fun h => bb_le h)
  exact h1.eq_of_pairwise (fun a b _ _ h k => List.le_antisymm h k) h2 h3
theorem keys_dm (fs : List Fl) : strKeys (dm fs) = fs.map fun f => f.nm.data.toList := by
  show (fs.map ent).map (fun p => strOf p.1) = _
  rw [List.map_map]
  rfl
theorem row_le {w : World} {base base' size n : Nat} {e : TypeId} {v : Value} {xs : List Value} (h : w.ownsRow base e size v n xs) (hb : base' ≤ base) : w.ownsRow base' e size v n xs :=
  ⟨h.1, h.2.imp id (fun ⟨g, cap, cur, h1, h2, r⟩ => ⟨g, cap, cur, h1, Nat.le_trans hb h2, r⟩)⟩
theorem enc_nm (fs : List Fl) : (fs.map fun f => f.nm.data.toList).map encStr = fs.map fun f => Value.string f.nm := by
  rw [List.map_map]
  refine List.map_congr_left fun f _ => ?_
  show encStr f.nm.data.toList = _
  unfold encStr
  congr 1
/-- What List answers. -/
def Lsd (w : World) (B : Nat) (v : Value) (ns : List ByteArray) : Prop := w.ownsRow B 9 1 v ns.length (ns.map Value.string) ∧ (v = .slice none 0 0 ↔ ns = [])
set_option maxHeartbeats 1000000 in
theorem list_any (d : Nat) (m : Option Nat) (rm : Nat) (cl cb : Int) (fs : List Fl) (w : World) (h : Dk w d m rm cl cb fs) (hl : fs.length ≤ 65536) :
    Calls Try.prog 39 #[.pointer (some ⟨d, 0, none⟩)] w fun e w' => ∃ v, e = .returned v ∧ Lsd w' w.heap.size v (fs.map Fl.nm) ∧ Below w.heap.size w w' := by
  have c2 := h.c2
  have HK := Hid.mk ((callsIn_wide (n := 5)).1 (Ythjbhfhdepepmaa.maps_KeysL m w))
  have HS : Hid (Calls Try.prog 75 #[.func (.func 86) #[] #[.pointer (some ⟨w.heap.size, 0, none⟩)]] (w.alloc (.cells #[.map m] 103)) fun e w' => ∃ v, e = .returned v ∧ Lsd w' w.heap.size v (fs.map Fl.nm) ∧ Below w.heap.size w w') := by
    have hA : (w.alloc (.cells #[.map m] 103)).heap.size = w.heap.size + 1 := by simp
    have hB : Below w.heap.size w (w.alloc (.cells #[.map m] 103)) := (Below.refl _ w).alloc (Nat.le_refl _) _
    cases m with
    | none =>
      have e : fs = [] := h.map
      subst e
      refine ((callsIn_wide (n := 5)).1 (Ythjbhfhdepepmaa.slices_SortedNilL w)).mono ?_
      rintro e w' ⟨v, ss, he, rfl, ho, hnil, hb⟩
      refine ⟨v, he, ⟨?_, ?_⟩, hB.trans (hb.mono (by omega))⟩
      · rw [hA] at ho
        simpa using row_le ho (base' := w.heap.size) (by omega)
      · simpa using hnil
    | some b =>
      have ho : w.ownsMap Try.prog 9 RP b fs.length (dm fs) := h.map
      have hs : Maps.size (dm fs) = fs.length := by unfold dm; rw [Maps.size_eq, List.length_map]
      refine ((callsIn_wide (n := 5)).1 (Ythjbhfhdepepmaa.slices_SortedL b fs.length (dm fs) RP w ho (by rw [hs]; unfold maxLen; omega) (by rw [hs]; omega))).mono ?_
      rintro e w' ⟨v, ss, he, hp, ho', hnil, hb⟩
      rw [keys_dm] at hp
      have hlen : ss.length = fs.length := by rw [hp.length_eq, List.length_map]
      rw [sorted_eq h.nms hp, enc_nm, hlen, hA] at ho'
      refine ⟨v, he, ⟨?_, ?_⟩, hB.trans (hb.mono (by omega))⟩
      · have := row_le ho' (base' := w.heap.size) (by omega)
        rw [List.length_map, List.map_map]
        exact this
      · rw [hnil, List.map_eq_nil_iff]
        constructor
        · rintro rfl; exact List.eq_nil_of_length_eq_zero hlen.symm
        · rintro rfl; exact List.eq_nil_of_length_eq_zero hlen
  clear h
  go_enter Try.func39, Try.ntmps39
  go_wp2_with (first | (go_at_call 76; refine HK.out.mono ?_; rintro e w' ⟨rfl, rfl⟩) | (go_at_call 75; refine HS.out.mono ?_; rintro e w1 ⟨v, rfl, hl1, hb1⟩; have HL := Hid.mk hl1; have HB := Hid.mk hb1; clear hl1 hb1))
  go_ret
  exact ⟨v, rfl, HL.out, HB.out⟩
end Go.Proofs.Ythjbhfhdepepmaa
