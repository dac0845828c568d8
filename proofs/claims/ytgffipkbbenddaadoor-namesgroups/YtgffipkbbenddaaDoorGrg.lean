/- Group: the program's. -/
import Derived.Test.YtgffipkbbenddaaDoorGrn
import Derived.Test.YtgffipkbbenddaaDoorSgm
import Derived.Test.YtgffipkbbenddaaDoorNlay2
namespace Go.Proofs.YtgffipkbbenddaaDoor
open Go.RowKit Go.Lib Go.Sort
/-- A row of texts of the call's own. -/
def OwX (w : World) (B : Nat) (v : Value) (l : List (List UInt8)) : Prop := w.ownsRow B 9 1 v l.length (l.map fun t => Value.string (ba t))
theorem OwX.nil (w : World) (B : Nat) : OwX w B (.slice none 0 0) [] := World.ownsRow_nil _ _ _ _
theorem OwX.kept {w w' : World} {B : Nat} {v : Value} {l : List (List UInt8)} (h : OwX w B v l) (hb : ∀ g, v.ownBlock = some g → g < w.heap.size → w'.heap[g]? = w.heap[g]?) : OwX w' B v l := by
  refine ⟨h.1, ?_⟩
  rcases h.2 with h2 | ⟨g, cap, cur, rfl, h3, h4, h5⟩
  · exact Or.inl h2
  · exact Or.inr ⟨g, cap, cur, rfl, h3, (hb g rfl (lt_of_heap h4)).trans h4, h5⟩
theorem OwX.own {w : World} {B : Nat} {v : Value} {l : List (List UInt8)} (h : OwX w B v l) {g : Nat} (hg : v.ownBlock = some g) : B ≤ g := by
  rcases h.2 with ⟨rfl, _⟩ | ⟨g', cap, cur, rfl, h3, _⟩
  · cases hg
  · simp only [Value.ownBlock, Option.some.injEq] at hg; omega
/-- A row of segments and a row of texts are two blocks. -/
theorem ow_ne {T : TypeId} {w : World} {B B' : Nat} {v v' : Value} {l : List Sg} {l' : List (List UInt8)} (hT : T ≠ 9) (h : OwS T w B v l) (h' : OwX w B' v' l') {g : Nat} (hg : v.ownBlock = some g) : v'.ownBlock ≠ some g := by
  intro hg'
  rcases h.2 with ⟨rfl, _⟩ | ⟨g1, cap, cur, rfl, _, h4, _⟩
  · cases hg
  · rcases h'.2 with ⟨rfl, _⟩ | ⟨g2, cap', cur', rfl, _, h4', _⟩
    · cases hg'
    · simp only [Value.ownBlock, Option.some.injEq] at hg hg'
      subst hg; subst hg'
      rw [h4] at h4'
      injection h4' with h4'
      injection h4' with _ h4' _
      exact hT h4'
theorem clone_sort {l : List ByteArray} {a : Option Addr} (cap : Nat) (w : World) (hv : Txs w a l) (hn : l.length ≤ 8796093022208) :
    Calls Tryd.prog 29 #[.slice a l.length cap] w fun e w' => (∃ v, e = .returned v ∧ OwX w' w.heap.size v (l.map fun s => s.data.toList)) ∧ Below w.heap.size w w' := by
  have em : ∀ l : List ByteArray, (l.map fun s => s.data.toList).map (fun t => Value.string (ba t)) = l.map Value.string := fun l => by
    rw [List.map_map]
    exact List.map_congr_left fun s _ => by simp [ba_of]
  rcases hv with rfl | ⟨b, off, rfl, hb, hc⟩
  · cases a with
    | none =>
      refine (YtgffipkbbenddaaDoor.slices_Clone_string_nil 0 cap w).mono ?_
      rintro e w' ⟨rfl, rfl⟩
      exact ⟨⟨_, rfl, OwX.nil _ _⟩, Below.refl _ _⟩
    | some ad =>
      refine (YtgffipkbbenddaaDoor.slices_Clone_string_zero ad cap w).mono ?_
      rintro e w' ⟨v, rfl, ho, _, hb⟩
      exact ⟨⟨v, rfl, ho⟩, hb⟩
  · refine (YtgffipkbbenddaaDoor.slices_Clone_string b off l.length cap l w (Nat.le_refl _) (by omega) hc).mono ?_
    rintro e w' ⟨v, rfl, ho, _, hb'⟩
    refine ⟨⟨v, rfl, ?_⟩, hb'⟩
    unfold OwX
    rw [List.length_map, em]
    rw [List.take_length] at ho
    exact ho
/-- A row of texts of the call's own, sorted in its place. -/
theorem sort_own {w : World} {B : Nat} {v : Value} {T : List (List UInt8)} (h : OwX w B v T) (hn : T.length ≤ 8796093022208) :
    Calls Tryd.prog 30 #[v] w fun e w' => e = .returned (.tuple #[]) ∧ (∃ a cap, v = .slice a T.length cap ∧ Txs w' a ((srt T).map ba)) ∧ Below B w w' := by
  have hr : w.ownsRow B 9 1 v T.length (T.map fun t => Value.string (ba t)) := h
  rcases h.2 with ⟨rfl, h2⟩ | ⟨g, cap, cur, rfl, h3, h4, h5⟩
  · have hT : T = [] := List.eq_nil_of_length_eq_zero h2
    subst hT
    refine (YtgffipkbbenddaaDoor.slices_Sort_string_none none 0 w).mono ?_
    rintro e w' ⟨rfl, rfl⟩
    exact ⟨rfl, ⟨none, 0, rfl, Or.inl (by simp [srt])⟩, Below.refl _ _⟩
  · have hH : Holds encStr w g 0 T.toArray := fun j hj => by
      have hj' : j < T.length := by simpa using hj
      refine ⟨?_, hr.frozenAt _⟩
      rw [Nat.zero_add, hr.cellAt j (by omega), List.getElem?_map, List.getElem?_eq_getElem hj']
      show some (Value.string (ba T[j])) = some (encStr T.toArray[j]!)
      rw [getElem!_pos _ j hj]
      rfl
    refine (YtgffipkbbenddaaDoor.slices_Sort_string g 0 cap T w hH (lt_of_heap h4) (by omega)).mono ?_
    rintro e w' ⟨rfl, n, os, rfl⟩
    have hsz : (srt T).toArray.size = T.toArray.size := by simp [srt]
    have hlt : g < (putRow encStr (Sort.ahead w n) g 0 (srt T).toArray).heap.size := by rw [size_putRow]; exact lt_of_heap h4
    have hp : Holds encStr (grow (putRow encStr (Sort.ahead w n) g 0 (srt T).toArray) os) g 0 (srt T).toArray := holds_grow _ _ _ _ _ _ hlt (holds_putRow encStr (Sort.ahead w n) g 0 T.toArray (srt T).toArray hH hsz)
    refine ⟨rfl, ⟨_, cap, rfl, Or.inr ⟨g, 0, rfl, Nat.lt_of_lt_of_le hlt (by rw [size_grow]; exact Nat.le_add_right _ _), fun j hj => ?_⟩⟩, ?_⟩
    · have hj' : j < (srt T).length := by simpa using hj
      have := (hp j (by simpa using hj')).1
      refine this.trans ?_
      rw [getElem!_pos _ j (by simpa using hj'), List.getD_eq_getElem?_getD, List.getElem?_map, List.getElem?_eq_getElem hj']
      rfl
    · refine ⟨rfl, rfl, rfl, by rw [size_grow, size_putRow]; exact Nat.le_add_right _ _, fun k hk => ?_⟩
      by_cases hkw : k < w.heap.size
      · rw [heap_grow_old _ _ (by rw [size_putRow]; exact hkw)]
        show (w.heap.modify g _)[k]? = _
        rw [Array.getElem?_modify, if_neg (by omega)]
      · have := lt_of_heap h4
        omega
end Go.Proofs.YtgffipkbbenddaaDoor
