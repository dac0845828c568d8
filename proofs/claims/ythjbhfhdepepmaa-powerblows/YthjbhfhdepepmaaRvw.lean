/- What is seen of files, kept in order: where a name stands, what each call keeps. -/
import Derived.Test.YthjbhfhdepepmaaDop3
import Derived.Test.YthjbhfhdepepmaaDop4
import Derived.Test.YthjbhfhdepepmaaDop6
namespace Go.Proofs.Ythjbhfhdepepmaa
open Go.RowKit
abbrev Bf (a b : ByteArray) : Prop := bytesBefore a.data.toList b.data.toList = true
/-- Files in order, within the limits. -/
structure SV (rm : Nat) (V : Vw) : Prop where
  srt : V.Pairwise (fun a b => Bf a.1 b.1)
  lng : ∀ x ∈ V, (1 ≤ x.1.size ∧ x.1.size ≤ 255) ∧ x.2.1.length ≤ 1073741824 ∧ x.2.2 ≤ x.2.1.length
  rom : vt V ≤ rm ∧ rm ≤ 1099511627776
  cnt : V.length ≤ 65536
theorem SV.nil {rm : Nat} (h : rm ≤ 1099511627776) : SV rm [] := ⟨List.Pairwise.nil, (fun x hx => by cases hx), ⟨Nat.zero_le _, h⟩, by simp⟩
theorem bf_ne {a b : ByteArray} (h : Bf a b) : a ≠ b := fun e => by rw [e] at h; unfold Bf at h; rw [bb_irr] at h; cases h
theorem bf_asym {a b : ByteArray} (h : Bf a b) : ¬ Bf b a := fun k => by have := bb_trans h k; rw [bb_irr] at this; cases this
/-- A name's place among files in order. -/
theorem split_some {nm : ByteArray} {x : List UInt8 × Nat} : ∀ {V : Vw}, V.Pairwise (fun a b => Bf a.1 b.1) → vl nm V = some x → ∃ l r, V = l ++ (nm, x) :: r ∧ (∀ y ∈ l, Bf y.1 nm) ∧ ∀ y ∈ r, Bf nm y.1
  | [], _, h => by cases h
  | z :: V, hp, h => by
    have hp' := List.pairwise_cons.1 hp
    by_cases e : z.1 = nm
    · unfold vl at h
      rw [List.find?_cons_of_pos (by simpa using e)] at h
      injection h with h
      refine ⟨[], V, ?_, by simp, fun y hy => e ▸ hp'.1 y hy⟩
      rw [← e, ← h]; rfl
    · unfold vl at h
      rw [List.find?_cons_of_neg (by simpa using e)] at h
      obtain ⟨l, r, rfl, h1, h2⟩ := split_some hp'.2 h
      refine ⟨z :: l, r, rfl, fun y hy => ?_, h2⟩
      rcases List.mem_cons.1 hy with rfl | hy
      · exact hp'.1 (nm, x) (by simp)
      · exact h1 y hy
theorem vl_none_ne {nm : ByteArray} {V : Vw} (h : vl nm V = none) : ∀ y ∈ V, y.1 ≠ nm := by
  intro y hy e
  unfold vl at h
  rw [Option.map_eq_none_iff, List.find?_eq_none] at h
  exact h y hy (by simpa using e)
theorem split_none {nm : ByteArray} : ∀ {V : Vw}, V.Pairwise (fun a b => Bf a.1 b.1) → (∀ y ∈ V, y.1 ≠ nm) → ∃ l r, V = l ++ r ∧ (∀ y ∈ l, Bf y.1 nm) ∧ ∀ y ∈ r, Bf nm y.1
  | [], _, _ => ⟨[], [], rfl, by simp, by simp⟩
  | z :: V, hp, h => by
    have hp' := List.pairwise_cons.1 hp
    by_cases e : Bf z.1 nm
    · obtain ⟨l, r, rfl, h1, h2⟩ := split_none hp'.2 (fun y hy => h y (by simp [hy]))
      refine ⟨z :: l, r, rfl, fun y hy => ?_, h2⟩
      rcases List.mem_cons.1 hy with rfl | hy
      · exact e
      · exact h1 y hy
    · have e2 : Bf nm z.1 := bb_total (by unfold Bf at e; simpa using e) (fun k => h z (by simp) (ba_eq.1 k))
      refine ⟨[], z :: V, rfl, by simp, fun y hy => ?_⟩
      rcases List.mem_cons.1 hy with rfl | hy
      · exact e2
      · exact bb_trans e2 (hp'.1 y hy)
section
variable {nm : ByteArray} {l r : Vw} {x y : List UInt8 × Nat} (hl : ∀ y ∈ l, Bf y.1 nm) (hr : ∀ y ∈ r, Bf nm y.1)
include hl
theorem vl_mid : vl nm (l ++ (nm, x) :: r) = some x := by
  unfold vl
  rw [List.find?_append, List.find?_eq_none.2 (fun y hy => by simpa using bf_ne (hl y hy))]
  simp
include hr
theorem vset_mid : vset nm y (l ++ (nm, x) :: r) = l ++ (nm, y) :: r := by
  unfold vset
  rw [List.map_append, List.map_cons, if_pos rfl]
  congr 1
  · conv => rhs; rw [← List.map_id l]
    exact List.map_congr_left fun x hx => by rw [if_neg (bf_ne (hl x hx))]; rfl
  · congr 1
    conv => rhs; rw [← List.map_id r]
    exact List.map_congr_left fun x hx => by rw [if_neg (fun e => bf_ne (hr x hx) e.symm)]; rfl
theorem vdel_mid : vdel nm (l ++ (nm, x) :: r) = l ++ r := by
  unfold vdel
  rw [List.filter_append, List.filter_cons_of_neg (by simp), List.filter_eq_self.2 (fun y hy => by simpa using bf_ne (hl y hy)), List.filter_eq_self.2 (fun y hy => by simpa using fun e => bf_ne (hr y hy) e.symm)]
theorem vl_no : vl nm (l ++ r) = none := by
  unfold vl
  rw [Option.map_eq_none_iff, List.find?_eq_none]
  intro y hy
  rcases List.mem_append.1 hy with hy | hy
  · simpa using bf_ne (hl y hy)
  · simpa using fun e => bf_ne (hr y hy) e.symm
end
theorem vins_mid {nm : ByteArray} : ∀ {l r : Vw}, (∀ y ∈ l, Bf y.1 nm) → (∀ y ∈ r, Bf nm y.1) → vins nm (l ++ r) = l ++ (nm, [], 0) :: r
  | [], [], _, _ => rfl
  | [], z :: r, _, hr => by
    show vins nm (z :: r) = _
    unfold vins
    rw [if_pos (hr z (by simp))]
    rfl
  | z :: l, r, hl, hr => by
    show vins nm (z :: (l ++ r)) = _
    unfold vins
    rw [if_neg (bf_asym (hl z (by simp))), vins_mid (fun y hy => hl y (by simp [hy])) hr]
    rfl
theorem vt_mid (l r : Vw) (z : ByteArray × List UInt8 × Nat) : vt (l ++ z :: r) = vt l + (z.2.1.length + vt r) := by unfold vt; simp
theorem vt_app (l r : Vw) : vt (l ++ r) = vt l + vt r := by unfold vt; simp
/-- A file turned in its place keeps the order. -/
theorem SV.mid {rm : Nat} {nm : ByteArray} {l r : Vw} {x y : List UInt8 × Nat} (h : SV rm (l ++ (nm, x) :: r)) (h1 : y.1.length ≤ 1073741824 ∧ y.2 ≤ y.1.length) (h2 : vt l + (y.1.length + vt r) ≤ rm) : SV rm (l ++ (nm, y) :: r) := by
  refine ⟨?_, fun z hz => ?_, ⟨by rw [vt_mid]; exact h2, h.rom.2⟩, by have := h.cnt; simpa using this⟩
  · have k := List.pairwise_append.1 h.srt
    have k2 := List.pairwise_cons.1 k.2.1
    refine List.pairwise_append.2 ⟨k.1, List.pairwise_cons.2 ⟨fun z hz => k2.1 z hz, k2.2⟩, fun a ha b hb => ?_⟩
    rcases List.mem_cons.1 hb with rfl | hb
    · exact k.2.2 a ha (nm, x) (by simp)
    · exact k.2.2 a ha b (by simp [hb])
  · rcases List.mem_append.1 hz with hz | hz
    · exact h.lng z (by simp [hz])
    · rcases List.mem_cons.1 hz with rfl | hz
      · exact ⟨(h.lng (nm, x) (by simp)).1, h1⟩
      · exact h.lng z (by simp [hz])
theorem SV.set {rm : Nat} {nm : ByteArray} {V : Vw} {x y : List UInt8 × Nat} (h : SV rm V) (hl : vl nm V = some x) (h1 : y.1.length ≤ 1073741824 ∧ y.2 ≤ y.1.length) (h2 : vt V + y.1.length ≤ rm + x.1.length) : SV rm (vset nm y V) := by
  obtain ⟨l, r, rfl, k1, k2⟩ := split_some h.srt hl
  rw [vset_mid k1 k2]
  rw [vt_mid] at h2
  exact h.mid h1 (by simp only at h2; omega)
theorem SV.at {rm : Nat} {nm : ByteArray} {V : Vw} {x : List UInt8 × Nat} (h : SV rm V) (hl : vl nm V = some x) : x.1.length ≤ 1073741824 ∧ x.2 ≤ x.1.length ∧ x.1.length ≤ vt V := by
  obtain ⟨l, r, rfl, k1, k2⟩ := split_some h.srt hl
  have := (h.lng (nm, x) (by simp)).2
  exact ⟨this.1, this.2, by rw [vt_mid]; simp only; omega⟩
theorem SV.cr {rm : Nat} {V : Vw} (nm : ByteArray) (h : SV rm V) : SV rm (crV nm V) := by
  unfold crV
  split
  · rename_i hE
    have hg : 1 ≤ nm.size ∧ nm.size ≤ 255 := Classical.byContradiction fun hg => by unfold crE at hE; rw [if_neg hg] at hE; cases hE
    unfold crE at hE
    rw [if_pos hg] at hE
    have hn : vl nm V = none := by
      cases hv : vl nm V with
      | none => rfl
      | some x => rw [hv] at hE; simp at hE
    rw [hn] at hE
    have hc : ¬ 65536 ≤ V.length := fun k => by rw [if_pos k] at hE; simp at hE
    obtain ⟨l, r, rfl, k1, k2⟩ := split_none h.srt (vl_none_ne hn)
    rw [vins_mid k1 k2]
    have k := List.pairwise_append.1 h.srt
    refine ⟨List.pairwise_append.2 ⟨k.1, List.pairwise_cons.2 ⟨fun z hz => k2 z hz, k.2.1⟩, fun a ha b hb => ?_⟩, fun z hz => ?_, ⟨?_, h.rom.2⟩, by simp at hc ⊢; omega⟩
    · rcases List.mem_cons.1 hb with rfl | hb
      · exact k1 a ha
      · exact k.2.2 a ha b hb
    · rcases List.mem_append.1 hz with hz | hz
      · exact h.lng z (by simp [hz])
      · rcases List.mem_cons.1 hz with rfl | hz
        · exact ⟨hg, by simp, by simp⟩
        · exact h.lng z (by simp [hz])
    · have := h.rom.1; rw [vt_app] at this; rw [vt_mid]; simpa using this
  · exact h
theorem SV.del {rm : Nat} {V : Vw} (nm : ByteArray) (h : SV rm V) : SV rm (vdel nm V) := by
  cases hv : vl nm V with
  | none =>
    have : vdel nm V = V := List.filter_eq_self.2 (fun y hy => by simpa using vl_none_ne hv y hy)
    rw [this]; exact h
  | some x =>
    obtain ⟨l, r, rfl, k1, k2⟩ := split_some h.srt hv
    rw [vdel_mid k1 k2]
    have k := List.pairwise_append.1 h.srt
    refine ⟨List.pairwise_append.2 ⟨k.1, (List.pairwise_cons.1 k.2.1).2, fun a ha b hb => k.2.2 a ha b (by simp [hb])⟩, fun z hz => h.lng z (by rcases List.mem_append.1 hz with hz | hz <;> simp [hz]), ⟨?_, h.rom.2⟩, by have := h.cnt; simp at this ⊢; omega⟩
    have := h.rom.1; rw [vt_mid] at this; rw [vt_app]; omega
theorem SV.sy {rm : Nat} {V : Vw} (nm : ByteArray) (h : SV rm V) : SV rm (synV nm V) := by
  unfold synV
  split
  · exact h
  · rename_i x hx
    have := h.at hx
    exact h.set hx ⟨this.1, Nat.le_refl _⟩ (by have := h.rom.1; simp only; omega)
theorem SV.ap {rm : Nat} {V : Vw} (nm s : ByteArray) (h : SV rm V) : SV rm (apV nm rm s V) := by
  unfold apV
  split
  · exact h
  · rename_i x hx
    have k := h.at hx
    have k2 := h.rom.1
    have e : (List.take (apN (some x) rm (vt V) s) s.data.toList).length ≤ apN (some x) rm (vt V) s := by rw [List.length_take]; omega
    have e2 : apN (some x) rm (vt V) s ≤ rm - vt V ∧ apN (some x) rm (vt V) s ≤ 1073741824 - x.1.length := by unfold apN; simp only; omega
    exact h.set hx ⟨by simp only [List.length_append]; omega, by simp only [List.length_append]; omega⟩ (by simp only [List.length_append]; omega)
theorem SV.cu {rm : Nat} {V : Vw} (nm : ByteArray) (n : Int) (h : SV rm V) : SV rm (cuV nm n V) := by
  unfold cuV
  split
  · exact h
  · rename_i x hx
    split
    · have k := h.at hx
      have k2 := h.rom.1
      exact h.set hx ⟨by simp only [List.length_take]; omega, by simp only [List.length_take]; omega⟩ (by simp only [List.length_take]; omega)
    · exact h
theorem SV.ov {rm : Nat} {V : Vw} (nm s : ByteArray) (a : Int) (h : SV rm V) : SV rm (ovV nm a s V) := by
  unfold ovV
  split
  · exact h
  · rename_i x hx
    split
    · rename_i hh
      have k := h.at hx
      have k2 := h.rom.1
      unfold has5 at hh
      simp only [decide_eq_true_eq] at hh
      have hs : s.data.toList.length = s.size := Array.length_toList
      have e : (ovr x.1 a.toNat s.data.toList).length = x.1.length := ovr_len _ _ _ (by omega)
      exact h.set hx ⟨by simp only; omega, by simp only; omega⟩ (by simp only; omega)
    · exact h
end Go.Proofs.Ythjbhfhdepepmaa
