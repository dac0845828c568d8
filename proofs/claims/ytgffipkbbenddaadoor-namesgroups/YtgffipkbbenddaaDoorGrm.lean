/- Groups of names, as plain lists. -/
import Derived.Test.YtgffipkbbenddaaDoorSeg
namespace Go.Proofs.YtgffipkbbenddaaDoor
open Go.Lib
/-- A segment's bit for a kind. -/
def bit (s : Sg) : Nat → Bool
  | 0 => s.x
  | 1 => s.y
  | _ => s.z
def setb (s : Sg) : Nat → Sg
  | 0 => { s with x := true }
  | 1 => { s with y := true }
  | _ => { s with z := true }
theorem setb_b (s : Sg) (k : Nat) : (setb s k).b = s.b := by
  match k with
  | 0 => rfl
  | 1 => rfl
  | _ + 2 => rfl
theorem bit_setb (s : Sg) {k i : Nat} (hk : k ≤ 2) (hi : i ≤ 2) : bit (setb s k) i = (bit s i || decide (i = k)) := by
  obtain ⟨b, x, y, z⟩ := s
  match k, i, hk, hi with
  | 0, 0, _, _ => simp [bit, setb]
  | 0, 1, _, _ => simp [bit, setb]
  | 0, 2, _, _ => simp [bit, setb]
  | 1, 0, _, _ => simp [bit, setb]
  | 1, 1, _, _ => simp [bit, setb]
  | 1, 2, _, _ => simp [bit, setb]
  | 2, 0, _, _ => simp [bit, setb]
  | 2, 1, _, _ => simp [bit, setb]
  | 2, 2, _, _ => simp [bit, setb]
/-- A good name, one behind the other: the last segment's, or a new one's. -/
def addS (l : List Sg) (b k : Nat) : List Sg :=
  match l.getLast? with
  | some s => if s.b = b then l.dropLast ++ [setb s k] else l ++ [setb ⟨b, false, false, false⟩ k]
  | none => l ++ [setb ⟨b, false, false, false⟩ k]
def gs1 (st : List Sg × List (List UInt8)) (t : List UInt8) : List Sg × List (List UInt8) :=
  match prs t with
  | some (b, k) => (addS st.1 b k, st.2)
  | none => (st.1, st.2 ++ [t])
def grp (S : List (List UInt8)) : List Sg × List (List UInt8) := S.foldl gs1 ([], [])
/-- These segments are those of the names in P. -/
structure Gr (l : List Sg) (P : List (List UInt8)) : Prop where
  rise : l.Pairwise fun a b => a.b < b.b
  each : ∀ s ∈ l, ∃ b : Nat, b ≤ 4611686018427387904 ∧ s.b = b ∧ (∀ k, k ≤ 2 → (bit s k = true ↔ nm b k ∈ P)) ∧ ∃ k, k ≤ 2 ∧ nm b k ∈ P
  all : ∀ b k, b ≤ 4611686018427387904 → k ≤ 2 → nm b k ∈ P → ∃ s ∈ l, s.b = b
theorem nm_inj {a b j k : Nat} (ha : a ≤ 4611686018427387904) (hb : b ≤ 4611686018427387904) (hj : j ≤ 2) (hk : k ≤ 2) (h : nm a j = nm b k) : a = b ∧ j = k := by
  have h1 := prs_nm ha hj
  rw [h, prs_nm hb hk] at h1
  simp only [Option.some.injEq, Prod.mk.injEq] at h1
  exact ⟨h1.1.symm, h1.2.symm⟩
theorem Gr.nil : Gr [] [] := ⟨List.Pairwise.nil, by simp, by simp⟩
/-- A stray text changes nothing. -/
theorem Gr.stray {l : List Sg} {P : List (List UInt8)} {t : List UInt8} (h : Gr l P) (ht : prs t = none) : Gr l (P ++ [t]) := by
  have hne : ∀ b k, b ≤ 4611686018427387904 → k ≤ 2 → (nm b k ∈ P ++ [t] ↔ nm b k ∈ P) := fun b k hb hk => by
    rw [List.mem_append, List.mem_singleton]
    refine ⟨fun h => h.resolve_right fun e => ?_, Or.inl⟩
    rw [← e, prs_nm hb hk] at ht
    cases ht
  refine ⟨h.rise, fun s hs => ?_, fun b k hb hk hm => h.all b k hb hk ((hne b k hb hk).1 hm)⟩
  obtain ⟨b, hb, e, h1, k, hk, h2⟩ := h.each s hs
  exact ⟨b, hb, e, fun k hk => (h1 k hk).trans (hne b k hb hk).symm, k, hk, (hne b k hb hk).2 h2⟩
theorem mem_snoc_nm {P : List (List UInt8)} {b k c i : Nat} (hb : b ≤ 4611686018427387904) (hk : k ≤ 2) (hc : c ≤ 4611686018427387904) (hi : i ≤ 2) : nm c i ∈ P ++ [nm b k] ↔ nm c i ∈ P ∨ (c = b ∧ i = k) := by
  rw [List.mem_append, List.mem_singleton]
  refine or_congr_right ⟨fun h => nm_inj hc hb hi hk h, fun ⟨h1, h2⟩ => by rw [h1, h2]⟩
/-- A name of a base that stands there already. -/
theorem Gr.more {A B : List Sg} {s : Sg} {P : List (List UInt8)} {b k : Nat} (h : Gr (A ++ s :: B) P) (hb : b ≤ 4611686018427387904) (hk : k ≤ 2) (hs : s.b = b) : Gr (A ++ setb s k :: B) (P ++ [nm b k]) := by
  have hr := h.rise
  rw [List.pairwise_append, List.pairwise_cons] at hr
  refine ⟨?_, fun u hu => ?_, fun c i hc hi hm => ?_⟩
  · rw [List.pairwise_append, List.pairwise_cons]
    refine ⟨hr.1, ⟨fun x hx => by rw [setb_b]; exact hr.2.1.1 x hx, hr.2.1.2⟩, fun x hx y hy => ?_⟩
    rcases List.mem_cons.1 hy with rfl | hy
    · rw [setb_b]; exact hr.2.2 x hx s (List.mem_cons_self ..)
    · exact hr.2.2 x hx y (List.mem_cons_of_mem _ hy)
  · by_cases hus : u = setb s k
    · subst hus
      obtain ⟨c, hc, e, h1, _⟩ := h.each s (by simp)
      obtain rfl : c = b := by rw [e] at hs; exact Int.ofNat.inj hs
      refine ⟨c, hc, by rw [setb_b]; exact e, fun i hi => ?_, k, hk, by simp⟩
      rw [bit_setb s hk hi, mem_snoc_nm hc hk hc hi, Bool.or_eq_true, h1 i hi]
      simp
    · have hu' : u ∈ A ++ s :: B := by
        rcases List.mem_append.1 hu with hu | hu
        · exact List.mem_append_left _ hu
        · rcases List.mem_cons.1 hu with hu | hu
          · exact absurd hu hus
          · exact List.mem_append_right _ (List.mem_cons_of_mem _ hu)
      have hne : u.b ≠ s.b := by
        rcases List.mem_append.1 hu with hu | hu
        · exact Int.ne_of_lt (hr.2.2 u hu s (List.mem_cons_self ..))
        · rcases List.mem_cons.1 hu with hu | hu
          · exact absurd hu hus
          · exact (Int.ne_of_lt (hr.2.1.1 u hu)).symm
      obtain ⟨c, hc, e, h1, i, hi, h2⟩ := h.each u hu'
      have hcb : c ≠ b := fun e' => hne (by rw [e, hs, e'])
      refine ⟨c, hc, e, fun i hi => ?_, i, hi, List.mem_append_left _ h2⟩
      rw [mem_snoc_nm hb hk hc hi, h1 i hi]
      exact ⟨Or.inl, fun h => h.resolve_right fun e => hcb e.1⟩
  · rw [mem_snoc_nm hb hk hc hi] at hm
    rcases hm with hm | ⟨rfl, rfl⟩
    · obtain ⟨u, hu, e⟩ := h.all c i hc hi hm
      rcases List.mem_append.1 hu with hu | hu
      · exact ⟨u, List.mem_append_left _ hu, e⟩
      · rcases List.mem_cons.1 hu with rfl | hu
        · exact ⟨setb u k, by simp, by rw [setb_b]; exact e⟩
        · exact ⟨u, List.mem_append_right _ (List.mem_cons_of_mem _ hu), e⟩
    · exact ⟨setb s i, by simp, by rw [setb_b]; exact hs⟩
/-- A name of a base that is new. -/
theorem Gr.fresh {A B : List Sg} {P : List (List UInt8)} {b k : Nat} (h : Gr (A ++ B) P) (hb : b ≤ 4611686018427387904) (hk : k ≤ 2) (hA : ∀ s ∈ A, s.b < b) (hB : ∀ s ∈ B, (b : Int) < s.b) : Gr (A ++ setb ⟨b, false, false, false⟩ k :: B) (P ++ [nm b k]) := by
  have hr := h.rise
  rw [List.pairwise_append] at hr
  have hnone : ∀ i, i ≤ 2 → nm b i ∉ P := fun i hi hm => by
    obtain ⟨u, hu, e⟩ := h.all b i hb hi hm
    rcases List.mem_append.1 hu with hu | hu
    · have := hA u hu; omega
    · have := hB u hu; omega
  refine ⟨?_, fun u hu => ?_, fun c i hc hi hm => ?_⟩
  · rw [List.pairwise_append, List.pairwise_cons]
    refine ⟨hr.1, ⟨fun x hx => by rw [setb_b]; exact hB x hx, hr.2.1⟩, fun x hx y hy => ?_⟩
    rcases List.mem_cons.1 hy with rfl | hy
    · rw [setb_b]; exact hA x hx
    · exact hr.2.2 x hx y hy
  · rcases List.mem_append.1 hu with hu' | hu'
    · obtain ⟨c, hc, e, h1, i, hi, h2⟩ := h.each u (List.mem_append_left _ hu')
      have hcb : c ≠ b := fun e' => by have := hA u hu'; rw [e, e'] at this; exact absurd this (Int.lt_irrefl _)
      refine ⟨c, hc, e, fun i hi => ?_, i, hi, List.mem_append_left _ h2⟩
      rw [mem_snoc_nm hb hk hc hi, h1 i hi]
      exact ⟨Or.inl, fun h => h.resolve_right fun e => hcb e.1⟩
    · rcases List.mem_cons.1 hu' with rfl | hu'
      · refine ⟨b, hb, by rw [setb_b], fun i hi => ?_, k, hk, by simp⟩
        rw [bit_setb _ hk hi, mem_snoc_nm hb hk hb hi]
        have e0 : bit (⟨(b : Int), false, false, false⟩ : Sg) i = false := by
          match i, hi with
          | 0, _ => rfl
          | 1, _ => rfl
          | 2, _ => rfl
        rw [e0, Bool.false_or, decide_eq_true_iff]
        exact ⟨fun e => Or.inr ⟨rfl, e⟩, fun h => h.elim (fun hm => absurd hm (hnone i hi)) (fun e => e.2)⟩
      · obtain ⟨c, hc, e, h1, i, hi, h2⟩ := h.each u (List.mem_append_right _ hu')
        have hcb : c ≠ b := fun e' => by have := hB u hu'; rw [e, e'] at this; exact absurd this (Int.lt_irrefl _)
        refine ⟨c, hc, e, fun i hi => ?_, i, hi, List.mem_append_left _ h2⟩
        rw [mem_snoc_nm hb hk hc hi, h1 i hi]
        exact ⟨Or.inl, fun h => h.resolve_right fun e => hcb e.1⟩
  · rw [mem_snoc_nm hb hk hc hi] at hm
    rcases hm with hm | ⟨rfl, rfl⟩
    · obtain ⟨u, hu, e⟩ := h.all c i hc hi hm
      rcases List.mem_append.1 hu with hu | hu
      · exact ⟨u, List.mem_append_left _ hu, e⟩
      · exact ⟨u, List.mem_append_right _ (List.mem_cons_of_mem _ hu), e⟩
    · exact ⟨setb ⟨c, false, false, false⟩ i, by simp, by rw [setb_b]⟩
end Go.Proofs.YtgffipkbbenddaaDoor
