/- A new file: its place in the rising order of names. -/
import Derived.Test.YthjbhfhdepepmaaDop5
import Derived.Test.YthjbhfhdepepmaaDcl
namespace Go.Proofs.Ythjbhfhdepepmaa
open Go.RowKit
theorem bb_trans : ∀ {a b c : List UInt8}, bytesBefore a b = true → bytesBefore b c = true → bytesBefore a c = true
  | [], [], _, h, _ => by cases h
  | [], _ :: _, [], _, h => by cases h
  | [], _ :: _, _ :: _, _, _ => rfl
  | _ :: _, [], _, h, _ => by cases h
  | _ :: _, _ :: _, [], _, h => by cases h
  | a :: r, b :: s, c :: t, h, k => by
    simp only [bytesBefore, Bool.or_eq_true, decide_eq_true_eq, Bool.and_eq_true, beq_iff_eq] at *
    rcases h with h | ⟨rfl, h⟩
    · rcases k with k | ⟨rfl, k⟩
      · exact Or.inl (UInt8.lt_trans h k)
      · exact Or.inl h
    · rcases k with k | ⟨rfl, k⟩
      · exact Or.inl k
      · exact Or.inr ⟨rfl, bb_trans h k⟩
theorem bb_total : ∀ {a b : List UInt8}, bytesBefore a b = false → a ≠ b → bytesBefore b a = true
  | [], [], _, h => absurd rfl h
  | [], _ :: _, h, _ => by cases h
  | _ :: _, [], _, _ => rfl
  | a :: r, b :: s, h, k => by
    simp only [bytesBefore, Bool.or_eq_false_iff, decide_eq_false_iff_not, Bool.and_eq_false_iff, beq_eq_false_iff_ne, Bool.or_eq_true, decide_eq_true_eq, Bool.and_eq_true, beq_iff_eq] at *
    obtain ⟨h1, h2⟩ := h
    by_cases e : a = b
    · subst e
      rcases h2 with h2 | h2
      · exact absurd rfl h2
      · exact Or.inr ⟨rfl, bb_total h2 (fun e => k (by rw [e]))⟩
    · refine Or.inl ?_
      rw [UInt8.lt_iff_toNat_lt] at *
      have : a.toNat ≠ b.toNat := fun e' => e (UInt8.toNat_inj.1 e')
      omega
def insF (f : Fl) : List Fl → List Fl
  | [] => [f]
  | y :: r => if bytesBefore f.nm.data.toList y.nm.data.toList then f :: y :: r else y :: insF f r
theorem insF_perm (f : Fl) : ∀ fs, (insF f fs).Perm (f :: fs)
  | [] => List.Perm.refl _
  | y :: r => by
    unfold insF
    split
    · exact List.Perm.refl _
    · exact ((insF_perm f r).cons y).trans (List.Perm.swap f y r)
theorem insF_mem {f x : Fl} {fs : List Fl} : x ∈ insF f fs ↔ x = f ∨ x ∈ fs := by rw [(insF_perm f fs).mem_iff, List.mem_cons]
theorem insF_pair {R : Fl → Fl → Prop} {f : Fl} : ∀ {fs : List Fl}, fs.Pairwise R → (∀ x ∈ fs, R f x) → (∀ x ∈ fs, R x f) → (insF f fs).Pairwise R
  | [], _, _, _ => by simp [insF]
  | y :: r, h, h1, h2 => by
    have h' := List.pairwise_cons.1 h
    unfold insF
    split
    · exact List.pairwise_cons.2 ⟨h1, h⟩
    · refine List.pairwise_cons.2 ⟨fun x hx => ?_, insF_pair h'.2 (fun x hx => h1 x (by simp [hx])) (fun x hx => h2 x (by simp [hx]))⟩
      rcases insF_mem.1 hx with rfl | hx
      · exact h2 y (by simp)
      · exact h'.1 x hx
theorem insF_rise {f : Fl} : ∀ {fs : List Fl}, fs.Pairwise (fun a b => bytesBefore a.nm.data.toList b.nm.data.toList = true) → (∀ x ∈ fs, x.nm ≠ f.nm) → (insF f fs).Pairwise (fun a b => bytesBefore a.nm.data.toList b.nm.data.toList = true)
  | [], _, _ => by simp [insF]
  | y :: r, h, h1 => by
    have h' := List.pairwise_cons.1 h
    unfold insF
    split
    · rename_i hb
      refine List.pairwise_cons.2 ⟨fun x hx => ?_, h⟩
      rcases List.mem_cons.1 hx with rfl | hx
      · exact hb
      · exact bb_trans hb (h'.1 x hx)
    · rename_i hb
      refine List.pairwise_cons.2 ⟨fun x hx => ?_, insF_rise h'.2 (fun x hx => h1 x (by simp [hx]))⟩
      rcases insF_mem.1 hx with rfl | hx
      · exact bb_total (by simpa using hb) (fun e => h1 y (by simp) (ba_eq.1 e.symm))
      · exact h'.1 x hx
theorem vw_ins (f : Fl) (h1 : f.da = []) (h2 : f.sy = 0) : ∀ fs, vw (insF f fs) = vins f.nm (vw fs)
  | [] => by show [(f.nm, f.da, f.sy)] = [(f.nm, [], 0)]; rw [h1, h2]
  | y :: r => by
    show vw (insF f (y :: r)) = vins f.nm ((y.nm, y.da, y.sy) :: vw r)
    unfold insF vins
    split
    · show (f.nm, f.da, f.sy) :: (y.nm, y.da, y.sy) :: vw r = _
      rw [h1, h2]
    · show (y.nm, y.da, y.sy) :: vw (insF f r) = _
      rw [vw_ins f h1 h2 r]
theorem ent_ins (f : Fl) : ∀ fs, (insF f fs).map ent = DataW.insert (ent f) (fs.map ent)
  | [] => rfl
  | y :: r => by
    unfold insF
    show _ = if (ent f).1.before (ent y).1 then ent f :: ent y :: r.map ent else ent y :: DataW.insert (ent f) (r.map ent)
    show _ = if bytesBefore f.nm.data.toList y.nm.data.toList then ent f :: ent y :: r.map ent else ent y :: DataW.insert (ent f) (r.map ent)
    split
    · rfl
    · show ent y :: (insF f r).map ent = _
      rw [ent_ins f r]
theorem dm_put {f : Fl} {fs : List Fl} (h : ∀ x ∈ fs, x.nm ≠ f.nm) : (dm fs).put (.string f.nm.data.toList) (.lit (.int .i64 f.bk)) = dm (insF f fs) := by
  unfold dm
  rw [DataW.put_eq, ent_ins]
  unfold ChangeMaps.putKey
  congr 1
  show DataW.insert (ent f) _ = _
  congr 1
  refine List.filter_eq_self.2 (fun y hy => ?_)
  obtain ⟨x, hx, rfl⟩ := List.mem_map.1 hy
  unfold ChangeMaps.notKey
  rw [same_nm]
  simp [h x hx]
theorem tot_perm {a b : List Fl} (h : a.Perm b) : tot a = tot b := (h.map _).sum_nat
/-- A new file laid into the map. -/
theorem Dk.ins {w w' : World} {d b : Nat} {rm : Nat} {cl cb : Int} {fs : List Fl} {nm : ByteArray} {p : Nat} (h : Dk w d (some b) rm cl cb fs) (hno : look nm fs = none) (hn : nm.size ≤ maxLen) (hc : Ch (fun i => i = b) w w') (hp : w.heap.size ≤ p)
    (hb : w'.heap[p]? = some (.cells #[.slice none 0 0, .int .i64 0] 109 (0, 0))) (ho : w'.ownsMap Try.prog 9 RP b (fs.length + 1) ((dm fs).put (.string nm.data.toList) (.lit (.int .i64 p)))) : Beh w d (some b) fs rm cl cb (vins nm (vw fs)) w' := by
  have hne : ∀ x ∈ fs, x.nm ≠ nm := look_no hno
  obtain ⟨f, hf⟩ : ∃ f : Fl, f = ⟨nm, p, .slice none 0 0, [], 0⟩ := ⟨_, rfl⟩
  have e1 : f.nm = nm := by rw [hf]
  have e2 : f.bk = p := by rw [hf]
  have e3 : f.da = [] := by rw [hf]
  have e4 : f.sy = 0 := by rw [hf]
  have e5 : f.sl = .slice none 0 0 := by rw [hf]
  clear hf
  have hlt : ∀ x ∈ fs, x.bk < w.heap.size := fun x hx => lt_of_heap (h.fil x hx).1
  have ht : tot (insF f fs) = tot fs := by rw [tot_perm (insF_perm f fs)]; unfold tot; rw [List.map_cons, List.sum_cons, e3]; simp
  have hcd : ∀ x ∈ fs, FA w' x := fun x hx => (h.fil x hx).ch hc (fun e => h.m_cells rfl (h.fil x hx).1 e.symm) (fun i hi e => by
    obtain ⟨cur, hcu⟩ := row_at (h.fil x hx).2 hi
    exact h.m_cells rfl hcu e.symm)
  refine ⟨some b, insF f fs, ⟨?_, ?_, ?_, ?_, ?_, ?_, ?_⟩, by rw [vw_ins f e3 e4, e1], ?_, ?_⟩
  · rw [ht]
    exact (hc.block d (lt_of_heap h.blk) (fun e => h.m_cells rfl h.blk e.symm)).trans h.blk
  · rw [← e1, ← e2, dm_put (fun x hx => by rw [e1]; exact hne x hx)] at ho
    exact own_tight ho
  · intro x hx
    rcases insF_mem.1 hx with rfl | hx
    · refine ⟨by rw [e2, e5, e4]; exact hb, ?_⟩
      rw [e5, e3]
      exact World.ownsRow_nil w' 0 5 1
    · exact hcd x hx
  · refine insF_pair h.apt (fun x hx => ⟨?_, Or.inl (by rw [e5]; rfl)⟩) (fun x hx => ⟨?_, ?_⟩)
    · have := hlt x hx; rw [e2]; omega
    · have := hlt x hx; rw [e2]; omega
    · cases hs : x.sl.ownBlock with
      | none => exact Or.inl rfl
      | some i => exact Or.inr (by rw [e5]; intro e; cases e)
  · exact insF_rise h.nms (fun x hx => by rw [e1]; exact hne x hx)
  · intro x hx
    rcases insF_mem.1 hx with rfl | hx
    · exact ⟨by rw [e1]; exact hn, by rw [e3]; simp, by rw [e4]; omega⟩
    · exact h.lng x hx
  · rw [ht]; exact h.rom
  · exact hc.mono (fun i _ hi => Or.inr (Or.inl (by rw [hi])))
  · rintro i (rfl | hi | ⟨x, hx, hi⟩)
    · exact Or.inl (Or.inl rfl)
    · exact Or.inl (Or.inr (Or.inl hi))
    · rcases insF_mem.1 hx with rfl | hx
      · rcases hi with hi | hi
        · exact Or.inr (by rw [hi, e2]; exact hp)
        · rw [e5] at hi; cases hi
      · exact Or.inl (Or.inr (Or.inr ⟨x, hx, hi⟩))
/-- A disk's map made. -/
theorem Dk.made {w : World} {d : Nat} {rm : Nat} {cl cb : Int} {fs : List Fl} (h : Dk w d none rm cl cb fs) : Dk ((w.alloc (.map #[] 0)).setCell ⟨d, 2, none⟩ (.map (some w.heap.size))) d (some w.heap.size) rm cl cb fs := by
  have e : fs = [] := h.map
  subst e
  have hd : d < w.heap.size := lt_of_heap h.blk
  refine ⟨heap_set (heap_alloc_at h.blk), ?_, (fun f hf => by cases hf), List.Pairwise.nil, List.Pairwise.nil, (fun f hf => by cases hf), h.rom⟩
  exact (World.ownsMap_made w Try.prog 9 RP).setCell (by show w.heap.size ≠ d; omega) _
end Go.Proofs.Ythjbhfhdepepmaa
