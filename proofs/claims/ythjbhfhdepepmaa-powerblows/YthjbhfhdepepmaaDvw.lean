/- A disk as what is seen of it; a file turned in its place. -/
import Derived.Test.YthjbhfhdepepmaaDfl
namespace Go.Proofs.Ythjbhfhdepepmaa
open Go.RowKit
/-- What is seen of files: names, bytes, how many are safe. -/
abbrev Vw := List (ByteArray × List UInt8 × Nat)
def vw (fs : List Fl) : Vw := fs.map fun f => (f.nm, f.da, f.sy)
def vl (nm : ByteArray) (V : Vw) : Option (List UInt8 × Nat) := (V.find? (fun x => decide (x.1 = nm))).map (fun x => x.2)
def vset (nm : ByteArray) (x : List UInt8 × Nat) (V : Vw) : Vw := V.map (fun y => if y.1 = nm then (nm, x) else y)
def vins (nm : ByteArray) : Vw → Vw
  | [] => [(nm, [], 0)]
  | y :: r => if bytesBefore nm.data.toList y.1.data.toList then (nm, [], 0) :: y :: r else y :: vins nm r
def vdel (nm : ByteArray) (V : Vw) : Vw := V.filter (fun y => decide (y.1 ≠ nm))
def vt (V : Vw) : Nat := (V.map (fun x => x.2.1.length)).sum
theorem vt_vw (fs : List Fl) : vt (vw fs) = tot fs := by unfold vt vw tot; rw [List.map_map]; rfl
theorem vl_vw (nm : ByteArray) (fs : List Fl) : vl nm (vw fs) = (look nm fs).map (fun f => (f.da, f.sy)) := by
  unfold vl vw look
  rw [List.find?_map, Option.map_map]
  rfl
theorem look_of {nm : ByteArray} {fs : List Fl} {x : List UInt8 × Nat} (h : vl nm (vw fs) = some x) : ∃ f, look nm fs = some f ∧ x = (f.da, f.sy) := by
  rw [vl_vw] at h
  cases hf : look nm fs with
  | none => rw [hf] at h; cases h
  | some f => rw [hf] at h; injection h with h; exact ⟨f, rfl, h.symm⟩
theorem look_of_no {nm : ByteArray} {fs : List Fl} (h : vl nm (vw fs) = none) : look nm fs = none := by
  rw [vl_vw] at h
  cases hf : look nm fs with
  | none => rfl
  | some f => rw [hf] at h; cases h
theorem vw_upd {nm : ByteArray} {g : Fl} {fs : List Fl} (hg : g.nm = nm) : vw (upd nm g fs) = vset nm (g.da, g.sy) (vw fs) := by
  unfold vw upd vset
  rw [List.map_map, List.map_map]
  refine List.map_congr_left fun f _ => ?_
  show (fun f : Fl => (f.nm, f.da, f.sy)) (if f.nm = nm then g else f) = (if f.nm = nm then (nm, (g.da, g.sy)) else (f.nm, f.da, f.sy))
  split
  · rw [← hg]
  · rfl
/-- What a call leaves: the disk, as it is seen; only its own blocks have turned; what is its own now was or is new. -/
def Beh (w : World) (d : Nat) (m : Option Nat) (fs : List Fl) (rm : Nat) (cl cb : Int) (V : Vw) (w' : World) : Prop :=
  ∃ m' fs', Dk w' d m' rm cl cb fs' ∧ vw fs' = V ∧ Ch (Ft d m fs) w w' ∧ ∀ i, Ft d m' fs' i → Ft d m fs i ∨ w.heap.size ≤ i
theorem tot_mid (l r : List Fl) (f : Fl) : tot (l ++ f :: r) = tot l + (f.da.length + tot r) := by unfold tot; simp
theorem dm_mid {l r : List Fl} {f g : Fl} (hn : g.nm = f.nm) (hb : g.bk = f.bk) : dm (l ++ g :: r) = dm (l ++ f :: r) := by
  unfold dm
  rw [List.map_append, List.map_append, List.map_cons, List.map_cons]
  have e : ent g = ent f := by unfold ent; rw [hn, hb]
  rw [e]
theorem Dk.put {w w' : World} {d : Nat} {m : Option Nat} {rm : Nat} {cl cb cl' cb' : Int} {fs : List Fl} {nm : ByteArray} {f g : Fl} (h : Dk w d m rm cl cb fs) (hl : look nm fs = some f) (hn : g.nm = f.nm) (hb : g.bk = f.bk) (hg : FA w' g)
    (hc : Ch (fun i => i = d ∨ FS f i) w w') (hr : g.sl.ownBlock = f.sl.ownBlock ∨ ∃ i, g.sl.ownBlock = some i ∧ w.heap.size ≤ i)
    (hd : w'.heap[d]? = some (.cells #[.int .i64 rm, .int .i64 ((tot fs : Int) + g.da.length - f.da.length), .map m, .int .i64 cl', .int .i64 cb'] 107 (0, 0)))
    (hlen : g.da.length ≤ 1073741824 ∧ g.sy ≤ g.da.length) (hrm : tot fs + g.da.length ≤ rm + f.da.length) : Beh w d m fs rm cl' cb' (vset nm (g.da, g.sy) (vw fs)) w' := by
  obtain ⟨l, r, rfl, hll, hfn⟩ := find_mid hl
  have hp := nms_ne h.nms
  have hrr : ∀ x ∈ r, x.nm ≠ nm := fun x hx e => by
    have := (List.pairwise_cons.1 (List.pairwise_append.1 hp).2.1).1 x hx
    exact this (by rw [hfn, e])
  have hfm : f ∈ l ++ f :: r := by simp
  have e1 : upd nm g (l ++ f :: r) = l ++ g :: r := upd_mid hll hrr hfn
  have ht : ((tot (l ++ g :: r) : Nat) : Int) = ((tot (l ++ f :: r) : Nat) : Int) + g.da.length - f.da.length := by rw [tot_mid, tot_mid]; omega
  have hsub : ∀ x, x ∈ l ∨ x ∈ r → x ∈ l ++ f :: r := fun x hx => by simp; rcases hx with hx | hx <;> simp [hx]
  have hap : ∀ x, x ∈ l ∨ x ∈ r → x.bk ≠ f.bk ∧ ∀ i, x.sl.ownBlock = some i → f.sl.ownBlock ≠ some i := by
    intro x hx
    have ha := List.pairwise_append.1 h.apt
    rcases hx with hx | hx
    · obtain ⟨k1, k2⟩ := ha.2.2 x hx f (by simp)
      exact ⟨k1, fun i hi hi' => by rcases k2 with k2 | k2; rw [k2] at hi; cases hi; exact k2 (hi.trans hi'.symm)⟩
    · obtain ⟨k1, k2⟩ := (List.pairwise_cons.1 ha.2.1).1 x hx
      exact ⟨fun e => k1 e.symm, fun i hi hi' => by rcases k2 with k2 | k2; rw [k2] at hi'; cases hi'; exact k2 (hi'.trans hi.symm)⟩
  have hfx : ∀ x, x ∈ l ∨ x ∈ r → FA w' x := by
    intro x hx
    have hxm := hsub x hx
    refine (h.fil x hxm).ch hc ?_ ?_
    · rintro (e | e | e)
      · exact h.d_bk hxm e
      · exact (hap x hx).1 e
      · exact h.bk_row hxm hfm e rfl
    · rintro i hi (e | e | e)
      · exact h.d_row hxm hi e
      · exact h.bk_row hfm hxm hi e
      · exact (hap x hx).2 i hi e
  have hrow : ∀ x, x ∈ l ∨ x ∈ r → ∀ i, x.sl.ownBlock = some i → g.sl.ownBlock ≠ some i := by
    intro x hx i hi e
    rcases hr with k | ⟨j, k1, k2⟩
    · rw [k] at e; exact (hap x hx).2 i hi e
    · rw [k1] at e
      injection e with e
      have := ((h.fil x (hsub x hx)).2.lt i hi).2
      omega
  refine ⟨m, l ++ g :: r, ⟨?_, ?_, ?_, ?_, ?_, ?_, ?_⟩, ?_, ?_, ?_⟩
  · rw [ht]; exact hd
  · have hm : Mp w' m (l ++ f :: r) := map_ch h.map hc (fun i hi => by
      rintro (e | e | e)
      · exact h.m_cells hi h.blk e
      · exact h.m_cells hi (h.fil f hfm).1 e
      · obtain ⟨cur, hcu⟩ := row_at (h.fil f hfm).2 e
        exact h.m_cells hi hcu rfl)
    cases m with
    | none => have : l ++ f :: r = [] := hm; simp at this
    | some b =>
      show w'.ownsMap _ _ _ _ _ _
      rw [dm_mid hn hb]
      have e2 : (l ++ g :: r).length = (l ++ f :: r).length := by simp
      rw [e2]
      exact hm
  · intro x hx
    rcases List.mem_append.1 hx with hx | hx
    · exact hfx x (Or.inl hx)
    · rcases List.mem_cons.1 hx with rfl | hx
      · exact hg
      · exact hfx x (Or.inr hx)
  · have ha := List.pairwise_append.1 h.apt
    have ha2 := List.pairwise_cons.1 ha.2.1
    refine List.pairwise_append.2 ⟨ha.1, List.pairwise_cons.2 ⟨fun x hx => ?_, ha2.2⟩, fun x hx y hy => ?_⟩
    · refine ⟨by rw [hb]; exact (ha2.1 x hx).1, ?_⟩
      cases hs : g.sl.ownBlock with
      | none => exact Or.inl rfl
      | some i => exact Or.inr (fun e => hrow x (Or.inr hx) i e.symm hs)
    · rcases List.mem_cons.1 hy with rfl | hy
      · refine ⟨by rw [hb]; exact (ha.2.2 x hx f (by simp)).1, ?_⟩
        cases hs : x.sl.ownBlock with
        | none => exact Or.inl rfl
        | some i => exact Or.inr (fun e => hrow x (Or.inl hx) i hs e.symm)
      · exact ha.2.2 x hx y (by simp [hy])
  · have ha := List.pairwise_append.1 h.nms
    have ha2 := List.pairwise_cons.1 ha.2.1
    refine List.pairwise_append.2 ⟨ha.1, List.pairwise_cons.2 ⟨fun x hx => ?_, ha2.2⟩, fun x hx y hy => ?_⟩
    · rw [hn]; exact ha2.1 x hx
    · rcases List.mem_cons.1 hy with rfl | hy
      · rw [hn]; exact ha.2.2 x hx f (by simp)
      · exact ha.2.2 x hx y (by simp [hy])
  · intro x hx
    rcases List.mem_append.1 hx with hx | hx
    · exact h.lng x (hsub x (Or.inl hx))
    · rcases List.mem_cons.1 hx with rfl | hx
      · exact ⟨by rw [hn]; exact (h.lng f hfm).1, hlen⟩
      · exact h.lng x (hsub x (Or.inr hx))
  · have := h.rom
    exact ⟨by omega, this.2⟩
  · rw [← e1]; exact vw_upd (hn.trans hfn)
  · refine hc.mono (fun i _ hi => ?_)
    rcases hi with rfl | rfl | hi
    · exact Or.inl rfl
    · exact Or.inr (Or.inr ⟨f, hfm, Or.inl rfl⟩)
    · exact Or.inr (Or.inr ⟨f, hfm, Or.inr hi⟩)
  · rintro i (rfl | hi | ⟨x, hx, hi⟩)
    · exact Or.inl (Or.inl rfl)
    · exact Or.inl (Or.inr (Or.inl hi))
    · rcases List.mem_append.1 hx with hx | hx
      · exact Or.inl (Or.inr (Or.inr ⟨x, hsub x (Or.inl hx), hi⟩))
      · rcases List.mem_cons.1 hx with rfl | hx
        · rcases hi with hi | hi
          · exact Or.inl (Or.inr (Or.inr ⟨f, hfm, Or.inl (hi.trans hb)⟩))
          · rcases hr with k | ⟨j, k1, k2⟩
            · exact Or.inl (Or.inr (Or.inr ⟨f, hfm, Or.inr (k ▸ hi)⟩))
            · rw [k1] at hi; injection hi with hi; exact Or.inr (hi ▸ k2)
        · exact Or.inl (Or.inr (Or.inr ⟨x, hsub x (Or.inr hx), hi⟩))
end Go.Proofs.Ythjbhfhdepepmaa
