/- Remove. -/
import Derived.Test.YthjbhfhdepepmaaDop
namespace Go.Proofs.Ythjbhfhdepepmaa
open Go.RowKit
def rmV (nm : ByteArray) (V : Vw) : Vw := vdel nm V
theorem vdel_no {nm : ByteArray} {V : Vw} (h : vl nm V = none) : vdel nm V = V := by
  unfold vdel
  refine List.filter_eq_self.2 (fun y hy => ?_)
  unfold vl at h
  rw [Option.map_eq_none_iff] at h
  have := List.find?_eq_none.1 h y hy
  simpa using this
theorem fil_mid {nm : ByteArray} {l r : List Fl} {f : Fl} (hl : ∀ x ∈ l, x.nm ≠ nm) (hr : ∀ x ∈ r, x.nm ≠ nm) (hf : f.nm = nm) : vdel nm (vw (l ++ f :: r)) = vw (l ++ r) := by
  unfold vdel vw
  rw [List.map_append, List.map_cons, List.filter_append, List.filter_cons, List.map_append]
  simp only [hf, ne_eq, not_true_eq_false, decide_false, Bool.false_eq_true, if_false]
  congr 1
  · refine List.filter_eq_self.2 (fun y hy => ?_)
    obtain ⟨x, hx, rfl⟩ := List.mem_map.1 hy
    simpa using hl x hx
  · refine List.filter_eq_self.2 (fun y hy => ?_)
    obtain ⟨x, hx, rfl⟩ := List.mem_map.1 hy
    simpa using hr x hx
theorem dm_del {nm : ByteArray} {l r : List Fl} {f : Fl} (hl : ∀ x ∈ l, x.nm ≠ nm) (hr : ∀ x ∈ r, x.nm ≠ nm) (hf : f.nm = nm) : (dm (l ++ f :: r)).del (.string nm.data.toList) = dm (l ++ r) := by
  unfold dm
  rw [DataW.del_eq]
  unfold ChangeMaps.delKey
  rw [List.map_append, List.map_cons, List.filter_append, List.filter_cons, List.map_append]
  have e0 : ChangeMaps.notKey (.string nm.data.toList) (ent f) = false := by unfold ChangeMaps.notKey; rw [same_nm]; simp [hf]
  have e1 : ∀ x, x.nm ≠ nm → ChangeMaps.notKey (.string nm.data.toList) (ent x) = true := fun x hx => by unfold ChangeMaps.notKey; rw [same_nm]; simp [hx]
  rw [e0]
  simp only [Bool.false_eq_true, if_false]
  congr 2
  · refine List.filter_eq_self.2 (fun y hy => ?_)
    obtain ⟨x, hx, rfl⟩ := List.mem_map.1 hy
    exact e1 x (hl x hx)
  · refine List.filter_eq_self.2 (fun y hy => ?_)
    obtain ⟨x, hx, rfl⟩ := List.mem_map.1 hy
    exact e1 x (hr x hx)
/-- A map's bound is its number of entries. -/
theorem own_tight {w : World} {b n : Nat} {fs : List Fl} (h : w.ownsMap Try.prog 9 RP b n (dm fs)) : w.ownsMap Try.prog 9 RP b fs.length (dm fs) := by
  obtain ⟨es, clock, hb, F, hs, hD⟩ := h
  refine ⟨es, clock, hb, F, ?_, hD⟩
  unfold dm at hD
  injection hD with hD
  have := congrArg List.length hD
  rw [length_sorted, List.length_map, List.length_map] at this
  simp at this
  omega
set_option maxHeartbeats 1000000 in
set_option maxRecDepth 20000 in
theorem remove_any (d : Nat) (m : Option Nat) (rm : Nat) (cl cb : Int) (fs : List Fl) (nm : ByteArray) (hn : nm.size ≤ maxLen) (w : World) (h : Dk w d m rm cl cb fs) :
    Calls Try.prog 77 #[.pointer (some ⟨d, 0, none⟩), .string nm] w fun e w' => e = .returned (.int .i64 (noE (vl nm (vw fs)))) ∧ Beh w d m fs rm cl cb (vdel nm (vw fs)) w' := by
  have HF := Hid.mk (file_any d m rm cl cb fs nm hn w h)
  have HB := Hid.mk (Beh.same h)
  cases hl : look nm fs with
  | none =>
    have e0 : vl nm (vw fs) = none := by rw [vl_vw, hl]; rfl
    rw [vdel_no e0, e0]
    rw [hl] at HF
    simp only [bkOf] at HF
    clear h hl e0
    go_enter Try.func77, Try.ntmps77
    go_wp2_with (go_at_call 66; refine HF.out.mono ?_; rintro e w' ⟨rfl, rfl⟩)
    go_ret
    exact ⟨rfl, HB.out⟩
  | some f =>
    have e0 : vl nm (vw fs) = some (f.da, f.sy) := by rw [vl_vw, hl]; rfl
    rw [e0]
    rw [hl] at HF
    simp only [bkOf] at HF
    obtain ⟨hfm, hfn⟩ := look_mem hl
    have hF := h.fil f hfm
    have hrm := h.rom
    obtain ⟨b, rfl⟩ : ∃ b, m = some b := by
      cases m with
      | none => have := h.map; unfold Mp at this; subst this; cases hfm
      | some b => exact ⟨b, rfl⟩
    have hle : f.da.length ≤ tot fs := by
      obtain ⟨l, r, rfl, _⟩ := find_mid hl
      rw [tot_mid]; omega
    have ew2 : IntKind.i64.wrap ((tot fs : Int) - (f.da.length : Int)) = (tot fs : Int) - (f.da.length : Int) := by simp only [IntKind.wrap, IntKind.bits, IntKind.signed, Bool.true_and]; split <;> rename_i h <;> simp at h <;> omega
    obtain ⟨wc, hwc⟩ : ∃ wc, wc = w.setCell ⟨d, 1, none⟩ (.int .i64 ((tot fs : Int) - (f.da.length : Int))) := ⟨_, rfl⟩
    have hc0 : Ch (fun i => i = d) w wc := by rw [hwc]; exact (Ch.refl (fun i => i = d) w).setCell _ _ (fun _ => rfl)
    have hdc : wc.heap[d]? = some (.cells #[.int .i64 rm, .int .i64 ((tot fs : Int) - (f.da.length : Int)), .map (some b), .int .i64 cl, .int .i64 cb] 107 (0, 0)) := by rw [hwc]; exact heap_set h.blk
    have hmc : wc.ownsMap Try.prog 9 RP b fs.length (dm fs) := map_ch (m := some b) h.map hc0 (fun i hi e => h.m_cells hi h.blk e)
    obtain ⟨wd, hdr, hod, htd⟩ := (show wc.drew.ownsMap Try.prog 9 RP b fs.length (dm fs) from hmc).drop klaw Try.underMap (keyS hn) 0
    have hB : Beh w d (some b) fs rm cl cb (vdel nm (vw fs)) wd := by
      obtain ⟨l, r, rfl, hll, hfn⟩ := find_mid hl
      have hp := nms_ne h.nms
      have hrr : ∀ x ∈ r, x.nm ≠ nm := fun x hx e => by
        have := (List.pairwise_cons.1 (List.pairwise_append.1 hp).2.1).1 x hx
        exact this (by rw [hfn, e])
      have hsub : ∀ x, x ∈ l ++ r → x ∈ l ++ f :: r := fun x hx => by rcases List.mem_append.1 hx with hx | hx <;> simp [hx]
      have hsl : (l ++ r).Sublist (l ++ f :: r) := List.Sublist.append (List.Sublist.refl l) (List.sublist_cons_self f r)
      have hgr := htd.grown
      have hcd : Ch (fun i => i = b) wc wd := ⟨hgr.os, hgr.tape, hgr.output, hgr.size, fun k hk hs => hgr.block k hk (fun e => hs (by injection e))⟩
      have hca : Ch (fun i => i = d ∨ i = b) w wd := (hc0.mono (fun i _ hi => Or.inl hi)).then hcd (fun i _ hi => Or.inr hi)
      rw [dm_del hll hrr hfn] at hod
      refine ⟨some b, l ++ r, ⟨?_, own_tight hod, ?_, h.apt.sublist hsl, h.nms.sublist hsl, fun x hx => h.lng x (hsub x hx), ?_⟩, (fil_mid hll hrr hfn).symm, ?_, ?_⟩
      · have e : ((tot (l ++ r) : Nat) : Int) = ((tot (l ++ f :: r) : Nat) : Int) - f.da.length := by rw [tot_mid]; unfold tot; simp; omega
        rw [e]
        exact (hcd.block d (lt_of_heap hdc) (fun e => h.m_cells rfl h.blk e.symm)).trans hdc
      · intro x hx
        have hxm := hsub x hx
        refine (h.fil x hxm).ch hca ?_ ?_
        · rintro (e | e)
          · exact h.d_bk hxm e
          · exact h.m_cells rfl (h.fil x hxm).1 e.symm
        · rintro i hi (e | e)
          · exact h.d_row hxm hi e
          · obtain ⟨cur, hcu⟩ := row_at (h.fil x hxm).2 hi
            exact h.m_cells rfl hcu e.symm
      · have e : tot (l ++ r) ≤ tot (l ++ f :: r) := by rw [tot_mid]; unfold tot; simp
        exact ⟨by omega, hrm.2⟩
      · refine hca.mono (fun i _ hi => ?_)
        rcases hi with rfl | rfl
        · exact Or.inl rfl
        · exact Or.inr (Or.inl rfl)
      · rintro i (rfl | hi | ⟨x, hx, hi⟩)
        · exact Or.inl (Or.inl rfl)
        · exact Or.inl (Or.inr (Or.inl hi))
        · exact Or.inl (Or.inr (Or.inr ⟨x, hsub x hx, hi⟩))
    have HB2 := Hid.mk hB
    have HS : Hid (FA w.drew f) := hF
    have c1 := h.c1
    have c2 := h.c2
    have f1 := h.fz 1
    rw [hwc] at hdr
    have d2 : (w.setCell ⟨d, 1, none⟩ (.int .i64 ((tot fs : Int) - (f.da.length : Int)))).cell? ⟨d, 2, none⟩ = some (.map (some b)) := by rw [← hwc]; exact (cell_of hdc).trans rfl
    clear h hl hF hrm hfm hfn HB hle hwc hc0 hdc hmc hod htd hB e0
    generalize tot fs = T at *
    go_enter Try.func77, Try.ntmps77
    go_wp2_with (go_at_call 66; refine HF.out.mono ?_; rintro e w' ⟨rfl, rfl⟩)
    go_region_with (go_at_call 70; refine (fsize_any f _ HS.out).mono ?_; rintro e w' ⟨rfl, rfl⟩)
    all_goals
      go_wp2
      go_ret
      exact ⟨rfl, HB2.out⟩
end Go.Proofs.Ythjbhfhdepepmaa
