/- Create, where it makes a disk's first file. -/
import Derived.Test.YthjbhfhdepepmaaDop7
import Derived.Carry
namespace Go.Proofs.Ythjbhfhdepepmaa
open Go.RowKit
theorem Beh.after {w w2 w' : World} {d : Nat} {m m2 : Option Nat} {rm : Nat} {cl cb : Int} {fs fs2 : List Fl} {V : Vw} (h0 : Ch (Ft d m fs) w w2) (hf : ∀ i, Ft d m2 fs2 i → Ft d m fs i ∨ w.heap.size ≤ i) (hb : Beh w2 d m2 fs2 rm cl cb V w') : Beh w d m fs rm cl cb V w' := by
  obtain ⟨m', fs', h1, h2, h3, h4⟩ := hb
  refine ⟨m', fs', h1, h2, h0.then h3 (fun i hi hT => ?_), fun i hi => ?_⟩
  · rcases hf i hT with k | k
    · exact k
    · omega
  · rcases h4 i hi with k | k
    · exact hf i k
    · have := h0.size
      exact Or.inr (by omega)
set_option maxHeartbeats 1000000 in
set_option maxRecDepth 20000 in
theorem create_first (d : Nat) (rm : Nat) (cl cb : Int) (fs : List Fl) (nm : ByteArray) (w : World) (h0 : Dk w d none rm cl cb fs) (hE : crE nm (vw fs) = 0) :
    Calls Try.prog 28 #[.pointer (some ⟨d, 0, none⟩), .string nm] w fun e w' => e = .returned (.int .i64 0) ∧ Beh w d none fs rm cl cb (vins nm (vw fs)) w' := by
  have hg : 1 ≤ nm.size ∧ nm.size ≤ 255 := Classical.byContradiction fun hg => by unfold crE at hE; rw [if_neg hg] at hE; cases hE
  have hn : nm.size ≤ maxLen := by unfold maxLen; omega
  have hl : look nm fs = none := by
    unfold crE at hE
    rw [if_pos hg, vl_vw] at hE
    cases hl : look nm fs with
    | none => rfl
    | some f => rw [hl] at hE; cases hE
  have hm : fs.length < 65536 := Classical.byContradiction fun hm => by
    unfold crE at hE
    rw [if_pos hg, vl_vw, hl] at hE
    simp [vw] at hE
    omega
  have HF := Hid.mk (file_any d none rm cl cb fs nm hn w h0)
  obtain ⟨w2, hw2⟩ : ∃ w2, w2 = (w.alloc (.map #[] 0)).setCell ⟨d, 2, none⟩ (.map (some w.heap.size)) := ⟨_, rfl⟩
  have h : Dk w2 d (some w.heap.size) rm cl cb fs := hw2 ▸ h0.made
  have hc02 : Ch (Ft d none fs) w w2 := by rw [hw2]; exact ((Ch.refl _ w).alloc _).setCell _ _ (fun _ => Or.inl rfl)
  have hs2 : w2.heap.size = w.heap.size + 1 := by rw [hw2]; simp [World.setCell]
  have hft : ∀ i, Ft d (some w.heap.size) fs i → Ft d none fs i ∨ w.heap.size ≤ i := by
    rintro i (rfl | hi | hi)
    · exact Or.inl (Or.inl rfl)
    · injection hi with hi; exact Or.inr (by omega)
    · exact Or.inl (Or.inr (Or.inr hi))
  have HG := Hid.mk (good_any nm w)
  rw [show decide (1 ≤ nm.size ∧ nm.size ≤ 255) = true from decide_eq_true hg] at HG
  rw [hl] at HF
  simp only [bkOf] at HF
  have hL := len_dm h0.map w rfl 3
  have c2 := h0.c2
  have f2 := h0.fz 2
  have hd : decide ((65536 : Int) ≤ fs.length) = false := by simp; omega
  have hkey := keyS hn
  have hd2 : ∀ w1, Ch (fun _ => False) w2 w1 → w1.cell? ⟨d, 2, none⟩ = some (.map (some w.heap.size)) := fun w1 hc => (cell_of ((hc.block d (lt_of_heap h.blk) (fun e => e)).trans h.blk)).trans rfl
  have hup : ∀ w1 p, Ch (fun _ => False) w2 w1 → w2.heap.size ≤ p → w1.heap[p]? = some (.cells #[.slice none 0 0, .int .i64 0] 109 (0, 0)) → ∃ w4, (Instr.mapUpdate 103 (.map (some w.heap.size)) (.string nm) (.pointer (some ⟨p, 0, none⟩))).run Try.prog w1 = .ok () w4 ∧ w4.cell? ⟨d, 2, none⟩ = some (.map (some w.heap.size)) ∧ Beh w d none fs rm cl cb (vins nm (vw fs)) w4 := by
    intro w1 p hc hp hb
    have hm1 : w1.ownsMap Try.prog 9 RP w.heap.size fs.length (dm fs) := map_ch (m := some w.heap.size) h.map hc (fun _ _ e => e)
    obtain ⟨w4, hr, ho, hg4⟩ := hm1.update klaw Try.underMap (by unfold maxLen; omega) hkey (RP_some p)
    have hc4 : Ch (fun i => i = w.heap.size) w1 w4 := ⟨hg4.os, hg4.tape, hg4.output, hg4.size, fun k hk hs => hg4.block k hk (fun e => hs (by injection e))⟩
    exact ⟨w4, hr, (cell_of ((hc4.block d (Nat.lt_of_lt_of_le (lt_of_heap h.blk) hc.size) (fun e => h.m_cells rfl h.blk e.symm)).trans ((hc.block d (lt_of_heap h.blk) (fun e => e)).trans h.blk))).trans rfl, Beh.after hc02 hft (h.ins hl hn ((hc.mono (fun _ _ e => e.elim)).trans hc4) hp ((hc4.block p (lt_of_heap hb) (fun e => by
      obtain ⟨es, clock, hbb, _⟩ := hm1
      rw [← e, hb] at hbb
      injection hbb with hbb
      cases hbb)).trans hb) ho)⟩
  have HC1 : Hid (Calls Try.prog 67 #[.string nm] w2.drew fun e w1 => e = .returned (.string nm) ∧ w1.cell? ⟨d, 2, none⟩ = some (.map (some w.heap.size)) ∧ ∃ w4, (Instr.mapUpdate 103 (.map (some w.heap.size)) (.string nm) (.pointer (some ⟨w1.heap.size, 0, none⟩))).run Try.prog (w1.alloc (.cells #[.slice none 0 0, .int .i64 0] 109)) = .ok () w4 ∧ w4.cell? ⟨d, 2, none⟩ = some (.map (some w.heap.size)) ∧ Beh w d none fs rm cl cb (vins nm (vw fs)) w4) := by
    refine (clone_any nm w2.drew (by omega)).mono ?_
    rintro e w1 ⟨he, hb⟩
    have hc : Ch (fun _ => False) w2 w1 := (Ch.refl _ w2).drew.trans (Ch.of_below hb)
    exact ⟨he, hd2 w1 hc, hup _ _ (hc.alloc _) hc.size (heap_new _ _)⟩
  have HC2 : Hid (Calls Try.prog 67 #[.string nm] (w2.alloc (.cells #[.slice none 0 0, .int .i64 0] 109)).drew fun e w1 => e = .returned (.string nm) ∧ w1.cell? ⟨d, 2, none⟩ = some (.map (some w.heap.size)) ∧ ∃ w4, (Instr.mapUpdate 103 (.map (some w.heap.size)) (.string nm) (.pointer (some ⟨w.heap.size + 1, 0, none⟩))).run Try.prog w1 = .ok () w4 ∧ w4.cell? ⟨d, 2, none⟩ = some (.map (some w.heap.size)) ∧ Beh w d none fs rm cl cb (vins nm (vw fs)) w4) := by
    refine (clone_any nm _ (by omega)).mono ?_
    rintro e w1 ⟨he, hb⟩
    have hc0 : Ch (fun _ => False) w2 (w2.alloc (.cells #[.slice none 0 0, .int .i64 0] 109)).drew := ((Ch.refl _ w2).alloc _).drew
    have hc : Ch (fun _ => False) w2 w1 := hc0.trans (Ch.of_below hb)
    exact ⟨he, hd2 w1 hc, hup _ _ hc (by omega) ((hb.block _ (by show w.heap.size + 1 < (w2.alloc _).heap.size; simp; omega)).trans (by rw [← hs2]; exact heap_new _ _))⟩
  have hq := run_eql_map_nil (P := Try.prog) w 103 9 101 none Try.underMap
  simp only [Option.isNone_none] at hq
  have hmm := @run_makeMap Try.prog
  have gm := heap_alloc_at (o' := .map #[] 0) h0.blk
  have cm2 : (w.alloc (.map #[] 0)).cell? ⟨d, 2, none⟩ = some (.map none) := (cell_of gm).trans rfl
  have fm2 := froz_of (i := 2) gm
  have d2 := h.c2
  rw [hw2] at HC1 HC2 d2
  generalize hH : w.heap.size = H at *
  clear h h0 hE hl hm hg hn hkey hd2 hup hw2 hc02 hs2 hft gm
  go_enter Try.func28, Try.ntmps28
  go_wp2_with (first | (go_at_call 65; refine HG.out.mono ?_; rintro e w' ⟨rfl, rfl⟩) | (go_at_call 66; refine HF.out.mono ?_; rintro e w' ⟨rfl, rfl⟩))
  go_region_held3 (fun x => x.cell? ⟨d, 2, none⟩ = some (.map (some H))) ((first | assumption | go_keep)) ((go_at_call 67; (first | with_reducible refine HC1.out.mono ?_ | with_reducible refine HC2.out.mono ?_); rintro e w1 ⟨rfl, q1, w4, q2, q4, q3⟩; have HQ := Hid.mk q3; clear q3))
  all_goals
    go_wp2
    go_ret
    exact ⟨rfl, HQ.out⟩
theorem create_any (d : Nat) (m : Option Nat) (rm : Nat) (cl cb : Int) (fs : List Fl) (nm : ByteArray) (hn : nm.size ≤ maxLen) (w : World) (h : Dk w d m rm cl cb fs) :
    Calls Try.prog 28 #[.pointer (some ⟨d, 0, none⟩), .string nm] w fun e w' => e = .returned (.int .i64 (crE nm (vw fs))) ∧ Beh w d m fs rm cl cb (crV nm (vw fs)) w' := by
  by_cases hE : crE nm (vw fs) = 0
  · unfold crV
    rw [if_pos hE, hE]
    cases m with
    | none => exact create_first d rm cl cb fs nm w h hE
    | some b => exact create_yes d b rm cl cb fs nm w h hE
  · unfold crV
    rw [if_neg hE]
    exact create_no d m rm cl cb fs nm hn w h hE
end Go.Proofs.Ythjbhfhdepepmaa
