/- Create, where it makes a file. -/
import Derived.Test.YthjbhfhdepepmaaDop6
namespace Go.Proofs.Ythjbhfhdepepmaa
open Go.RowKit
set_option maxHeartbeats 1000000 in
set_option maxRecDepth 20000 in
theorem create_yes (d : Nat) (b : Nat) (rm : Nat) (cl cb : Int) (fs : List Fl) (nm : ByteArray) (w : World) (h : Dk w d (some b) rm cl cb fs) (hE : crE nm (vw fs) = 0) :
    Calls Try.prog 28 #[.pointer (some ⟨d, 0, none⟩), .string nm] w fun e w' => e = .returned (.int .i64 0) ∧ Beh w d (some b) fs rm cl cb (vins nm (vw fs)) w' := by
  have hg : 1 ≤ nm.size ∧ nm.size ≤ 255 := Classical.byContradiction fun hg => by unfold crE at hE; rw [if_neg hg] at hE; cases hE
  have hn : nm.size ≤ maxLen := by unfold maxLen; omega
  have hl : look nm fs = none := by
    unfold crE at hE
    rw [if_pos hg, vl_vw] at hE
    cases hl : look nm fs with
    | none => rfl
    | some f => rw [hl] at hE; cases hE
  have hm : fs.length < 65536 := Classical.byContradiction fun hm => by
    unfold crE at hE
    rw [if_pos hg, vl_vw, hl] at hE
    simp [vw] at hE
    omega
  have HF := Hid.mk (file_any d (some b) rm cl cb fs nm hn w h)
  have HG := Hid.mk (good_any nm w)
  rw [show decide (1 ≤ nm.size ∧ nm.size ≤ 255) = true from decide_eq_true hg] at HG
  rw [hl] at HF
  simp only [bkOf] at HF
  have hL := len_dm h.map w rfl 3
  have c2 := h.c2
  have hd : decide ((65536 : Int) ≤ fs.length) = false := by simp; omega
  have hkey := keyS hn
  have hd2 : ∀ w1, Ch (fun _ => False) w w1 → w1.cell? ⟨d, 2, none⟩ = some (.map (some b)) := fun w1 hc => (cell_of ((hc.block d (lt_of_heap h.blk) (fun e => e)).trans h.blk)).trans rfl
  have hup : ∀ w1 p, Ch (fun _ => False) w w1 → w.heap.size ≤ p → w1.heap[p]? = some (.cells #[.slice none 0 0, .int .i64 0] 109 (0, 0)) → ∃ w4, (Instr.mapUpdate 103 (.map (some b)) (.string nm) (.pointer (some ⟨p, 0, none⟩))).run Try.prog w1 = .ok () w4 ∧ w4.cell? ⟨d, 2, none⟩ = some (.map (some b)) ∧ Beh w d (some b) fs rm cl cb (vins nm (vw fs)) w4 := by
    intro w1 p hc hp hb
    have hm1 : w1.ownsMap Try.prog 9 RP b fs.length (dm fs) := map_ch (m := some b) h.map hc (fun _ _ e => e)
    obtain ⟨w4, hr, ho, hg4⟩ := hm1.update klaw Try.underMap (by unfold maxLen; omega) hkey (RP_some p)
    have hc4 : Ch (fun i => i = b) w1 w4 := ⟨hg4.os, hg4.tape, hg4.output, hg4.size, fun k hk hs => hg4.block k hk (fun e => hs (by injection e))⟩
    exact ⟨w4, hr, (cell_of ((hc4.block d (Nat.lt_of_lt_of_le (lt_of_heap h.blk) hc.size) (fun e => h.m_cells rfl h.blk e.symm)).trans ((hc.block d (lt_of_heap h.blk) (fun e => e)).trans h.blk))).trans rfl, h.ins hl hn ((hc.mono (fun _ _ e => e.elim)).trans hc4) hp ((hc4.block p (lt_of_heap hb) (fun e => by
      obtain ⟨es, clock, hbb, _⟩ := hm1
      rw [← e, hb] at hbb
      injection hbb with hbb
      cases hbb)).trans hb) ho⟩
  have HC1 : Hid (Calls Try.prog 67 #[.string nm] w.drew fun e w1 => e = .returned (.string nm) ∧ w1.cell? ⟨d, 2, none⟩ = some (.map (some b)) ∧ ∃ w4, (Instr.mapUpdate 103 (.map (some b)) (.string nm) (.pointer (some ⟨w1.heap.size, 0, none⟩))).run Try.prog (w1.alloc (.cells #[.slice none 0 0, .int .i64 0] 109)) = .ok () w4 ∧ w4.cell? ⟨d, 2, none⟩ = some (.map (some b)) ∧ Beh w d (some b) fs rm cl cb (vins nm (vw fs)) w4) := by
    refine (clone_any nm w.drew (by omega)).mono ?_
    rintro e w1 ⟨he, hb⟩
    have hc : Ch (fun _ => False) w w1 := (Ch.refl _ w).drew.trans (Ch.of_below hb)
    exact ⟨he, hd2 w1 hc, hup _ _ (hc.alloc _) hc.size (heap_new _ _)⟩
  have HC2 : Hid (Calls Try.prog 67 #[.string nm] (w.alloc (.cells #[.slice none 0 0, .int .i64 0] 109)).drew fun e w1 => e = .returned (.string nm) ∧ w1.cell? ⟨d, 2, none⟩ = some (.map (some b)) ∧ ∃ w4, (Instr.mapUpdate 103 (.map (some b)) (.string nm) (.pointer (some ⟨w.heap.size, 0, none⟩))).run Try.prog w1 = .ok () w4 ∧ w4.cell? ⟨d, 2, none⟩ = some (.map (some b)) ∧ Beh w d (some b) fs rm cl cb (vins nm (vw fs)) w4) := by
    refine (clone_any nm _ (by omega)).mono ?_
    rintro e w1 ⟨he, hb⟩
    have hc0 : Ch (fun _ => False) w (w.alloc (.cells #[.slice none 0 0, .int .i64 0] 109)).drew := ((Ch.refl _ w).alloc _).drew
    have hc : Ch (fun _ => False) w w1 := hc0.trans (Ch.of_below hb)
    exact ⟨he, hd2 w1 hc, hup _ _ hc (Nat.le_refl _) ((hb.block _ (by show w.heap.size < (w.alloc _).heap.size; simp)).trans (heap_new _ _))⟩
  have hq := run_eql_map_nil (P := Try.prog) w 103 9 101 (some b) Try.underMap
  simp only [Option.isNone_some] at hq
  clear h hE hl hm hg hn hkey hd2 hup
  go_enter Try.func28, Try.ntmps28
  go_wp2_with (first | (go_at_call 65; refine HG.out.mono ?_; rintro e w' ⟨rfl, rfl⟩) | (go_at_call 66; refine HF.out.mono ?_; rintro e w' ⟨rfl, rfl⟩))
  go_region_held3 (fun x => x.cell? ⟨d, 2, none⟩ = some (.map (some b))) ((first | assumption | go_keep)) ((go_at_call 67; (first | with_reducible refine HC1.out.mono ?_ | with_reducible refine HC2.out.mono ?_); rintro e w1 ⟨rfl, q1, w4, q2, q4, q3⟩; have HQ := Hid.mk q3; clear q3))
  all_goals
    go_wp2
    go_ret
    exact ⟨rfl, HQ.out⟩
end Go.Proofs.Ythjbhfhdepepmaa
