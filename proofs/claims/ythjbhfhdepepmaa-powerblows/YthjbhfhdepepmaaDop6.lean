/- Create. -/
import Derived.Test.YthjbhfhdepepmaaDcr
namespace Go.Proofs.Ythjbhfhdepepmaa
open Go.RowKit
def crE (nm : ByteArray) (V : Vw) : Nat := if 1 ≤ nm.size ∧ nm.size ≤ 255 then (if (vl nm V).isSome then 3 else if 65536 ≤ V.length then 5 else 0) else 3
def crV (nm : ByteArray) (V : Vw) : Vw := if crE nm V = 0 then vins nm V else V
theorem len_dm {w : World} {m : Option Nat} {fs : List Fl} (h : Mp w m fs) (w' : World) (hw : w'.heap = w.heap) (ty : TypeId) : (Builtin.len_ #[103] ty #[.map m]).run Try.prog w' = .ok (.int .i64 fs.length) w' := by
  cases m with
  | none =>
    have e : fs = [] := h
    subst e
    exact Maps.len_nil Try.underMap ty
  | some b =>
    have h' : w'.ownsMap Try.prog 9 RP b fs.length (dm fs) := by
      obtain ⟨es, clock, hb, r⟩ := h
      exact ⟨es, clock, by rw [hw]; exact hb, r⟩
    have := h'.len Try.underMap ty
    rw [this]
    unfold dm
    rw [Maps.size_eq, List.length_map]
set_option maxHeartbeats 1000000 in
set_option maxRecDepth 20000 in
theorem create_no (d : Nat) (m : Option Nat) (rm : Nat) (cl cb : Int) (fs : List Fl) (nm : ByteArray) (hn : nm.size ≤ maxLen) (w : World) (h : Dk w d m rm cl cb fs) (hE : crE nm (vw fs) ≠ 0) :
    Calls Try.prog 28 #[.pointer (some ⟨d, 0, none⟩), .string nm] w fun e w' => e = .returned (.int .i64 (crE nm (vw fs))) ∧ Beh w d m fs rm cl cb (vw fs) w' := by
  have HF := Hid.mk (file_any d m rm cl cb fs nm hn w h)
  have HG := Hid.mk (good_any nm w)
  have HB := Hid.mk (Beh.same h)
  by_cases hg : 1 ≤ nm.size ∧ nm.size ≤ 255
  · rw [show decide (1 ≤ nm.size ∧ nm.size ≤ 255) = true from decide_eq_true hg] at HG
    cases hl : look nm fs with
    | some f =>
      have e0 : crE nm (vw fs) = 3 := by unfold crE; rw [if_pos hg, vl_vw, hl]; rfl
      rw [e0]
      rw [hl] at HF
      simp only [bkOf] at HF
      clear h hl e0 hg hE
      go_enter Try.func28, Try.ntmps28
      go_wp2_with (first | (go_at_call 65; refine HG.out.mono ?_; rintro e w' ⟨rfl, rfl⟩) | (go_at_call 66; refine HF.out.mono ?_; rintro e w' ⟨rfl, rfl⟩))
      go_ret
      exact ⟨rfl, HB.out⟩
    | none =>
      have hm : ¬ fs.length < 65536 := fun hm => hE (by unfold crE; rw [if_pos hg, vl_vw, hl]; simp [vw]; omega)
      have e0 : crE nm (vw fs) = 5 := by unfold crE; rw [if_pos hg, vl_vw, hl]; simp [vw]; omega
      rw [e0]
      rw [hl] at HF
      simp only [bkOf] at HF
      have hL := len_dm h.map w rfl 3
      have c2 := h.c2
      have hd : decide ((fs.length : Int) ≥ 65536) = true := by simp; omega
      have hd2 : (65536 : Int) ≤ fs.length := by omega
      clear h hl e0 hg hE
      go_enter Try.func28, Try.ntmps28
      go_wp2_with (first | (go_at_call 65; refine HG.out.mono ?_; rintro e w' ⟨rfl, rfl⟩) | (go_at_call 66; refine HF.out.mono ?_; rintro e w' ⟨rfl, rfl⟩))
      go_ret
      exact ⟨rfl, HB.out⟩
  · rw [show decide (1 ≤ nm.size ∧ nm.size ≤ 255) = false from decide_eq_false hg] at HG
    have e0 : crE nm (vw fs) = 3 := by unfold crE; rw [if_neg hg]
    rw [e0]
    clear h e0 hg hE HF
    go_enter Try.func28, Try.ntmps28
    go_wp2_with (go_at_call 65; refine HG.out.mono ?_; rintro e w' ⟨rfl, rfl⟩)
    go_ret
    exact ⟨rfl, HB.out⟩
end Go.Proofs.Ythjbhfhdepepmaa
