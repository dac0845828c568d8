/- RecordCanon's walk: what is read, written again, is the bytes that it was read from. -/
import Derived.Test.YtoohmbkgdmmghaaFm5
namespace Go.Proofs.Ytoohmbkgdmmghaa
open Go.RowKit
theorem cl_le {h : Bool} {d : ByteArray} (hc : Cl h d) : d.size ≤ (ol h d).length := by
  cases h with
  | false => rw [hc rfl]; exact Nat.zero_le _
  | true => exact (ol_ge true d).2 rfl
theorem hl_mem {hs : List Hdr} {x : Hdr} (h : x ∈ hs) : (hl1 x).length ≤ (hl hs).length := by
  induction hs with
  | nil => cases h
  | cons y l ih =>
    have e : hl (y :: l) = hl1 y ++ hl l := by simp [hl]
    rw [e, List.length_append]
    rcases List.mem_cons.1 h with rfl | h
    · omega
    · have := ih h; omega
theorem fm_len (d : Int) (n : Nat) (r : Rec) : (ol r.kh r.kd).length + (ol r.vh r.vd).length + (hl r.hs).length + 5 ≤ (fm d n r).length ∧ 7 ≤ (fm d n r).length := by
  have h1 := M.form_pos (M.zz d).toNat
  have h2 := M.form_pos n
  have h3 := M.form_pos r.hs.length
  have h4 := M.form_pos (own d n r).length
  have h5 := (ol_ge r.kh r.kd).1
  have h6 := (ol_ge r.vh r.vd).1
  have e : (fm d n r).length = (M.form (own d n r).length).length + (own d n r).length := by unfold fm; rw [List.length_append]
  have e2 : (own d n r).length = 1 + ((M.form (M.zz d).toNat).length + ((M.form n).length + ((ol r.kh r.kd).length + ((ol r.vh r.vd).length + ((M.form r.hs.length).length + (hl r.hs).length))))) := by
    simp only [own, List.length_append, List.length_cons, List.length_nil]
  omega
theorem good_mod {first : Int} {n : Nat} {r : Rec} (h : Good first r) (hl' : (fm (r.t - first) n r).length ≤ 16777216) : Mod r := by
  obtain ⟨_, _, h3, h4, h5, h6⟩ := h
  have hf := (fm_len (r.t - first) n r).1
  have a := cl_le h3
  have b := cl_le h4
  refine ⟨by omega, by omega, fun x hx => ?_, by omega, by omega⟩
  have c := cl_le (h6 x hx)
  have d := hl_mem hx
  unfold hl1 at d
  rw [List.length_append] at d
  omega
theorem canon5 {s : ByteArray} {first : Int} {N : Nat} {y : Rec} {ky : Nat} (hs : s.size ≤ 9223372036854775807) (hN : N < 65536) (h : nxt s 0 first N = .ok (y, ky)) :
    sze y first N = 0 ∧ szn y first N = ky ∧ bym y first N = s.extract 0 ky ∧ 7 ≤ ky ∧ ky ≤ s.size ∧ Mod y ∧ I64 y.t := by
  obtain ⟨h1, h2, h3, h4⟩ := (nxt_iff hs (Nat.zero_le _) (by omega)).1 h
  rw [Nat.zero_add] at h2
  have e : sze y first N = 0 := by
    unfold sze
    rw [if_neg (by omega), if_neg (by simpa using h3.2.1), if_neg (by have := h3.2.2.2.2.1; omega), Int.toNat_natCast, if_neg (by omega)]
  refine ⟨e, ?_, ?_, ?_, ?_, good_mod h3 h4, h3.1⟩
  · unfold szn; rw [if_pos e, Int.toNat_natCast, h2]
  · unfold bym
    rw [if_pos e, Int.toNat_natCast, h2]
    apply bl_inj
    have hb : ∀ b ∈ fm (y.t - first) N y, b < 256 := fun b hb => by
      have := h1.2
      rw [← this] at hb
      exact bl_byte s b (List.mem_of_mem_drop (List.mem_of_mem_take hb))
    rw [bl_bs _ hb, bl_ext, Nat.sub_zero]
    exact h1.2.symm
  · rw [h2]; exact (fm_len _ _ _).2
  · have := h1.1; omega
set_option maxHeartbeats 1000000 in
set_option maxRecDepth 20000 in
theorem same_none (w : World) : Calls Try.prog 11 #[noRec, noRec] w fun e w' => e = .returned (.bool true) ∧ Below w.heap.size w w' := by
  unfold noRec
  go_enter Try.func11, Try.ntmps11
  go_wp2_with fail
  go_loopg [37] 0 (fun _ i wr => i = .int .i64 0 ∧ Below w.heap.size w wr)
  case atStart => exact ⟨rfl, ((Below.refl _ w).alloc (Nat.le_refl _) _).alloc (by simp) _⟩
  case round =>
    obtain ⟨rfl, hb⟩ := hrel
    go_wp2_with fail
    go_ret
    exact ⟨rfl, hb⟩
end Go.Proofs.Ytoohmbkgdmmghaa
