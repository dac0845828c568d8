/- RecordCanon's walk: what is read, written again, is the bytes that it was read from. -/
import Derived.Test.YtafogjilheniiaaFm5
namespace Go.Proofs.Ytafogjilheniiaa
open Go.RowKit
theorem cl_le {h : Bool} {d : ByteArray} (hc : Cl h d) : d.size ≤ (ol h d).length := by
  cases h with
  | false => rw [hc rfl]; exact Nat.zero_le _
  | true => exact (ol_ge true d).2 rfl
theorem hl_mem {hs : List Hdr} {x : Hdr} (h : x ∈ hs) : (hl1 x).length ≤ (hl hs).length := by
  induction hs with
  | nil => cases h
  | cons y l ih =>
    have e : hl (y :: l) = hl1 y ++ hl l := by simp [hl]
    rw [e, List.length_append]
    rcases List.mem_cons.1 h with rfl | h
    · omega
    · have := ih h; omega
theorem fm_len (d : Int) (n : Nat) (r : Rec) : (ol r.kh r.kd).length + (ol r.vh r.vd).length + (hl r.hs).length + 5 ≤ (fm d n r).length ∧ 7 ≤ (fm d n r).length := by
  have h1 := M.form_pos (M.zz d).toNat
  have h2 := M.form_pos n
  have h3 := M.form_pos r.hs.length
  have h4 := M.form_pos (own d n r).length
  have h5 := (ol_ge r.kh r.kd).1
  have h6 := (ol_ge r.vh r.vd).1
  have e : (fm d n r).length = (M.form (own d n r).length).length + (own d n r).length := by unfold fm; rw [List.length_append]
  have e2 : (own d n r).length = 1 + ((M.form (M.zz d).toNat).length + ((M.form n).length + ((ol r.kh r.kd).length + ((ol r.vh r.vd).length + ((M.form r.hs.length).length + (hl r.hs).length))))) := by
    simp only [own, List.length_append, List.length_cons, List.length_nil]
  omega
theorem good_mod {first : Int} {n : Nat} {r : Rec} (h : Good first r) (hl' : (fm (r.t - first) n r).length ≤ 16777216) : Mod r := by
  obtain ⟨_, _, h3, h4, h5, h6⟩ := h
  have hf := (fm_len (r.t - first) n r).1
  have a := cl_le h3
  have b := cl_le h4
  refine ⟨by omega, by omega, fun x hx => ?_, by omega, by omega⟩
  have c := cl_le (h6 x hx)
  have d := hl_mem hx
  unfold hl1 at d
  rw [List.length_append] at d
  omega
theorem canon5 {s : ByteArray} {first : Int} {N : Nat} {y : Rec} {ky : Nat} (hs : s.size ≤ 9223372036854775807) (hN : N < 65536) (h : nxt s 0 first N = .ok (y, ky)) :
    sze y first N = 0 ∧ szn y first N = ky ∧ bym y first N = s.extract 0 ky ∧ 7 ≤ ky ∧ ky ≤ s.size ∧ Mod y ∧ I64 y.t := by
  obtain ⟨h1, h2, h3, h4⟩ := (nxt_iff hs (Nat.zero_le _) (by omega)).1 h
  rw [Nat.zero_add] at h2
  have e : sze y first N = 0 := by
    unfold sze
    rw [if_neg (by omega), if_neg (by simpa using h3.2.1), if_neg (by have := h3.2.2.2.2.1; omega), Int.toNat_natCast, if_neg (by omega)]
  refine ⟨e, ?_, ?_, ?_, ?_, good_mod h3 h4, h3.1⟩
  · unfold szn; rw [if_pos e, Int.toNat_natCast, h2]
  · unfold bym
    rw [if_pos e, Int.toNat_natCast, h2]
    apply bl_inj
    have hb : ∀ b ∈ fm (y.t - first) N y, b < 256 := fun b hb => by
      have := h1.2
      rw [← this] at hb
      exact bl_byte s b (List.mem_of_mem_drop (List.mem_of_mem_take hb))
    rw [bl_bs _ hb, bl_ext, Nat.sub_zero]
    exact h1.2.symm
  · rw [h2]; exact (fm_len _ _ _).2
  · have := h1.1; omega
set_option maxHeartbeats 1000000 in
set_option maxRecDepth 20000 in
theorem same_none (w : World) : Calls Try.prog 16 #[noRec, noRec] w fun e w' => e = .returned (.bool true) ∧ Below w.heap.size w w' := by
  unfold noRec
  go_enter Try.func16, Try.ntmps16
  go_wp2_with fail
  go_loopg [37] 0 (fun _ i wr => i = .int .i64 0 ∧ Below w.heap.size w wr)
  case atStart => exact ⟨rfl, ((Below.refl _ w).alloc (Nat.le_refl _) _).alloc (by simp) _⟩
  case round =>
    obtain ⟨rfl, hb⟩ := hrel
    go_wp2_with fail
    go_ret
    exact ⟨rfl, hb⟩
set_option maxHeartbeats 1000000 in
set_option maxRecDepth 20000 in
theorem canon_walk (s : ByteArray) (first n : Int) (w : World) (hs : s.size ≤ 9223372036854775807) (f1 : -9223372036854775808 ≤ first) (f2 : first ≤ 9223372036854775807) (_n1 : -9223372036854775808 ≤ n) (_n2 : n ≤ 9223372036854775807) :
    Calls Try.prog 6 #[.string s, .int .i64 first, .int .i64 n] w fun e w' => e = .returned (.bool true) ∧ Below w.heap.size w w' := by
  have CF := hid (forms_any w)
  have CR := hid (fun x => read5_any s first n x hs ⟨f1, f2⟩)
  cases hx : rd5 s first n with
  | error x =>
    rw [hx] at CR
    have HS := hid hs
    clear hs f1 f2 _n1 _n2 hx
    go_enter Try.func6, Try.ntmps6
    go_wp2_with fail
    refine CF.out.mono ?_
    rintro e w1 ⟨rfl, hb1⟩
    go_wp2_with fail
    refine (CR.out _).mono ?_
    rintro e w2 ⟨hb2, rfl, hx0⟩
    have hne : ((x : Int) != 0) = true := by rw [bne_iff_ne]; omega
    have HB2 := hid (bel_next hb1 (Nat.le_refl _) hb2)
    clear hb1 hb2 hx0
    unfold noRec
    go_wp2_with fail
    refine (same_none _).mono ?_
    rintro e w3 ⟨rfl, hb3⟩
    have HB3 := hid (bel_next (HB2.out.alloc HB2.out.size _) (Nat.le_refl _) hb3)
    clear hb3
    go_wp2_with fail
    go_ret
    exact ⟨rfl, HB3.out⟩
  | ok y =>
    obtain ⟨y, ky⟩ := y
    have hn : 0 ≤ n ∧ n < 65536 := by
      apply Classical.byContradiction
      intro h
      unfold rd5 at hx
      rw [if_pos h] at hx
      cases hx
    obtain ⟨N, rfl⟩ : ∃ N : Nat, n = (N : Int) := ⟨n.toNat, by omega⟩
    rw [hx] at CR
    have hx2 : nxt s 0 first N = .ok (y, ky) := by
      unfold rd5 at hx
      rw [if_neg (by simpa using hn), Int.toNat_natCast] at hx
      exact hx
    obtain ⟨q1, q2, q3, q4, q5, q6, q7⟩ := canon5 hs (by omega) hx2
    have CB := hid (fun x a cap V => bytes5_any y a cap first N x V q7 ⟨f1, f2⟩ q6)
    have CS := hid (fun x a cap V => size5_any y a cap first N x V q7 ⟨f1, f2⟩ q6)
    rw [q1, q3] at CB
    rw [q1, q2] at CS
    clear q1 q2 q3 q6 q7 hx hx2 f1 f2 _n1 _n2 hn
    obtain ⟨xt, xkh, xkd, xvh, xvd, xhs⟩ := y
    have hk1 : ¬ (ky : Int) < 7 := by omega
    have hk2 : ¬ (s.size : Int) < ky := by omega
    have hk3 : ¬ s.size < ky := by omega
    have HS := hid hs
    clear hs
    go_enter Try.func6, Try.ntmps6
    go_wp2_with fail
    refine CF.out.mono ?_
    rintro e w1 ⟨rfl, hb1⟩
    go_wp2_with fail
    refine (CR.out _).mono ?_
    rintro e w2 ⟨hb2, a, cap, rfl, ho⟩
    obtain ⟨a', cap', he, _, V⟩ := ho.slice
    injection he with he1 _ he2
    subst he1 he2
    have HB2 := hid (bel_next hb1 (Nat.le_refl _) hb2)
    clear hb1 hb2 ho
    simp only [recV] at *
    go_wp2_with fail
    have V3 : Hds (w2.alloc (.cells #[.int .i64 xt, .bool xkh, .string xkd, .bool xvh, .string xvd, .slice a xhs.length cap] 26)) a xhs := V.below ((Below.refl _ _).alloc (Nat.le_refl _) _)
    have G3 : (w2.alloc (.cells #[.int .i64 xt, .bool xkh, .string xkd, .bool xvh, .string xvd, .slice a xhs.length cap] 26)).heap[w2.heap.size]? = some (.cells #[.int .i64 xt, .bool xkh, .string xkd, .bool xvh, .string xvd, .slice a xhs.length cap] 26 (0, 0)) := heap_new _ _
    have HB3 := hid (HB2.out.alloc HB2.out.size (.cells #[.int .i64 xt, .bool xkh, .string xkd, .bool xvh, .string xvd, .slice a xhs.length cap] 26))
    generalize w2.alloc (.cells #[.int .i64 xt, .bool xkh, .string xkd, .bool xvh, .string xvd, .slice a xhs.length cap] 26) = w3 at *
    refine (CB.out _ _ _ V3).mono ?_
    rintro e w4 ⟨rfl, hb4⟩
    have G4 := (hb4.block _ (lt_of_heap G3)).trans G3
    have V4 := V3.below hb4
    have HB4 := hid (bel_next HB3.out (Nat.le_refl _) hb4)
    obtain ⟨c0, c1, c2, c3, c4, c5⟩ := cells6 G4
    clear hb4 G3 G4 V V3
    go_wp2_with fail
    refine (CS.out _ _ _ V4).mono ?_
    rintro e w5 ⟨rfl, hb5⟩
    have HB5 := hid (bel_next HB4.out (Nat.le_refl _) hb5)
    clear hb5 V4
    go_wp2_with fail
    go_ret
    exact ⟨rfl, HB5.out⟩
end Go.Proofs.Ytafogjilheniiaa
