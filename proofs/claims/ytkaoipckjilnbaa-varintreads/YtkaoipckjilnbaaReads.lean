/- 'plain' and 'signed' answer true at every text; the world stays as it was. -/
import Derived.Test.YtkaoipckjilnbaaFixed
namespace Go.Proofs.Ytkaoipckjilnbaa
open Go.RowKit
theorem rm_top (s : ByteArray) : rm s 18446744073709551615 = ((rdv s : Int), (rdn s : Int), (rde s : Int)) := by
  have b := rd_bds s
  by_cases h : rde s = 0
  · rw [rm_ok h b.1, h]; rfl
  · rw [rm_bad h]
    obtain ⟨z1, z2⟩ := M.rd_zero (bl s) 0 0 h
    unfold rdv rdn; rw [z1, z2]; rfl
theorem rm_bd (s : ByteArray) (m : Int) (hm : 0 ≤ m) : 0 ≤ (rm s m).1 ∧ (rm s m).1 ≤ m := by
  unfold rm; split
  · split
    · rename_i h; exact ⟨by simp, h⟩
    · exact ⟨by simp, hm⟩
  · exact ⟨by simp, hm⟩
theorem rs_bd (s : ByteArray) (l m : Int) (hl : l ≤ 0) (hm : 0 ≤ m) : l ≤ (rs s l m).1 ∧ (rs s l m).1 ≤ m := by
  unfold rs; split
  · split
    · rename_i h; exact h
    · exact ⟨hl, hm⟩
  · exact ⟨hl, hm⟩
set_option maxHeartbeats 2000000 in
set_option maxRecDepth 20000 in
theorem plain_any (s : ByteArray) (w : World) (hs : s.size ≤ 9223372036854775807) :
    Calls Try.prog 10 #[.string s] w fun e w' => e = .returned (.bool true) ∧ w' = w := by
  have t := rm_top s
  have b8 := rm_bd s 255 (by omega)
  have b16 := rm_bd s 65535 (by omega)
  have b32 := rm_bd s 4294967295 (by omega)
  obtain ⟨b1, b2, b3⟩ := rd_bds s
  generalize h8 : rm s 255 = r8 at b8
  generalize h16 : rm s 65535 = r16 at b16
  generalize h32 : rm s 4294967295 = r32 at b32
  obtain ⟨x8, y8, z8⟩ := r8
  obtain ⟨x16, y16, z16⟩ := r16
  obtain ⟨x32, y32, z32⟩ := r32
  simp only at b8 b16 b32
  go_enter Try.func10, Try.ntmps10
  go_wp2_with (first | (go_at_call 36; refine (read_any _ _ hs).mono ?_; rintro e w' ⟨rfl, rfl⟩) | (go_at_call 38; refine (read8_any _ _ hs).mono ?_; rintro e w' ⟨rfl, rfl⟩) | (go_at_call 41; refine (read16_any _ _ hs).mono ?_; rintro e w' ⟨rfl, rfl⟩) | (go_at_call 42; refine (readId_any _ _ hs).mono ?_; rintro e w' ⟨rfl, rfl⟩) | (go_at_call 43; refine (readUint_any _ _ hs).mono ?_; rintro e w' ⟨rfl, rfl⟩) | (go_at_call 39; refine (rread_any _ _ hs).mono ?_; rintro e w' ⟨rfl, rfl⟩) | (go_at_call 40; refine (rmost_any _ _ _ hs).mono ?_; rintro e w' ⟨rfl, rfl⟩))
  go_ret
  exact ⟨rfl, rfl⟩
set_option maxHeartbeats 2000000 in
set_option maxRecDepth 20000 in
theorem signed_any (s : ByteArray) (w : World) (hs : s.size ≤ 9223372036854775807) :
    Calls Try.prog 11 #[.string s] w fun e w' => e = .returned (.bool true) ∧ w' = w := by
  have b8 := rs_bd s (-128) 127 (by omega) (by omega)
  have b16 := rs_bd s (-32768) 32767 (by omega) (by omega)
  have b32 := rs_bd s (-2147483648) 2147483647 (by omega) (by omega)
  have b64 := rs_bd s (-9223372036854775808) 9223372036854775807 (by omega) (by omega)
  generalize h8 : rs s (-128) 127 = r8 at b8
  generalize h16 : rs s (-32768) 32767 = r16 at b16
  generalize h32 : rs s (-2147483648) 2147483647 = r32 at b32
  generalize h64 : rs s (-9223372036854775808) 9223372036854775807 = r64 at b64
  obtain ⟨x8, y8, z8⟩ := r8
  obtain ⟨x16, y16, z16⟩ := r16
  obtain ⟨x32, y32, z32⟩ := r32
  obtain ⟨x64, y64, z64⟩ := r64
  simp only at b8 b16 b32 b64
  go_enter Try.func11, Try.ntmps11
  go_wp2_with (first | (go_at_call 37; refine (sread_any _ _ hs).mono ?_; rintro e w' ⟨rfl, rfl⟩) | (go_at_call 45; refine (sread8_any _ _ hs).mono ?_; rintro e w' ⟨rfl, rfl⟩) | (go_at_call 46; refine (sread16_any _ _ hs).mono ?_; rintro e w' ⟨rfl, rfl⟩) | (go_at_call 47; refine (sread32_any _ _ hs).mono ?_; rintro e w' ⟨rfl, rfl⟩) | (go_at_call 48; refine (sreadInt_any _ _ hs).mono ?_; rintro e w' ⟨rfl, rfl⟩) | (go_at_call 44; refine (rsigned_any _ _ _ _ hs).mono ?_; rintro e w' ⟨rfl, rfl⟩))
  go_ret
  exact ⟨rfl, rfl⟩
end Go.Proofs.Ytkaoipckjilnbaa
