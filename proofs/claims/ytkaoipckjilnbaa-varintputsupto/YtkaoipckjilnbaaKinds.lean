/- What Read and ReadSigned answer at each kind of number, and the document's ReadMost and ReadSigned: the same; the world stays as it was. -/
import Derived.Test.YtkaoipckjilnbaaRead
namespace Go.Proofs.Ytkaoipckjilnbaa
open Go.RowKit
/-- Read of the kinds up to 'most'. -/
def rm (s : ByteArray) (most : Int) : Int × Int × Int := if rde s = 0 then (if (rdv s : Int) ≤ most then ((rdv s : Int), (rdn s : Int), (0 : Int)) else (0, 0, 1)) else (0, 0, (rde s : Int))
/-- ReadSigned of the kinds from 'least' to 'most'. -/
def rs (s : ByteArray) (least most : Int) : Int × Int × Int := if rde s = 0 then (if least ≤ M.uz (rdv s) ∧ M.uz (rdv s) ≤ most then (M.uz (rdv s), (rdn s : Int), (0 : Int)) else (0, 0, 1)) else (0, 0, (rde s : Int))
theorem rm_ok {s : ByteArray} {m : Int} (h : rde s = 0) (h2 : (rdv s : Int) ≤ m) : rm s m = ((rdv s : Int), (rdn s : Int), (0 : Int)) := by unfold rm; rw [if_pos h, if_pos h2]
theorem rm_big {s : ByteArray} {m : Int} (h : rde s = 0) (h2 : ¬ (rdv s : Int) ≤ m) : rm s m = (0, 0, 1) := by unfold rm; rw [if_pos h, if_neg h2]
theorem rm_bad {s : ByteArray} {m : Int} (h : ¬ rde s = 0) : rm s m = (0, 0, (rde s : Int)) := by unfold rm; rw [if_neg h]
theorem rs_ok {s : ByteArray} {l m : Int} (h : rde s = 0) (h2 : l ≤ M.uz (rdv s) ∧ M.uz (rdv s) ≤ m) : rs s l m = (M.uz (rdv s), (rdn s : Int), (0 : Int)) := by unfold rs; rw [if_pos h, if_pos h2]
theorem rs_big {s : ByteArray} {l m : Int} (h : rde s = 0) (h2 : ¬ (l ≤ M.uz (rdv s) ∧ M.uz (rdv s) ≤ m)) : rs s l m = (0, 0, 1) := by unfold rs; rw [if_pos h, if_neg h2]
theorem rs_bad {s : ByteArray} {l m : Int} (h : ¬ rde s = 0) : rs s l m = (0, 0, (rde s : Int)) := by unfold rs; rw [if_neg h]
theorem rd_bds (s : ByteArray) : (rdv s : Int) ≤ 18446744073709551615 ∧ rdn s ≤ 10 ∧ rdn s ≤ s.size := by
  obtain ⟨a, b, c⟩ := M.rd_bd (bl s) (bl_byte s)
  rw [bl_len] at c
  unfold rdv rdn
  exact ⟨by omega, b, c⟩
theorem ne_u16 {x : Int} (h : 65535 < x) : (IntKind.u64.wrap (IntKind.u16.wrap x) != x) = true := by
  rw [IntKind.wrap_u64, IntKind.wrap_u16, bne_iff_ne]; omega
theorem ne_i8 {x : Int} (h : x < -128 ∨ 127 < x) : (wrap64 (IntKind.i8.wrap x) != x) = true := by
  have e : -128 ≤ IntKind.i8.wrap x ∧ IntKind.i8.wrap x ≤ 127 := by
    simp only [IntKind.wrap, IntKind.bits, IntKind.signed, Bool.true_and]; split <;> rename_i h <;> simp at h <;> omega
  rw [bne_iff_ne]; simp only [wrap64]; omega
theorem ne_i16 {x : Int} (h : x < -32768 ∨ 32767 < x) : (wrap64 (IntKind.i16.wrap x) != x) = true := by
  have e : -32768 ≤ IntKind.i16.wrap x ∧ IntKind.i16.wrap x ≤ 32767 := by
    simp only [IntKind.wrap, IntKind.bits, IntKind.signed, Bool.true_and]; split <;> rename_i h <;> simp at h <;> omega
  rw [bne_iff_ne]; simp only [wrap64]; omega
theorem ne_i32 {x : Int} (h : x < -2147483648 ∨ 2147483647 < x) : (wrap64 (wrap32 x) != x) = true := by
  rw [bne_iff_ne]; simp only [wrap64, wrap32]; omega
theorem read_any (s : ByteArray) (w : World) (hs : s.size ≤ 9223372036854775807) :
    Calls Try.prog 36 #[.string s] w fun e w' => e = .returned (.tuple #[.int .u64 (rm s 18446744073709551615).1, .int .i64 (rm s 18446744073709551615).2.1, .int .i64 (rm s 18446744073709551615).2.2]) ∧ w' = w := by
  obtain ⟨b1, b2, b3⟩ := rd_bds s
  by_cases h : rde s = 0
  · by_cases hm : (rdv s : Int) ≤ 18446744073709551615
    · have hr := rm_ok h hm
      rw [hr]
      clear hr
      go_enter Try.func36, Try.ntmps36
      go_wp2_with (go_at_call 52; refine (rf_any _ _ hs).mono ?_; rintro e w' ⟨rfl, rfl⟩)
      go_ret3
      exact ⟨rfl, rfl⟩
    · omega
  · have hr := rm_bad (m := 18446744073709551615) h
    rw [hr]
    clear hr
    go_enter Try.func36, Try.ntmps36
    go_wp2_with (go_at_call 52; refine (rf_any _ _ hs).mono ?_; rintro e w' ⟨rfl, rfl⟩)
    go_ret3
    exact ⟨rfl, rfl⟩
theorem read8_any (s : ByteArray) (w : World) (hs : s.size ≤ 9223372036854775807) :
    Calls Try.prog 38 #[.string s] w fun e w' => e = .returned (.tuple #[.int .u8 (rm s 255).1, .int .i64 (rm s 255).2.1, .int .i64 (rm s 255).2.2]) ∧ w' = w := by
  obtain ⟨b1, b2, b3⟩ := rd_bds s
  by_cases h : rde s = 0
  · by_cases hm : (rdv s : Int) ≤ 255
    · have hr := rm_ok h hm
      rw [hr]
      clear hr
      go_enter Try.func38, Try.ntmps38
      go_wp2_with (go_at_call 52; refine (rf_any _ _ hs).mono ?_; rintro e w' ⟨rfl, rfl⟩)
      go_ret3
      exact ⟨rfl, rfl⟩
    · have hr := rm_big h hm
      rw [hr]
      clear hr
      go_enter Try.func38, Try.ntmps38
      go_wp2_with (go_at_call 52; refine (rf_any _ _ hs).mono ?_; rintro e w' ⟨rfl, rfl⟩)
      go_ret3
      exact ⟨rfl, rfl⟩
  · have hr := rm_bad (m := 255) h
    rw [hr]
    clear hr
    go_enter Try.func38, Try.ntmps38
    go_wp2_with (go_at_call 52; refine (rf_any _ _ hs).mono ?_; rintro e w' ⟨rfl, rfl⟩)
    go_ret3
    exact ⟨rfl, rfl⟩
theorem read16_any (s : ByteArray) (w : World) (hs : s.size ≤ 9223372036854775807) :
    Calls Try.prog 41 #[.string s] w fun e w' => e = .returned (.tuple #[.int .u16 (rm s 65535).1, .int .i64 (rm s 65535).2.1, .int .i64 (rm s 65535).2.2]) ∧ w' = w := by
  obtain ⟨b1, b2, b3⟩ := rd_bds s
  by_cases h : rde s = 0
  · by_cases hm : (rdv s : Int) ≤ 65535
    · have hr := rm_ok h hm
      rw [hr]
      clear hr
      go_enter Try.func41, Try.ntmps41
      go_wp2_with (go_at_call 52; refine (rf_any _ _ hs).mono ?_; rintro e w' ⟨rfl, rfl⟩)
      go_ret3
      exact ⟨rfl, rfl⟩
    · have hr := rm_big h hm
      rw [hr]
      clear hr
      have ht := ne_u16 (x := (rdv s : Int)) (by omega)
      go_enter Try.func41, Try.ntmps41
      go_wp2_with (go_at_call 52; refine (rf_any _ _ hs).mono ?_; rintro e w' ⟨rfl, rfl⟩)
      go_ret3
      exact ⟨rfl, rfl⟩
  · have hr := rm_bad (m := 65535) h
    rw [hr]
    clear hr
    go_enter Try.func41, Try.ntmps41
    go_wp2_with (go_at_call 52; refine (rf_any _ _ hs).mono ?_; rintro e w' ⟨rfl, rfl⟩)
    go_ret3
    exact ⟨rfl, rfl⟩
theorem readId_any (s : ByteArray) (w : World) (hs : s.size ≤ 9223372036854775807) :
    Calls Try.prog 42 #[.string s] w fun e w' => e = .returned (.tuple #[.int .u32 (rm s 4294967295).1, .int .i64 (rm s 4294967295).2.1, .int .i64 (rm s 4294967295).2.2]) ∧ w' = w := by
  obtain ⟨b1, b2, b3⟩ := rd_bds s
  by_cases h : rde s = 0
  · by_cases hm : (rdv s : Int) ≤ 4294967295
    · have hr := rm_ok h hm
      rw [hr]
      clear hr
      go_enter Try.func42, Try.ntmps42
      go_wp2_with (go_at_call 52; refine (rf_any _ _ hs).mono ?_; rintro e w' ⟨rfl, rfl⟩)
      go_ret3
      exact ⟨rfl, rfl⟩
    · have hr := rm_big h hm
      rw [hr]
      clear hr
      go_enter Try.func42, Try.ntmps42
      go_wp2_with (go_at_call 52; refine (rf_any _ _ hs).mono ?_; rintro e w' ⟨rfl, rfl⟩)
      go_ret3
      exact ⟨rfl, rfl⟩
  · have hr := rm_bad (m := 4294967295) h
    rw [hr]
    clear hr
    go_enter Try.func42, Try.ntmps42
    go_wp2_with (go_at_call 52; refine (rf_any _ _ hs).mono ?_; rintro e w' ⟨rfl, rfl⟩)
    go_ret3
    exact ⟨rfl, rfl⟩
theorem readUint_any (s : ByteArray) (w : World) (hs : s.size ≤ 9223372036854775807) :
    Calls Try.prog 43 #[.string s] w fun e w' => e = .returned (.tuple #[.int .u64 (rm s 18446744073709551615).1, .int .i64 (rm s 18446744073709551615).2.1, .int .i64 (rm s 18446744073709551615).2.2]) ∧ w' = w := by
  obtain ⟨b1, b2, b3⟩ := rd_bds s
  by_cases h : rde s = 0
  · by_cases hm : (rdv s : Int) ≤ 18446744073709551615
    · have hr := rm_ok h hm
      rw [hr]
      clear hr
      go_enter Try.func43, Try.ntmps43
      go_wp2_with (go_at_call 52; refine (rf_any _ _ hs).mono ?_; rintro e w' ⟨rfl, rfl⟩)
      go_ret3
      exact ⟨rfl, rfl⟩
    · omega
  · have hr := rm_bad (m := 18446744073709551615) h
    rw [hr]
    clear hr
    go_enter Try.func43, Try.ntmps43
    go_wp2_with (go_at_call 52; refine (rf_any _ _ hs).mono ?_; rintro e w' ⟨rfl, rfl⟩)
    go_ret3
    exact ⟨rfl, rfl⟩
theorem sread_any (s : ByteArray) (w : World) (hs : s.size ≤ 9223372036854775807) :
    Calls Try.prog 37 #[.string s] w fun e w' => e = .returned (.tuple #[.int .i64 (rs s (-9223372036854775808) 9223372036854775807).1, .int .i64 (rs s (-9223372036854775808) 9223372036854775807).2.1, .int .i64 (rs s (-9223372036854775808) 9223372036854775807).2.2]) ∧ w' = w := by
  obtain ⟨b1, b2, b3⟩ := rd_bds s
  obtain ⟨c1, c2⟩ := M.uz_bd (u := (rdv s : Int)) (by omega) b1
  by_cases h : rde s = 0
  · by_cases hm : -9223372036854775808 ≤ M.uz (rdv s) ∧ M.uz (rdv s) ≤ 9223372036854775807
    · have hr := rs_ok h hm
      rw [hr]
      clear hr
      obtain ⟨m1, m2⟩ := hm
      go_enter Try.func37, Try.ntmps37
      go_wp2_with (first | (go_at_call 52; refine (rf_any _ _ hs).mono ?_; rintro e w' ⟨rfl, rfl⟩) | (go_at_call 19; refine (uz_any _ _ (by omega) b1).mono ?_; rintro e w' ⟨rfl, rfl⟩))
      go_ret3
      exact ⟨rfl, rfl⟩
    · omega
  · have hr := rs_bad (l := -9223372036854775808) (m := 9223372036854775807) h
    rw [hr]
    clear hr
    go_enter Try.func37, Try.ntmps37
    go_wp2_with (first | (go_at_call 52; refine (rf_any _ _ hs).mono ?_; rintro e w' ⟨rfl, rfl⟩) | (go_at_call 19; refine (uz_any _ _ (by omega) b1).mono ?_; rintro e w' ⟨rfl, rfl⟩))
    go_ret3
    exact ⟨rfl, rfl⟩
theorem sread8_any (s : ByteArray) (w : World) (hs : s.size ≤ 9223372036854775807) :
    Calls Try.prog 45 #[.string s] w fun e w' => e = .returned (.tuple #[.int .i8 (rs s (-128) 127).1, .int .i64 (rs s (-128) 127).2.1, .int .i64 (rs s (-128) 127).2.2]) ∧ w' = w := by
  obtain ⟨b1, b2, b3⟩ := rd_bds s
  obtain ⟨c1, c2⟩ := M.uz_bd (u := (rdv s : Int)) (by omega) b1
  by_cases h : rde s = 0
  · by_cases hm : -128 ≤ M.uz (rdv s) ∧ M.uz (rdv s) ≤ 127
    · have hr := rs_ok h hm
      rw [hr]
      clear hr
      obtain ⟨m1, m2⟩ := hm
      go_enter Try.func45, Try.ntmps45
      go_wp2_with (first | (go_at_call 52; refine (rf_any _ _ hs).mono ?_; rintro e w' ⟨rfl, rfl⟩) | (go_at_call 19; refine (uz_any _ _ (by omega) b1).mono ?_; rintro e w' ⟨rfl, rfl⟩))
      go_ret3
      exact ⟨rfl, rfl⟩
    · have hr := rs_big h hm
      rw [hr]
      clear hr
      have hm' : M.uz (rdv s) < -128 ∨ 127 < M.uz (rdv s) := by omega
      clear hm
      have ht := ne_i8 hm'
      rcases hm' with hm | hm
      · go_enter Try.func45, Try.ntmps45
        go_wp2_with (first | (go_at_call 52; refine (rf_any _ _ hs).mono ?_; rintro e w' ⟨rfl, rfl⟩) | (go_at_call 19; refine (uz_any _ _ (by omega) b1).mono ?_; rintro e w' ⟨rfl, rfl⟩))
        go_ret3
        exact ⟨rfl, rfl⟩
      · go_enter Try.func45, Try.ntmps45
        go_wp2_with (first | (go_at_call 52; refine (rf_any _ _ hs).mono ?_; rintro e w' ⟨rfl, rfl⟩) | (go_at_call 19; refine (uz_any _ _ (by omega) b1).mono ?_; rintro e w' ⟨rfl, rfl⟩))
        go_ret3
        exact ⟨rfl, rfl⟩
  · have hr := rs_bad (l := -128) (m := 127) h
    rw [hr]
    clear hr
    go_enter Try.func45, Try.ntmps45
    go_wp2_with (first | (go_at_call 52; refine (rf_any _ _ hs).mono ?_; rintro e w' ⟨rfl, rfl⟩) | (go_at_call 19; refine (uz_any _ _ (by omega) b1).mono ?_; rintro e w' ⟨rfl, rfl⟩))
    go_ret3
    exact ⟨rfl, rfl⟩
theorem sread16_any (s : ByteArray) (w : World) (hs : s.size ≤ 9223372036854775807) :
    Calls Try.prog 46 #[.string s] w fun e w' => e = .returned (.tuple #[.int .i16 (rs s (-32768) 32767).1, .int .i64 (rs s (-32768) 32767).2.1, .int .i64 (rs s (-32768) 32767).2.2]) ∧ w' = w := by
  obtain ⟨b1, b2, b3⟩ := rd_bds s
  obtain ⟨c1, c2⟩ := M.uz_bd (u := (rdv s : Int)) (by omega) b1
  by_cases h : rde s = 0
  · by_cases hm : -32768 ≤ M.uz (rdv s) ∧ M.uz (rdv s) ≤ 32767
    · have hr := rs_ok h hm
      rw [hr]
      clear hr
      obtain ⟨m1, m2⟩ := hm
      go_enter Try.func46, Try.ntmps46
      go_wp2_with (first | (go_at_call 52; refine (rf_any _ _ hs).mono ?_; rintro e w' ⟨rfl, rfl⟩) | (go_at_call 19; refine (uz_any _ _ (by omega) b1).mono ?_; rintro e w' ⟨rfl, rfl⟩))
      go_ret3
      exact ⟨rfl, rfl⟩
    · have hr := rs_big h hm
      rw [hr]
      clear hr
      have hm' : M.uz (rdv s) < -32768 ∨ 32767 < M.uz (rdv s) := by omega
      clear hm
      have ht := ne_i16 hm'
      rcases hm' with hm | hm
      · go_enter Try.func46, Try.ntmps46
        go_wp2_with (first | (go_at_call 52; refine (rf_any _ _ hs).mono ?_; rintro e w' ⟨rfl, rfl⟩) | (go_at_call 19; refine (uz_any _ _ (by omega) b1).mono ?_; rintro e w' ⟨rfl, rfl⟩))
        go_ret3
        exact ⟨rfl, rfl⟩
      · go_enter Try.func46, Try.ntmps46
        go_wp2_with (first | (go_at_call 52; refine (rf_any _ _ hs).mono ?_; rintro e w' ⟨rfl, rfl⟩) | (go_at_call 19; refine (uz_any _ _ (by omega) b1).mono ?_; rintro e w' ⟨rfl, rfl⟩))
        go_ret3
        exact ⟨rfl, rfl⟩
  · have hr := rs_bad (l := -32768) (m := 32767) h
    rw [hr]
    clear hr
    go_enter Try.func46, Try.ntmps46
    go_wp2_with (first | (go_at_call 52; refine (rf_any _ _ hs).mono ?_; rintro e w' ⟨rfl, rfl⟩) | (go_at_call 19; refine (uz_any _ _ (by omega) b1).mono ?_; rintro e w' ⟨rfl, rfl⟩))
    go_ret3
    exact ⟨rfl, rfl⟩
theorem sread32_any (s : ByteArray) (w : World) (hs : s.size ≤ 9223372036854775807) :
    Calls Try.prog 47 #[.string s] w fun e w' => e = .returned (.tuple #[.int .i32 (rs s (-2147483648) 2147483647).1, .int .i64 (rs s (-2147483648) 2147483647).2.1, .int .i64 (rs s (-2147483648) 2147483647).2.2]) ∧ w' = w := by
  obtain ⟨b1, b2, b3⟩ := rd_bds s
  obtain ⟨c1, c2⟩ := M.uz_bd (u := (rdv s : Int)) (by omega) b1
  by_cases h : rde s = 0
  · by_cases hm : -2147483648 ≤ M.uz (rdv s) ∧ M.uz (rdv s) ≤ 2147483647
    · have hr := rs_ok h hm
      rw [hr]
      clear hr
      obtain ⟨m1, m2⟩ := hm
      go_enter Try.func47, Try.ntmps47
      go_wp2_with (first | (go_at_call 52; refine (rf_any _ _ hs).mono ?_; rintro e w' ⟨rfl, rfl⟩) | (go_at_call 19; refine (uz_any _ _ (by omega) b1).mono ?_; rintro e w' ⟨rfl, rfl⟩))
      go_ret3
      exact ⟨rfl, rfl⟩
    · have hr := rs_big h hm
      rw [hr]
      clear hr
      have hm' : M.uz (rdv s) < -2147483648 ∨ 2147483647 < M.uz (rdv s) := by omega
      clear hm
      have ht := ne_i32 hm'
      rcases hm' with hm | hm
      · go_enter Try.func47, Try.ntmps47
        go_wp2_with (first | (go_at_call 52; refine (rf_any _ _ hs).mono ?_; rintro e w' ⟨rfl, rfl⟩) | (go_at_call 19; refine (uz_any _ _ (by omega) b1).mono ?_; rintro e w' ⟨rfl, rfl⟩))
        go_ret3
        exact ⟨rfl, rfl⟩
      · go_enter Try.func47, Try.ntmps47
        go_wp2_with (first | (go_at_call 52; refine (rf_any _ _ hs).mono ?_; rintro e w' ⟨rfl, rfl⟩) | (go_at_call 19; refine (uz_any _ _ (by omega) b1).mono ?_; rintro e w' ⟨rfl, rfl⟩))
        go_ret3
        exact ⟨rfl, rfl⟩
  · have hr := rs_bad (l := -2147483648) (m := 2147483647) h
    rw [hr]
    clear hr
    go_enter Try.func47, Try.ntmps47
    go_wp2_with (first | (go_at_call 52; refine (rf_any _ _ hs).mono ?_; rintro e w' ⟨rfl, rfl⟩) | (go_at_call 19; refine (uz_any _ _ (by omega) b1).mono ?_; rintro e w' ⟨rfl, rfl⟩))
    go_ret3
    exact ⟨rfl, rfl⟩
theorem sreadInt_any (s : ByteArray) (w : World) (hs : s.size ≤ 9223372036854775807) :
    Calls Try.prog 48 #[.string s] w fun e w' => e = .returned (.tuple #[.int .i64 (rs s (-9223372036854775808) 9223372036854775807).1, .int .i64 (rs s (-9223372036854775808) 9223372036854775807).2.1, .int .i64 (rs s (-9223372036854775808) 9223372036854775807).2.2]) ∧ w' = w := by
  obtain ⟨b1, b2, b3⟩ := rd_bds s
  obtain ⟨c1, c2⟩ := M.uz_bd (u := (rdv s : Int)) (by omega) b1
  by_cases h : rde s = 0
  · by_cases hm : -9223372036854775808 ≤ M.uz (rdv s) ∧ M.uz (rdv s) ≤ 9223372036854775807
    · have hr := rs_ok h hm
      rw [hr]
      clear hr
      obtain ⟨m1, m2⟩ := hm
      go_enter Try.func48, Try.ntmps48
      go_wp2_with (first | (go_at_call 52; refine (rf_any _ _ hs).mono ?_; rintro e w' ⟨rfl, rfl⟩) | (go_at_call 19; refine (uz_any _ _ (by omega) b1).mono ?_; rintro e w' ⟨rfl, rfl⟩))
      go_ret3
      exact ⟨rfl, rfl⟩
    · omega
  · have hr := rs_bad (l := -9223372036854775808) (m := 9223372036854775807) h
    rw [hr]
    clear hr
    go_enter Try.func48, Try.ntmps48
    go_wp2_with (first | (go_at_call 52; refine (rf_any _ _ hs).mono ?_; rintro e w' ⟨rfl, rfl⟩) | (go_at_call 19; refine (uz_any _ _ (by omega) b1).mono ?_; rintro e w' ⟨rfl, rfl⟩))
    go_ret3
    exact ⟨rfl, rfl⟩
theorem rmost_any (s : ByteArray) (m : Int) (w : World) (hs : s.size ≤ 9223372036854775807) :
    Calls Try.prog 40 #[.string s, .int .u64 m] w fun e w' => e = .returned (.tuple #[.int .u64 (rm s m).1, .int .i64 (rm s m).2.1, .int .i64 (rm s m).2.2]) ∧ w' = w := by
  obtain ⟨b1, b2, b3⟩ := rd_bds s
  by_cases h : rde s = 0
  · by_cases hm : (rdv s : Int) ≤ m
    · have hr := rm_ok h hm
      rw [hr]
      clear hr
      go_enter Try.func40, Try.ntmps40
      go_wp2_with (go_at_call 39; refine (rread_any _ _ hs).mono ?_; rintro e w' ⟨rfl, rfl⟩)
      go_ret3
      exact ⟨rfl, rfl⟩
    · have hr := rm_big h hm
      rw [hr]
      clear hr
      go_enter Try.func40, Try.ntmps40
      go_wp2_with (go_at_call 39; refine (rread_any _ _ hs).mono ?_; rintro e w' ⟨rfl, rfl⟩)
      go_ret3
      exact ⟨rfl, rfl⟩
  · have hr := rm_bad (m := m) h
    rw [hr]
    clear hr
    go_enter Try.func40, Try.ntmps40
    go_wp2_with (go_at_call 39; refine (rread_any _ _ hs).mono ?_; rintro e w' ⟨rfl, rfl⟩)
    go_ret3
    exact ⟨rfl, rfl⟩
theorem rsigned_any (s : ByteArray) (l m : Int) (w : World) (hs : s.size ≤ 9223372036854775807) :
    Calls Try.prog 44 #[.string s, .int .i64 l, .int .i64 m] w fun e w' => e = .returned (.tuple #[.int .i64 (rs s l m).1, .int .i64 (rs s l m).2.1, .int .i64 (rs s l m).2.2]) ∧ w' = w := by
  obtain ⟨b1, b2, b3⟩ := rd_bds s
  obtain ⟨c1, c2⟩ := M.uz_bd (u := (rdv s : Int)) (by omega) b1
  by_cases h : rde s = 0
  · by_cases hm : l ≤ M.uz (rdv s) ∧ M.uz (rdv s) ≤ m
    · have hr := rs_ok h hm
      rw [hr]
      clear hr
      obtain ⟨m1, m2⟩ := hm
      go_enter Try.func44, Try.ntmps44
      go_wp2_with (first | (go_at_call 39; refine (rread_any _ _ hs).mono ?_; rintro e w' ⟨rfl, rfl⟩) | (go_at_call 20; refine (ruz_any _ _ (by omega) b1).mono ?_; rintro e w' ⟨rfl, rfl⟩))
      go_ret3
      exact ⟨rfl, rfl⟩
    · have hr := rs_big h hm
      rw [hr]
      clear hr
      have hm' : M.uz (rdv s) < l ∨ (l ≤ M.uz (rdv s) ∧ m < M.uz (rdv s)) := by omega
      clear hm
      rcases hm' with hm | ⟨hm, hm2⟩
      · go_enter Try.func44, Try.ntmps44
        go_wp2_with (first | (go_at_call 39; refine (rread_any _ _ hs).mono ?_; rintro e w' ⟨rfl, rfl⟩) | (go_at_call 20; refine (ruz_any _ _ (by omega) b1).mono ?_; rintro e w' ⟨rfl, rfl⟩))
        go_ret3
        exact ⟨rfl, rfl⟩
      · go_enter Try.func44, Try.ntmps44
        go_wp2_with (first | (go_at_call 39; refine (rread_any _ _ hs).mono ?_; rintro e w' ⟨rfl, rfl⟩) | (go_at_call 20; refine (ruz_any _ _ (by omega) b1).mono ?_; rintro e w' ⟨rfl, rfl⟩))
        go_ret3
        exact ⟨rfl, rfl⟩
  · have hr := rs_bad (l := l) (m := m) h
    rw [hr]
    clear hr
    go_enter Try.func44, Try.ntmps44
    go_wp2_with (first | (go_at_call 39; refine (rread_any _ _ hs).mono ?_; rintro e w' ⟨rfl, rfl⟩) | (go_at_call 20; refine (ruz_any _ _ (by omega) b1).mono ?_; rintro e w' ⟨rfl, rfl⟩))
    go_ret3
    exact ⟨rfl, rfl⟩
end Go.Proofs.Ytkaoipckjilnbaa
