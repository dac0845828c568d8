/- The document's take, back, More, Sum and Fix; nothing that was there before is turned. -/
import Derived.Test.YtohpjbhjcgihkaaAwake
namespace Go.Proofs.Ytohpjbhjcgihkaa
open Go.RowKit
set_option maxHeartbeats 1000000 in
set_option maxRecDepth 20000 in
theorem rtake_any (r b : Nat) (w : World) (hr : r < 4294967296) (hb : b < 256) :
    Calls Try.prog 29 #[.int .u32 r, .int .u8 b] w fun e w' => e = .returned (.int .u32 (M.tk r b : Nat)) ∧ w' = w := by
  have hx := xor_nat hr (show b < 4294967296 by omega)
  have hxl := xlt hr (show b < 4294967296 by omega)
  have HR : Hid (M.tk r b = M.mvN 8 (r ^^^ b)) := rfl
  generalize M.tk r b = R at *
  generalize r ^^^ b = r0 at *
  go_enter Try.func29, Try.ntmps29
  go_wp2
  go_loop [0, 5] (fun v i => ∃ k X : Nat, k ≤ 8 ∧ X < 4294967296 ∧ i = .int .i64 k ∧ v = .int .u32 X ∧ M.mvN 8 r0 = M.mvN (8 - k) X) (fun _ i => 8 - (intOf i).toNat)
  case atStart => exact ⟨0, r0, by omega, hxl, rfl, rfl, rfl⟩
  case round =>
    obtain ⟨k, X, hk, hX, rfl, rfl, hd⟩ := hrel
    have HD : Hid (M.mvN 8 r0 = M.mvN (8 - k) X) := hd
    clear hd
    by_cases hlt : k < 8
    · have hlt' : (k : Int) < 8 := by omega
      have hnk : 8 - k = 8 - (k + 1) + 1 := by omega
      have HS : Hid (M.mvN 8 r0 = M.mvN (8 - (k + 1)) (M.mv X)) := by show M.mvN 8 r0 = _; rw [HD.out, hnk]; rfl
      have hlt2 := M.mv_lt hX
      clear hnk HD
      have ha := and_one hX
      rcases Nat.mod_two_eq_zero_or_one X with ho | ho
      · rw [ho] at ha
        have hx := mv_even ho
        go_wp2
        exact ⟨⟨k + 1, M.mv X, by omega, hlt2, rfl, rfl, HS⟩, by simp [intOf]; omega⟩
      · rw [ho] at ha
        have hx := mv_odd hX ho
        go_wp2
        exact ⟨⟨k + 1, M.mv X, by omega, hlt2, rfl, rfl, HS⟩, by simp [intOf]; omega⟩
    · obtain rfl : k = 8 := by omega
      go_wp2
      go_ret
      exact ⟨ret_int (by rw [HR.out, HD.out, Nat.sub_self]; rfl), rfl⟩
set_option maxHeartbeats 1000000 in
set_option maxRecDepth 20000 in
theorem rback_any (r : Nat) (w : World) (hr : r < 4294967296) :
    Calls Try.prog 35 #[.int .u32 r] w fun e w' => e = .returned (.int .u32 (M.bkN 8 r : Nat)) ∧ w' = w := by
  go_enter Try.func35, Try.ntmps35
  go_wp2
  go_loop [0, 3] (fun v i => ∃ k X : Nat, k ≤ 8 ∧ X < 4294967296 ∧ i = .int .i64 k ∧ v = .int .u32 X ∧ M.bkN 8 r = M.bkN (8 - k) X) (fun _ i => 8 - (intOf i).toNat)
  case atStart => exact ⟨0, r, by omega, hr, rfl, rfl, rfl⟩
  case round =>
    obtain ⟨k, X, hk, hX, rfl, rfl, hd⟩ := hrel
    have HD : Hid (M.bkN 8 r = M.bkN (8 - k) X) := hd
    clear hd
    by_cases hlt : k < 8
    · have hlt' : (k : Int) < 8 := by omega
      have hnk : 8 - k = 8 - (k + 1) + 1 := by omega
      have HS : Hid (M.bkN 8 r = M.bkN (8 - (k + 1)) (M.bk X)) := by show M.bkN 8 r = _; rw [HD.out, hnk]; rfl
      have hlt2 := M.bk_lt (r := X)
      clear hnk HD
      by_cases ho : 2147483648 ≤ X
      · have ha : (X : Int) / 2147483648 = 1 := by omega
        have hx := bk_high hX ho
        clear ho
        go_wp2
        exact ⟨⟨k + 1, M.bk X, by omega, hlt2, rfl, by first | rfl | rw [hx], HS⟩, by simp [intOf]; omega⟩
      · have ha : (X : Int) / 2147483648 = 0 := by omega
        have hx := bk_lowr ho
        clear ho
        go_wp2
        exact ⟨⟨k + 1, M.bk X, by omega, hlt2, rfl, by first | rfl | rw [hx], HS⟩, by simp [intOf]; omega⟩
    · obtain rfl : k = 8 := by omega
      go_wp2
      go_ret
      exact ⟨ret_int (by rw [HD.out, Nat.sub_self]; rfl), rfl⟩
set_option maxHeartbeats 4000000 in
set_option maxRecDepth 20000 in
theorem rmore_any (sum : Nat) (s : ByteArray) (w : World) (h : sum < 4294967296) (hs : s.size ≤ 9223372036854775807) :
    Calls Try.prog 13 #[.int .u32 sum, .string s] w fun e w' => e = .returned (.int .u32 (M.more sum s.data.toList : Nat)) ∧ w' = w := by
  have hx := xor_mask h
  have hx1 := M.ones_lt h
  have HM : Hid (M.more sum s.data.toList = M.run (sum ^^^ 4294967295) s.data.toList ^^^ 4294967295) := rfl
  generalize M.more sum s.data.toList = R at *
  generalize sum ^^^ 4294967295 = r0 at *
  go_enter Try.func13, Try.ntmps13
  go_wp2_with fail
  go_loopg [5, 6] s.size (fun k u v wr => ∃ (i r : Nat), i + k = s.size ∧ r < 4294967296 ∧ u = .int .u32 r ∧ v = .int .i64 i ∧ Hid (M.run r0 s.data.toList = M.run r (s.data.toList.drop i)) ∧ wr = w)
  case atStart => exact ⟨0, r0, by omega, hx1, rfl, rfl, rfl, rfl⟩
  case round =>
    obtain ⟨i, r, hk, hr, rfl, rfl, HD, rfl⟩ := hrel
    by_cases hlt : i < s.size
    · obtain ⟨k, rfl⟩ : ∃ k, gk = k + 1 := ⟨gk - 1, by omega⟩
      have HN : Hid (M.run r0 s.data.toList = M.run (M.tk r s[i].toNat) (s.data.toList.drop (i + 1))) := by
        show M.run r0 s.data.toList = _
        rw [HD.out, data_at s i hlt, M.run_cons]
      have hb := s[i].toNat_lt
      have htl := M.tk_lt hr hb
      have ct := rtake_any r s[i].toNat wr hr hb
      clear HD
      generalize M.tk r s[i].toNat = T at *
      go_wp2_with fail
      refine ct.mono ?_
      rintro e w1 ⟨rfl, rfl⟩
      go_wp2_with fail
      go_roundg k
      case measure => omega
      case rel => exact ⟨i + 1, T, by omega, htl, by first | rfl | simp, by first | rfl | simp, HN, rfl⟩
    · obtain rfl : i = s.size := by omega
      have hd : M.run r0 s.data.toList = r := by
        rw [HD.out, List.drop_eq_nil_of_le (by simp), M.run_nil]
      have hx9 := xor_mask hr
      have HR : Hid (R = r ^^^ 4294967295) := by show R = _; rw [HM.out, hd]
      clear hd
      go_wp2_with fail
      go_ret
      exact ⟨ret_int (by rw [HR.out]), rfl⟩
set_option maxHeartbeats 1000000 in
theorem rsum_any (s : ByteArray) (w : World) (hs : s.size ≤ 9223372036854775807) :
    Calls Try.prog 11 #[.string s] w fun e w' => e = .returned (.int .u32 (M.more 0 s.data.toList : Nat)) ∧ w' = w := by
  have h := rmore_any 0 s w (by omega) hs
  generalize M.more 0 s.data.toList = R at *
  go_enter Try.func11, Try.ntmps11
  go_wp2_with fail
  refine h.mono ?_
  rintro e w1 ⟨rfl, rfl⟩
  go_wp2_with fail
  go_ret
  exact ⟨rfl, rfl⟩
theorem fix_conv5 (N : Nat) (w : World) (hN : N < 4294967296) :
    (convert 57 9 (.slice (some ⟨w.heap.size, 0, none⟩) 4 4)).run Try.prog (w.alloc (.cells (fc N 4) 5)) = .ok (.string ⟨(M.four N).toArray⟩) (w.alloc (.cells (fc N 4) 5)) := by
  refine run_convert_bytes_back (P := Try.prog) _ 57 9 5 ⟨w.heap.size, 0, none⟩ 4 (M.four N) Try.underBytes Try.underU8 Try.underStr ?_
  intro j hj
  have hj4 : j < 4 := hj
  have hadd : (⟨w.heap.size, 0, none⟩ : Addr).add j = ⟨w.heap.size, j, none⟩ := by unfold Addr.add; split <;> simp_all
  rw [hadd, cell_of (heap_new _ _)]
  rcases (show j = 0 ∨ j = 1 ∨ j = 2 ∨ j = 3 by omega) with rfl | rfl | rfl | rfl
  · show some (Value.int .u8 ((N : Int) % 256)) = some (Value.int .u8 ((UInt8.ofNat N).toNat : Int))
    rw [UInt8.toNat_ofNat']; congr 2
  · show some (Value.int .u8 ((N : Int) / 256 % 256)) = some (Value.int .u8 ((UInt8.ofNat (N / 256)).toNat : Int))
    rw [UInt8.toNat_ofNat']; congr 2
  · show some (Value.int .u8 ((N : Int) / 65536 % 256)) = some (Value.int .u8 ((UInt8.ofNat (N / 65536)).toNat : Int))
    rw [UInt8.toNat_ofNat']; congr 2
  · show some (Value.int .u8 ((N : Int) / 16777216)) = some (Value.int .u8 ((UInt8.ofNat (N / 16777216)).toNat : Int))
    rw [UInt8.toNat_ofNat']; congr 2; omega
set_option maxHeartbeats 4000000 in
set_option maxRecDepth 20000 in
theorem rfix_any (s t : Nat) (w : World) (hs : s < 4294967296) (ht : t < 4294967296) :
    Calls Try.prog 19 #[.int .u32 s, .int .u32 t] w fun e w' => e = .returned (.string ⟨(M.four (M.need s t)).toArray⟩) ∧ Below w.heap.size w w' := by
  have hx1 := xor_mask ht
  have hl1 := M.ones_lt ht
  have hl2 := M.bkN_lt 32 hl1
  have hx2 := xor_nat hl2 hs
  have hx3 := xor_mask (xlt hl2 hs)
  have hN := M.need_lt hs ht
  rw [show M.bkN 32 (t ^^^ 4294967295) ^^^ s ^^^ 4294967295 = M.need s t from rfl] at hx3
  obtain ⟨D, hD⟩ : ∃ D, D = M.bkN 32 (t ^^^ 4294967295) := ⟨_, rfl⟩
  rw [← hD] at hl2 hx2 hx3
  have HB : Hid (D = M.bkN 32 (t ^^^ 4294967295)) := hD
  clear hD
  generalize M.need s t = N at *
  generalize D ^^^ s = A at *
  generalize t ^^^ 4294967295 = C at *
  go_enter Try.func19, Try.ntmps19
  go_wp2_with fail
  go_loopg [5, 6] 4 (fun k u v wr => ∃ (i X : Nat), i + k = 4 ∧ X < 4294967296 ∧ u = .int .u32 X ∧ v = .int .i64 i ∧ Hid (X = M.bkN (8 * i) C) ∧ wr = w)
  case atStart => exact ⟨0, C, by omega, hl1, rfl, rfl, rfl, rfl⟩
  case round =>
    obtain ⟨i, X, hk, hX, rfl, rfl, HX, rfl⟩ := hrel
    by_cases hlt : i < 4
    · obtain ⟨k, rfl⟩ : ∃ k, gk = k + 1 := ⟨gk - 1, by omega⟩
      have hlt' : (i : Int) < 4 := by omega
      have ct := rback_any X wr hX
      have HN : Hid (M.bkN 8 X = M.bkN (8 * (i + 1)) C) := by
        show _ = _
        rw [HX.out, ← M.bkN_add]; rfl
      have htl := M.bkN_lt 8 hX
      clear HX
      generalize M.bkN 8 X = T at *
      go_wp2_with fail
      refine ct.mono ?_
      rintro e w1 ⟨rfl, rfl⟩
      go_wp2_with fail
      go_roundg k
      case measure => omega
      case rel => exact ⟨i + 1, T, by omega, htl, by first | rfl | simp, by first | rfl | simp, HN, rfl⟩
    · obtain rfl : i = 4 := by omega
      obtain rfl : D = X := HB.out.trans HX.out.symm
      clear HB HX
      have hconv := fix_conv5 N wr hN
      have hb2 : Below wr.heap.size wr (wr.alloc (.cells (fc N 4) 5)) := (Below.refl _ wr).alloc (Nat.le_refl _) _
      rw [show fc N 4 = #[.int .u8 ((N : Int) % 256), .int .u8 ((N : Int) / 256 % 256), .int .u8 ((N : Int) / 65536 % 256), .int .u8 ((N : Int) / 16777216)] from rfl] at hconv hb2
      go_wp2_with fail
      go_ret
      exact ⟨rfl, hb2⟩
end Go.Proofs.Ytohpjbhjcgihkaa
