/- The program's More and Sum: the sum of some bytes and of a text behind them; nothing that was there before is turned. -/
import Derived.Test.YtohpjbhjcgihkaaTab
namespace Go.Proofs.Ytohpjbhjcgihkaa
open Go.RowKit
theorem xor_mask {A : Nat} (h : A < 4294967296) : bits BinOp.xor IntKind.u32 (A : Int) 4294967295 = ((A ^^^ 4294967295 : Nat) : Int) := u32_xor_nat A 4294967295 h (by omega)
theorem data_at (s : ByteArray) (i : Nat) (h : i < s.size) : s.data.toList.drop i = s[i] :: s.data.toList.drop (i + 1) := by
  have : i < s.data.toList.length := by simpa using h
  rw [List.drop_eq_getElem_cons this]
  rfl
set_option maxHeartbeats 4000000 in
set_option maxRecDepth 1000000 in
theorem more_any (sum : Nat) (s : ByteArray) (w : World) (h : sum < 4294967296) (hs : s.size ≤ 9223372036854775807) :
    Calls Try.prog 12 #[.int .u32 sum, .string s] w fun e w' => e = .returned (.int .u32 (M.more sum s.data.toList : Nat)) ∧ Below w.heap.size w w' := by
  have hv := (zero_of_info Try.infoTab).1
  have hi := (zero_of_info Try.infoTab).2
  have hx := xor_mask h
  have hx1 := M.ones_lt h
  have HM : Hid (M.more sum s.data.toList = M.run (sum ^^^ 4294967295) s.data.toList ^^^ 4294967295) := rfl
  generalize M.more sum s.data.toList = R at *
  generalize sum ^^^ 4294967295 = r0 at *
  have htab := table_any w
  go_enter Try.func12, Try.ntmps12
  go_wp2_with fail
  refine htab.mono ?_
  rintro e w1 ⟨c, rfl, hU, hb1⟩
  have hsz := hU.1
  have hsc := run_storeCells_new (P := Try.prog) w1 32 (Array.replicate 256 (.int .u32 0)) c (by rw [hsz]; exact hi) (by simp [hsz]) (Array.all_eq_true_iff_forall_mem.2 hU.2.2)
  have HU : Hid (Upto c 256) := hU
  clear hU htab
  go_wp2_with fail
  clear hsc hv hi hsz
  have hb2 : Below w.heap.size w (w1.alloc (.cells c 32)) := hb1.alloc hb1.size _
  have hg : (w1.alloc (.cells c 32)).heap[w1.heap.size]? = some (.cells c 32 (0, 0)) := heap_new _ _
  have HC : Hid (∀ i, i < 256 → (w1.alloc (.cells c 32)).cell? ⟨w1.heap.size, i, none⟩ = some (.int .u32 (M.mvN 8 i : Nat))) := fun i hi => (cell_of hg).trans (HU.out.2.1 i hi)
  generalize w1.alloc (.cells c 32) = V at *
  generalize w1.heap.size = b at *
  clear hg hb1 HU
  go_loopg [6, 13] s.size (fun k u v wr => ∃ (i r : Nat), i + k = s.size ∧ r < 4294967296 ∧ u = .int .u32 r ∧ v = .int .i64 i ∧ Hid (M.run r0 s.data.toList = M.run r (s.data.toList.drop i)) ∧ wr = V)
  case atStart => exact ⟨0, r0, by omega, hx1, rfl, rfl, rfl, rfl⟩
  case round =>
    obtain ⟨i, r, hk, hr, rfl, rfl, HD, rfl⟩ := hrel
    by_cases hlt : i < s.size
    · obtain ⟨k, rfl⟩ : ∃ k, gk = k + 1 := ⟨gk - 1, by omega⟩
      have HN : Hid (M.run r0 s.data.toList = M.run (M.tk r s[i].toNat) (s.data.toList.drop (i + 1))) := by
        show M.run r0 s.data.toList = _
        rw [HD.out, data_at s i hlt, M.run_cons]
      have hb := s[i].toNat_lt
      have hI : r % 256 ^^^ s[i].toNat < 256 := Nat.xor_lt_two_pow (n := 8) (by omega) hb
      have hx8 := u8_xor_nat (r % 256) s[i].toNat (by omega) hb
      have hcv : (r : Int) % 256 = ((r % 256 : Nat) : Int) := by omega
      have hq : (r : Int) / 256 = ((r / 256 : Nat) : Int) := by omega
      have htl := M.tk_lt hr hb
      have hcell := HC.out _ hI
      have hx9 := xor_nat (A := r / 256) (by omega) (M.mvN_lt 8 (r := r % 256 ^^^ s[i].toNat) (by omega))
      rw [M.tk_table hb] at hx9
      clear HD
      generalize r % 256 ^^^ s[i].toNat = I at *
      generalize r % 256 = m at *
      generalize r / 256 = q at *
      generalize M.tk r s[i].toNat = T at *
      go_wp2_with fail
      go_roundg k
      case measure => omega
      case rel => exact ⟨i + 1, T, by omega, htl, by first | rfl | simp, by first | rfl | simp, HN, rfl⟩
    · obtain rfl : i = s.size := by omega
      have hd : M.run r0 s.data.toList = r := by
        rw [HD.out, List.drop_eq_nil_of_le (by simp), M.run_nil]
      have hx9 := xor_mask hr
      have HR : Hid (R = r ^^^ 4294967295) := by show R = _; rw [HM.out, hd]
      clear hd
      go_wp2_with fail
      go_ret
      exact ⟨ret_int (by rw [HR.out]), hb2⟩
set_option maxHeartbeats 1000000 in
theorem sum_any (s : ByteArray) (w : World) (hs : s.size ≤ 9223372036854775807) :
    Calls Try.prog 10 #[.string s] w fun e w' => e = .returned (.int .u32 (M.more 0 s.data.toList : Nat)) ∧ Below w.heap.size w w' := by
  have h := more_any 0 s w (by omega) hs
  generalize M.more 0 s.data.toList = R at *
  go_enter Try.func10, Try.ntmps10
  go_wp2_with fail
  refine h.mono ?_
  rintro e w1 ⟨rfl, hb⟩
  go_wp2_with fail
  go_ret
  exact ⟨rfl, hb⟩
end Go.Proofs.Ytohpjbhjcgihkaa
