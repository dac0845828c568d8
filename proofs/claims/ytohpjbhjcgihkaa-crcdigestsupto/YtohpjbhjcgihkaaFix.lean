/- The program's Join, Behind and Fix; nothing that was there before is turned. -/
import Derived.Test.YtohpjbhjcgihkaaMore
namespace Go.Proofs.Ytohpjbhjcgihkaa
open Go.RowKit
set_option maxHeartbeats 1000000 in
theorem join_any (a b : Nat) (n : Int) (w : World) (ha : a < 4294967296) (hb : b < 4294967296) (h1 : -9223372036854775808 ≤ n) (h2 : n ≤ 9223372036854775807) :
    Calls Try.prog 14 #[.int .u32 a, .int .u32 b, .int .i64 n] w fun e w' => e = .returned (.int .u32 (M.join a b n.toNat : Nat)) ∧ Below w.heap.size w w' := by
  have hz := zeros_any n w h1 h2
  have hzl := M.zer_lt (n := n.toNat) (r := 2147483648) (by omega)
  have hp := fun v => prod_any a (M.zer n.toNat 2147483648) v ha hzl
  have e1 : M.prodF 32 a (M.zer n.toNat 2147483648) = M.zer n.toNat a := M.prod_pow (8 * n.toNat) ha
  rw [e1] at hp
  have hx := xor_nat (M.zer_lt (n := n.toNat) ha) hb
  rw [show M.zer n.toNat a ^^^ b = M.join a b n.toNat from rfl] at hx
  clear e1
  generalize M.join a b n.toNat = R at *
  generalize M.zer n.toNat a = Y at *
  generalize M.zer n.toNat 2147483648 = Z at *
  go_enter Try.func14, Try.ntmps14
  go_wp2_with fail
  refine hz.mono ?_
  rintro e w1 ⟨rfl, rfl⟩
  go_wp2_with fail
  refine (hp w1).mono ?_
  rintro e w2 ⟨rfl, rfl⟩
  go_wp2_with fail
  go_ret
  exact ⟨rfl, Below.refl _ _⟩
set_option maxHeartbeats 1000000 in
theorem behind_any (a b : Nat) (n : Int) (w : World) (ha : a < 4294967296) (hb : b < 4294967296) (h1 : -9223372036854775808 ≤ n) (h2 : n ≤ 9223372036854775807) :
    Calls Try.prog 16 #[.int .u32 b, .int .u32 a, .int .i64 n] w fun e w' => e = .returned (.int .u32 (M.join a b n.toNat : Nat)) ∧ Below w.heap.size w w' := by
  have hj := join_any a b n w ha hb h1 h2
  generalize M.join a b n.toNat = R at *
  go_enter Try.func16, Try.ntmps16
  go_wp2_with fail
  refine hj.mono ?_
  rintro e w1 ⟨rfl, hb⟩
  go_wp2_with fail
  go_ret
  exact ⟨rfl, hb⟩
/-- The four cells, so many laid. -/
def fc (N : Nat) : Nat → Array Value
  | 0 => #[.int .u8 0, .int .u8 0, .int .u8 0, .int .u8 0]
  | 1 => #[.int .u8 ((N : Int) % 256), .int .u8 0, .int .u8 0, .int .u8 0]
  | 2 => #[.int .u8 ((N : Int) % 256), .int .u8 ((N : Int) / 256 % 256), .int .u8 0, .int .u8 0]
  | 3 => #[.int .u8 ((N : Int) % 256), .int .u8 ((N : Int) / 256 % 256), .int .u8 ((N : Int) / 65536 % 256), .int .u8 0]
  | _ => #[.int .u8 ((N : Int) % 256), .int .u8 ((N : Int) / 256 % 256), .int .u8 ((N : Int) / 65536 % 256), .int .u8 ((N : Int) / 16777216)]
theorem Try.underU8 : Try.prog.underlying 5 = some (.int .u8) := by kernel_rfl
theorem Try.underStr : Try.prog.underlying 9 = some .string := by kernel_rfl
theorem Try.underBytes : Try.prog.underlying 57 = some (.slice 5) := by kernel_rfl
theorem fix_conv (N : Nat) (w : World) (hN : N < 4294967296) :
    (convert 57 9 (.slice (some ⟨w.heap.size, 0, none⟩) 4 4)).run Try.prog (w.alloc (.cells (fc N 4) 56)) = .ok (.string ⟨(M.four N).toArray⟩) (w.alloc (.cells (fc N 4) 56)) := by
  refine run_convert_bytes_back (P := Try.prog) _ 57 9 5 ⟨w.heap.size, 0, none⟩ 4 (M.four N) Try.underBytes Try.underU8 Try.underStr ?_
  intro j hj
  have hj4 : j < 4 := hj
  have hadd : (⟨w.heap.size, 0, none⟩ : Addr).add j = ⟨w.heap.size, j, none⟩ := by unfold Addr.add; split <;> simp_all
  rw [hadd, cell_of (heap_new _ _)]
  rcases (show j = 0 ∨ j = 1 ∨ j = 2 ∨ j = 3 by omega) with rfl | rfl | rfl | rfl
  · show some (Value.int .u8 ((N : Int) % 256)) = some (Value.int .u8 ((UInt8.ofNat N).toNat : Int))
    rw [UInt8.toNat_ofNat']; congr 2
  · show some (Value.int .u8 ((N : Int) / 256 % 256)) = some (Value.int .u8 ((UInt8.ofNat (N / 256)).toNat : Int))
    rw [UInt8.toNat_ofNat']; congr 2
  · show some (Value.int .u8 ((N : Int) / 65536 % 256)) = some (Value.int .u8 ((UInt8.ofNat (N / 65536)).toNat : Int))
    rw [UInt8.toNat_ofNat']; congr 2
  · show some (Value.int .u8 ((N : Int) / 16777216)) = some (Value.int .u8 ((UInt8.ofNat (N / 16777216)).toNat : Int))
    rw [UInt8.toNat_ofNat']; congr 2; omega
set_option maxHeartbeats 4000000 in
set_option maxRecDepth 20000 in
theorem fix_any (s t : Nat) (w : World) (hs : s < 4294967296) (ht : t < 4294967296) :
    Calls Try.prog 18 #[.int .u32 s, .int .u32 t] w fun e w' => e = .returned (.string ⟨(M.four (M.need s t)).toArray⟩) ∧ Below w.heap.size w w' := by
  have hx1 := xor_mask ht
  have hl1 := M.ones_lt ht
  have hbk := back_any (t ^^^ 4294967295) 32 w hl1 (by omega)
  have hl2 := M.bkN_lt 32 hl1
  have hx2 := xor_nat hl2 hs
  have hx3 := xor_mask (xlt hl2 hs)
  have hN := M.need_lt hs ht
  rw [show M.bkN 32 (t ^^^ 4294967295) ^^^ s ^^^ 4294967295 = M.need s t from rfl] at hx3
  generalize M.need s t = N at *
  generalize M.bkN 32 (t ^^^ 4294967295) ^^^ s = A at *
  generalize M.bkN 32 (t ^^^ 4294967295) = B at *
  generalize t ^^^ 4294967295 = C at *
  go_enter Try.func18, Try.ntmps18
  go_wp2_with fail
  refine hbk.mono ?_
  rintro e w1 ⟨rfl, rfl⟩
  go_wp2_with fail
  go_loopg [14] 4 (fun k u wr => ∃ i : Nat, i + k = 4 ∧ u = .int .i64 i ∧ wr = w1.alloc (.cells (fc N i) 56))
  case atStart => exact ⟨0, by omega, rfl, rfl⟩
  case round =>
    obtain ⟨i, hk, rfl, rfl⟩ := hrel
    rcases (show i = 0 ∨ i = 1 ∨ i = 2 ∨ i = 3 ∨ i = 4 by omega) with rfl | rfl | rfl | rfl | rfl
    · obtain rfl : gk = 4 := by omega
      unfold fc
      go_wp2_with fail
      go_roundg 3
      case measure => omega
      case rel => exact ⟨1, by omega, rfl, by simp [fc]⟩
    · obtain rfl : gk = 3 := by omega
      unfold fc
      go_wp2_with fail
      go_roundg 2
      case measure => omega
      case rel => exact ⟨2, by omega, rfl, by simp [fc]⟩
    · obtain rfl : gk = 2 := by omega
      unfold fc
      go_wp2_with fail
      go_roundg 1
      case measure => omega
      case rel => exact ⟨3, by omega, rfl, by simp [fc]⟩
    · obtain rfl : gk = 1 := by omega
      unfold fc
      go_wp2_with fail
      go_roundg 0
      case measure => omega
      case rel => exact ⟨4, by omega, rfl, by simp [fc]⟩
    · have hconv := fix_conv N w1 hN
      have hb2 : Below w1.heap.size w1 (w1.alloc (.cells (fc N 4) 56)) := (Below.refl _ w1).alloc (Nat.le_refl _) _
      generalize w1.alloc (.cells (fc N 4) 56) = W at *
      go_wp2_with fail
      go_ret
      exact ⟨rfl, hb2⟩
end Go.Proofs.Ytohpjbhjcgihkaa
