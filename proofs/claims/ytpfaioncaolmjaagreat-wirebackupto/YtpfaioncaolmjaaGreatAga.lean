/- 'again' of each kind: what was written is read; of what is cut the call says so. -/
import Derived.Test.YtpfaioncaolmjaaGreatAgm
import Derived.Test.YtpfaioncaolmjaaGreatWri
import Derived.Test.YtpfaioncaolmjaaGreatRmA
import Derived.Test.YtpfaioncaolmjaaGreatRmB
import Derived.Test.YtpfaioncaolmjaaGreatRmC
import Derived.Test.YtpfaioncaolmjaaGreatRmD
import Derived.Test.YtpfaioncaolmjaaGreatRmE
namespace Go.Proofs.YtpfaioncaolmjaaGreat
open Go.RowKit
theorem w32_back {v : Int} (h : -2147483648 ≤ v ∧ v ≤ 2147483647) : wrap32 (((v % 4294967296).toNat : Nat) : Int) = v := by unfold wrap32; omega
theorem w64_back {v : Int} (h : -9223372036854775808 ≤ v ∧ v ≤ 9223372036854775807) : wrap64 (((v % 18446744073709551616).toNat : Nat) : Int) = v := by unfold wrap64; omega
theorem wrap32_0 : wrap32 ((0 : Nat) : Int) = 0 := by unfold wrap32; rfl
theorem wrap64_0 : wrap64 ((0 : Nat) : Int) = 0 := by unfold wrap64; rfl
set_option maxHeartbeats 1000000 in
set_option maxRecDepth 20000 in
theorem again0_yes (b : Nat) (s : ByteArray) (k K N : Nat) (S : ByteArray) (w : World) (hr : Rd w b s k 0) (hst : Stands s k (nb 1 (N % 256))) (hs : s.size ≤ 9223372036854775807) (hk : (K : Int) % 14 = 0) (hN : N < 18446744073709551616) (hS : S.size ≤ 1000000000) :
    Calls Tryz.prog 12 #[.pointer (some ⟨b, 0, none⟩), .agg #[.int .u8 K, .int .u64 N, .string S]] w fun e w' => e = .returned (.bool true) ∧ Rd w' b s (k + (nb 1 (N % 256)).length) 0 ∧ Ch (fun i => i = b) w w' := by
  have _ := hN
  have _ := hS
  have hks : k ≤ s.size := by have := hst.1; omega
  have hV : N % 256 < 256 := by omega
  have hcv : IntKind.u8.wrap (N : Int) = ((N % 256 : Nat) : Int) := by rw [IntKind.wrap_u8]; omega
  have hcm : (N : Int) % 256 = ((N % 256 : Nat) : Int) := by omega
  generalize N % 256 = V at *
  have hbl : b < w.heap.size := hr.lt
  have bx : (w.alloc (.cells #[.int .u8 K, .int .u64 N, .string S] 32)).heap[w.heap.size]? = some (.cells #[.int .u8 K, .int .u64 N, .string S] 32 (0, 0)) := heap_new _ _
  have pc := u8_any b s k 0 (w.alloc (.cells #[.int .u8 K, .int .u64 N, .string S] 32)) (hr.alloc _) hks hs
  rw [fx_yes hst (by omega)] at pc
  rw [nb_len]
  have PC := hid pc
  have BX := hid bx
  obtain ⟨k0, k1, k2⟩ := cells3w bx
  clear pc bx hst
  go_enter Tryz.func12, Tryz.ntmps12
  go_wp2_with fail
  refine PC.out.mono ?_
  rintro e w2 ⟨rfl, h2, c2⟩
  have hc : Ch (fun i => i = b) w w2 := ((Ch.refl _ _).alloc _).trans c2
  obtain ⟨k0, k1, k2⟩ := cells3w ((c2.block w.heap.size (by simp) (by omega)).trans BX.out)
  have HC := hid hc
  have H2 := hid h2
  have hsw : w.heap.size < w2.heap.size := by have := c2.size; simp at this; omega
  clear h2 c2 hc
  go_wp2_with fail
  go_ret
  exact ⟨rfl, H2.out, HC.out⟩
set_option maxHeartbeats 1000000 in
set_option maxRecDepth 20000 in
theorem again0_no (b : Nat) (s : ByteArray) (k K N : Nat) (S : ByteArray) (w : World) (hr : Rd w b s k 0) (hst : Cuts s k (nb 1 (N % 256))) (hs : s.size ≤ 9223372036854775807) (hk : (K : Int) % 14 = 0) (hN : N < 18446744073709551616) (hS : S.size ≤ 1000000000) :
    Calls Tryz.prog 12 #[.pointer (some ⟨b, 0, none⟩), .agg #[.int .u8 K, .int .u64 N, .string S]] w fun e w' => e = .returned (.bool false) ∧ ∃ e', (e' = 20 ∨ e' = 21) ∧ Rd w' b s k e' ∧ Ch (fun i => i = b) w w' := by
  have _ := hN
  have _ := hS
  have hks : k ≤ s.size := by have := hst.1; omega
  have hV : N % 256 < 256 := by omega
  have hcv : IntKind.u8.wrap (N : Int) = ((N % 256 : Nat) : Int) := by rw [IntKind.wrap_u8]; omega
  have hcm : (N : Int) % 256 = ((N % 256 : Nat) : Int) := by omega
  generalize N % 256 = V at *
  have hbl : b < w.heap.size := hr.lt
  have bx : (w.alloc (.cells #[.int .u8 K, .int .u64 N, .string S] 32)).heap[w.heap.size]? = some (.cells #[.int .u8 K, .int .u64 N, .string S] 32 (0, 0)) := heap_new _ _
  obtain ⟨e', he, hq⟩ : ∃ e', (e' = 20 ∨ e' = 21) ∧ fx 1 s k 0 = (0, k, e') := ⟨20, Or.inl rfl, fx_cut hst⟩
  have pc := u8_any b s k 0 (w.alloc (.cells #[.int .u8 K, .int .u64 N, .string S] 32)) (hr.alloc _) hks hs
  rw [hq] at pc
  have PC := hid pc
  have BX := hid bx
  obtain ⟨k0, k1, k2⟩ := cells3w bx
  clear pc bx hst
  have hne : ¬ (e' : Int) = 0 := by omega
  by_cases hz : V = 0
  · subst hz
    go_enter Tryz.func12, Tryz.ntmps12
    go_wp2_with fail
    refine PC.out.mono ?_
    rintro e w2 ⟨rfl, h2, c2⟩
    have hc : Ch (fun i => i = b) w w2 := ((Ch.refl _ _).alloc _).trans c2
    obtain ⟨k0, k1, k2⟩ := cells3w ((c2.block w.heap.size (by simp) (by omega)).trans BX.out)
    have HC := hid hc
    have H2 := hid h2
    have hsw : w.heap.size < w2.heap.size := by have := c2.size; simp at this; omega
    clear h2 c2 hc
    go_wp2_with fail
    all_goals go_ret
    all_goals exact ⟨by first | rfl | exact congrArg (fun b => Ending.returned (.bool b)) (beq_eq_false_iff_ne.2 hne), e', he, H2.out, HC.out⟩
  · have hz' : ¬ (0 : Int) = (V : Int) := by omega
    go_enter Tryz.func12, Tryz.ntmps12
    go_wp2_with fail
    refine PC.out.mono ?_
    rintro e w2 ⟨rfl, h2, c2⟩
    have hc : Ch (fun i => i = b) w w2 := ((Ch.refl _ _).alloc _).trans c2
    obtain ⟨k0, k1, k2⟩ := cells3w ((c2.block w.heap.size (by simp) (by omega)).trans BX.out)
    have HC := hid hc
    have H2 := hid h2
    have hsw : w.heap.size < w2.heap.size := by have := c2.size; simp at this; omega
    clear h2 c2 hc
    go_wp2_with fail
    all_goals go_ret
    all_goals exact ⟨by first | rfl | exact congrArg (fun b => Ending.returned (.bool b)) (beq_eq_false_iff_ne.2 hne), e', he, H2.out, HC.out⟩
set_option maxHeartbeats 1000000 in
set_option maxRecDepth 20000 in
theorem again1_yes (b : Nat) (s : ByteArray) (k K N : Nat) (S : ByteArray) (w : World) (hr : Rd w b s k 0) (hst : Stands s k (nb 2 (N % 65536))) (hs : s.size ≤ 9223372036854775807) (hk : (K : Int) % 14 = 1) (hN : N < 18446744073709551616) (hS : S.size ≤ 1000000000) :
    Calls Tryz.prog 12 #[.pointer (some ⟨b, 0, none⟩), .agg #[.int .u8 K, .int .u64 N, .string S]] w fun e w' => e = .returned (.bool true) ∧ Rd w' b s (k + (nb 2 (N % 65536)).length) 0 ∧ Ch (fun i => i = b) w w' := by
  have _ := hN
  have _ := hS
  have hks : k ≤ s.size := by have := hst.1; omega
  have hV : N % 65536 < 65536 := by omega
  have hcv : IntKind.u16.wrap (N : Int) = ((N % 65536 : Nat) : Int) := by rw [IntKind.wrap_u16]; omega
  have hcm : (N : Int) % 65536 = ((N % 65536 : Nat) : Int) := by omega
  generalize N % 65536 = V at *
  have hbl : b < w.heap.size := hr.lt
  have bx : (w.alloc (.cells #[.int .u8 K, .int .u64 N, .string S] 32)).heap[w.heap.size]? = some (.cells #[.int .u8 K, .int .u64 N, .string S] 32 (0, 0)) := heap_new _ _
  have pc := u16_any b s k 0 (w.alloc (.cells #[.int .u8 K, .int .u64 N, .string S] 32)) (hr.alloc _) hks hs
  rw [fx_yes hst (by omega)] at pc
  rw [nb_len]
  have PC := hid pc
  have BX := hid bx
  obtain ⟨k0, k1, k2⟩ := cells3w bx
  clear pc bx hst
  go_enter Tryz.func12, Tryz.ntmps12
  go_wp2_with fail
  refine PC.out.mono ?_
  rintro e w2 ⟨rfl, h2, c2⟩
  have hc : Ch (fun i => i = b) w w2 := ((Ch.refl _ _).alloc _).trans c2
  obtain ⟨k0, k1, k2⟩ := cells3w ((c2.block w.heap.size (by simp) (by omega)).trans BX.out)
  have HC := hid hc
  have H2 := hid h2
  have hsw : w.heap.size < w2.heap.size := by have := c2.size; simp at this; omega
  clear h2 c2 hc
  go_wp2_with fail
  go_ret
  exact ⟨rfl, H2.out, HC.out⟩
set_option maxHeartbeats 1000000 in
set_option maxRecDepth 20000 in
theorem again1_no (b : Nat) (s : ByteArray) (k K N : Nat) (S : ByteArray) (w : World) (hr : Rd w b s k 0) (hst : Cuts s k (nb 2 (N % 65536))) (hs : s.size ≤ 9223372036854775807) (hk : (K : Int) % 14 = 1) (hN : N < 18446744073709551616) (hS : S.size ≤ 1000000000) :
    Calls Tryz.prog 12 #[.pointer (some ⟨b, 0, none⟩), .agg #[.int .u8 K, .int .u64 N, .string S]] w fun e w' => e = .returned (.bool false) ∧ ∃ e', (e' = 20 ∨ e' = 21) ∧ Rd w' b s k e' ∧ Ch (fun i => i = b) w w' := by
  have _ := hN
  have _ := hS
  have hks : k ≤ s.size := by have := hst.1; omega
  have hV : N % 65536 < 65536 := by omega
  have hcv : IntKind.u16.wrap (N : Int) = ((N % 65536 : Nat) : Int) := by rw [IntKind.wrap_u16]; omega
  have hcm : (N : Int) % 65536 = ((N % 65536 : Nat) : Int) := by omega
  generalize N % 65536 = V at *
  have hbl : b < w.heap.size := hr.lt
  have bx : (w.alloc (.cells #[.int .u8 K, .int .u64 N, .string S] 32)).heap[w.heap.size]? = some (.cells #[.int .u8 K, .int .u64 N, .string S] 32 (0, 0)) := heap_new _ _
  obtain ⟨e', he, hq⟩ : ∃ e', (e' = 20 ∨ e' = 21) ∧ fx 2 s k 0 = (0, k, e') := ⟨20, Or.inl rfl, fx_cut hst⟩
  have pc := u16_any b s k 0 (w.alloc (.cells #[.int .u8 K, .int .u64 N, .string S] 32)) (hr.alloc _) hks hs
  rw [hq] at pc
  have PC := hid pc
  have BX := hid bx
  obtain ⟨k0, k1, k2⟩ := cells3w bx
  clear pc bx hst
  have hne : ¬ (e' : Int) = 0 := by omega
  by_cases hz : V = 0
  · subst hz
    go_enter Tryz.func12, Tryz.ntmps12
    go_wp2_with fail
    refine PC.out.mono ?_
    rintro e w2 ⟨rfl, h2, c2⟩
    have hc : Ch (fun i => i = b) w w2 := ((Ch.refl _ _).alloc _).trans c2
    obtain ⟨k0, k1, k2⟩ := cells3w ((c2.block w.heap.size (by simp) (by omega)).trans BX.out)
    have HC := hid hc
    have H2 := hid h2
    have hsw : w.heap.size < w2.heap.size := by have := c2.size; simp at this; omega
    clear h2 c2 hc
    go_wp2_with fail
    all_goals go_ret
    all_goals exact ⟨by first | rfl | exact congrArg (fun b => Ending.returned (.bool b)) (beq_eq_false_iff_ne.2 hne), e', he, H2.out, HC.out⟩
  · have hz' : ¬ (0 : Int) = (V : Int) := by omega
    go_enter Tryz.func12, Tryz.ntmps12
    go_wp2_with fail
    refine PC.out.mono ?_
    rintro e w2 ⟨rfl, h2, c2⟩
    have hc : Ch (fun i => i = b) w w2 := ((Ch.refl _ _).alloc _).trans c2
    obtain ⟨k0, k1, k2⟩ := cells3w ((c2.block w.heap.size (by simp) (by omega)).trans BX.out)
    have HC := hid hc
    have H2 := hid h2
    have hsw : w.heap.size < w2.heap.size := by have := c2.size; simp at this; omega
    clear h2 c2 hc
    go_wp2_with fail
    all_goals go_ret
    all_goals exact ⟨by first | rfl | exact congrArg (fun b => Ending.returned (.bool b)) (beq_eq_false_iff_ne.2 hne), e', he, H2.out, HC.out⟩
set_option maxHeartbeats 1000000 in
set_option maxRecDepth 20000 in
theorem again2_yes (b : Nat) (s : ByteArray) (k K N : Nat) (S : ByteArray) (w : World) (hr : Rd w b s k 0) (hst : Stands s k (nb 4 (N % 4294967296))) (hs : s.size ≤ 9223372036854775807) (hk : (K : Int) % 14 = 2) (hN : N < 18446744073709551616) (hS : S.size ≤ 1000000000) :
    Calls Tryz.prog 12 #[.pointer (some ⟨b, 0, none⟩), .agg #[.int .u8 K, .int .u64 N, .string S]] w fun e w' => e = .returned (.bool true) ∧ Rd w' b s (k + (nb 4 (N % 4294967296)).length) 0 ∧ Ch (fun i => i = b) w w' := by
  have _ := hN
  have _ := hS
  have hks : k ≤ s.size := by have := hst.1; omega
  have hV : N % 4294967296 < 4294967296 := by omega
  have hcv : IntKind.u32.wrap (N : Int) = ((N % 4294967296 : Nat) : Int) := by rw [IntKind.wrap_u32]; omega
  have hcm : (N : Int) % 4294967296 = ((N % 4294967296 : Nat) : Int) := by omega
  generalize N % 4294967296 = V at *
  have hbl : b < w.heap.size := hr.lt
  have bx : (w.alloc (.cells #[.int .u8 K, .int .u64 N, .string S] 32)).heap[w.heap.size]? = some (.cells #[.int .u8 K, .int .u64 N, .string S] 32 (0, 0)) := heap_new _ _
  have pc := u32_any b s k 0 (w.alloc (.cells #[.int .u8 K, .int .u64 N, .string S] 32)) (hr.alloc _) hks hs
  rw [fx_yes hst (by omega)] at pc
  rw [nb_len]
  have PC := hid pc
  have BX := hid bx
  obtain ⟨k0, k1, k2⟩ := cells3w bx
  clear pc bx hst
  go_enter Tryz.func12, Tryz.ntmps12
  go_wp2_with fail
  refine PC.out.mono ?_
  rintro e w2 ⟨rfl, h2, c2⟩
  have hc : Ch (fun i => i = b) w w2 := ((Ch.refl _ _).alloc _).trans c2
  obtain ⟨k0, k1, k2⟩ := cells3w ((c2.block w.heap.size (by simp) (by omega)).trans BX.out)
  have HC := hid hc
  have H2 := hid h2
  have hsw : w.heap.size < w2.heap.size := by have := c2.size; simp at this; omega
  clear h2 c2 hc
  go_wp2_with fail
  go_ret
  exact ⟨rfl, H2.out, HC.out⟩
set_option maxHeartbeats 1000000 in
set_option maxRecDepth 20000 in
theorem again2_no (b : Nat) (s : ByteArray) (k K N : Nat) (S : ByteArray) (w : World) (hr : Rd w b s k 0) (hst : Cuts s k (nb 4 (N % 4294967296))) (hs : s.size ≤ 9223372036854775807) (hk : (K : Int) % 14 = 2) (hN : N < 18446744073709551616) (hS : S.size ≤ 1000000000) :
    Calls Tryz.prog 12 #[.pointer (some ⟨b, 0, none⟩), .agg #[.int .u8 K, .int .u64 N, .string S]] w fun e w' => e = .returned (.bool false) ∧ ∃ e', (e' = 20 ∨ e' = 21) ∧ Rd w' b s k e' ∧ Ch (fun i => i = b) w w' := by
  have _ := hN
  have _ := hS
  have hks : k ≤ s.size := by have := hst.1; omega
  have hV : N % 4294967296 < 4294967296 := by omega
  have hcv : IntKind.u32.wrap (N : Int) = ((N % 4294967296 : Nat) : Int) := by rw [IntKind.wrap_u32]; omega
  have hcm : (N : Int) % 4294967296 = ((N % 4294967296 : Nat) : Int) := by omega
  generalize N % 4294967296 = V at *
  have hbl : b < w.heap.size := hr.lt
  have bx : (w.alloc (.cells #[.int .u8 K, .int .u64 N, .string S] 32)).heap[w.heap.size]? = some (.cells #[.int .u8 K, .int .u64 N, .string S] 32 (0, 0)) := heap_new _ _
  obtain ⟨e', he, hq⟩ : ∃ e', (e' = 20 ∨ e' = 21) ∧ fx 4 s k 0 = (0, k, e') := ⟨20, Or.inl rfl, fx_cut hst⟩
  have pc := u32_any b s k 0 (w.alloc (.cells #[.int .u8 K, .int .u64 N, .string S] 32)) (hr.alloc _) hks hs
  rw [hq] at pc
  have PC := hid pc
  have BX := hid bx
  obtain ⟨k0, k1, k2⟩ := cells3w bx
  clear pc bx hst
  have hne : ¬ (e' : Int) = 0 := by omega
  by_cases hz : V = 0
  · subst hz
    go_enter Tryz.func12, Tryz.ntmps12
    go_wp2_with fail
    refine PC.out.mono ?_
    rintro e w2 ⟨rfl, h2, c2⟩
    have hc : Ch (fun i => i = b) w w2 := ((Ch.refl _ _).alloc _).trans c2
    obtain ⟨k0, k1, k2⟩ := cells3w ((c2.block w.heap.size (by simp) (by omega)).trans BX.out)
    have HC := hid hc
    have H2 := hid h2
    have hsw : w.heap.size < w2.heap.size := by have := c2.size; simp at this; omega
    clear h2 c2 hc
    go_wp2_with fail
    all_goals go_ret
    all_goals exact ⟨by first | rfl | exact congrArg (fun b => Ending.returned (.bool b)) (beq_eq_false_iff_ne.2 hne), e', he, H2.out, HC.out⟩
  · have hz' : ¬ (0 : Int) = (V : Int) := by omega
    go_enter Tryz.func12, Tryz.ntmps12
    go_wp2_with fail
    refine PC.out.mono ?_
    rintro e w2 ⟨rfl, h2, c2⟩
    have hc : Ch (fun i => i = b) w w2 := ((Ch.refl _ _).alloc _).trans c2
    obtain ⟨k0, k1, k2⟩ := cells3w ((c2.block w.heap.size (by simp) (by omega)).trans BX.out)
    have HC := hid hc
    have H2 := hid h2
    have hsw : w.heap.size < w2.heap.size := by have := c2.size; simp at this; omega
    clear h2 c2 hc
    go_wp2_with fail
    all_goals go_ret
    all_goals exact ⟨by first | rfl | exact congrArg (fun b => Ending.returned (.bool b)) (beq_eq_false_iff_ne.2 hne), e', he, H2.out, HC.out⟩
set_option maxHeartbeats 1000000 in
set_option maxRecDepth 20000 in
theorem again3_yes (b : Nat) (s : ByteArray) (k K N : Nat) (S : ByteArray) (w : World) (hr : Rd w b s k 0) (hst : Stands s k (nb 8 N)) (hs : s.size ≤ 9223372036854775807) (hk : (K : Int) % 14 = 3) (hN : N < 18446744073709551616) (hS : S.size ≤ 1000000000) :
    Calls Tryz.prog 12 #[.pointer (some ⟨b, 0, none⟩), .agg #[.int .u8 K, .int .u64 N, .string S]] w fun e w' => e = .returned (.bool true) ∧ Rd w' b s (k + (nb 8 N).length) 0 ∧ Ch (fun i => i = b) w w' := by
  have _ := hN
  have _ := hS
  have hks : k ≤ s.size := by have := hst.1; omega
  have hbl : b < w.heap.size := hr.lt
  have bx : (w.alloc (.cells #[.int .u8 K, .int .u64 N, .string S] 32)).heap[w.heap.size]? = some (.cells #[.int .u8 K, .int .u64 N, .string S] 32 (0, 0)) := heap_new _ _
  have pc := u64_any b s k 0 (w.alloc (.cells #[.int .u8 K, .int .u64 N, .string S] 32)) (hr.alloc _) hks hs
  rw [fx_yes hst (by omega)] at pc
  rw [nb_len]
  have PC := hid pc
  have BX := hid bx
  obtain ⟨k0, k1, k2⟩ := cells3w bx
  clear pc bx hst
  go_enter Tryz.func12, Tryz.ntmps12
  go_wp2_with fail
  refine PC.out.mono ?_
  rintro e w2 ⟨rfl, h2, c2⟩
  have hc : Ch (fun i => i = b) w w2 := ((Ch.refl _ _).alloc _).trans c2
  obtain ⟨k0, k1, k2⟩ := cells3w ((c2.block w.heap.size (by simp) (by omega)).trans BX.out)
  have HC := hid hc
  have H2 := hid h2
  have hsw : w.heap.size < w2.heap.size := by have := c2.size; simp at this; omega
  clear h2 c2 hc
  go_wp2_with fail
  go_ret
  exact ⟨rfl, H2.out, HC.out⟩
set_option maxHeartbeats 1000000 in
set_option maxRecDepth 20000 in
theorem again3_no (b : Nat) (s : ByteArray) (k K N : Nat) (S : ByteArray) (w : World) (hr : Rd w b s k 0) (hst : Cuts s k (nb 8 N)) (hs : s.size ≤ 9223372036854775807) (hk : (K : Int) % 14 = 3) (hN : N < 18446744073709551616) (hS : S.size ≤ 1000000000) :
    Calls Tryz.prog 12 #[.pointer (some ⟨b, 0, none⟩), .agg #[.int .u8 K, .int .u64 N, .string S]] w fun e w' => e = .returned (.bool false) ∧ ∃ e', (e' = 20 ∨ e' = 21) ∧ Rd w' b s k e' ∧ Ch (fun i => i = b) w w' := by
  have _ := hN
  have _ := hS
  have hks : k ≤ s.size := by have := hst.1; omega
  have hbl : b < w.heap.size := hr.lt
  have bx : (w.alloc (.cells #[.int .u8 K, .int .u64 N, .string S] 32)).heap[w.heap.size]? = some (.cells #[.int .u8 K, .int .u64 N, .string S] 32 (0, 0)) := heap_new _ _
  obtain ⟨e', he, hq⟩ : ∃ e', (e' = 20 ∨ e' = 21) ∧ fx 8 s k 0 = (0, k, e') := ⟨20, Or.inl rfl, fx_cut hst⟩
  have pc := u64_any b s k 0 (w.alloc (.cells #[.int .u8 K, .int .u64 N, .string S] 32)) (hr.alloc _) hks hs
  rw [hq] at pc
  have PC := hid pc
  have BX := hid bx
  obtain ⟨k0, k1, k2⟩ := cells3w bx
  clear pc bx hst
  have hne : ¬ (e' : Int) = 0 := by omega
  by_cases hz : N = 0
  · subst hz
    go_enter Tryz.func12, Tryz.ntmps12
    go_wp2_with fail
    refine PC.out.mono ?_
    rintro e w2 ⟨rfl, h2, c2⟩
    have hc : Ch (fun i => i = b) w w2 := ((Ch.refl _ _).alloc _).trans c2
    obtain ⟨k0, k1, k2⟩ := cells3w ((c2.block w.heap.size (by simp) (by omega)).trans BX.out)
    have HC := hid hc
    have H2 := hid h2
    have hsw : w.heap.size < w2.heap.size := by have := c2.size; simp at this; omega
    clear h2 c2 hc
    go_wp2_with fail
    all_goals go_ret
    all_goals exact ⟨by first | rfl | exact congrArg (fun b => Ending.returned (.bool b)) (beq_eq_false_iff_ne.2 hne), e', he, H2.out, HC.out⟩
  · have hz' : ¬ (0 : Int) = (N : Int) := by omega
    go_enter Tryz.func12, Tryz.ntmps12
    go_wp2_with fail
    refine PC.out.mono ?_
    rintro e w2 ⟨rfl, h2, c2⟩
    have hc : Ch (fun i => i = b) w w2 := ((Ch.refl _ _).alloc _).trans c2
    obtain ⟨k0, k1, k2⟩ := cells3w ((c2.block w.heap.size (by simp) (by omega)).trans BX.out)
    have HC := hid hc
    have H2 := hid h2
    have hsw : w.heap.size < w2.heap.size := by have := c2.size; simp at this; omega
    clear h2 c2 hc
    go_wp2_with fail
    all_goals go_ret
    all_goals exact ⟨by first | rfl | exact congrArg (fun b => Ending.returned (.bool b)) (beq_eq_false_iff_ne.2 hne), e', he, H2.out, HC.out⟩
set_option maxHeartbeats 1000000 in
set_option maxRecDepth 20000 in
theorem again4_yes (b : Nat) (s : ByteArray) (k K N : Nat) (S : ByteArray) (w : World) (hr : Rd w b s k 0) (hst : Stands s k (nb 4 ((IntKind.i32.wrap (N : Int)) % 4294967296).toNat)) (hs : s.size ≤ 9223372036854775807) (hk : (K : Int) % 14 = 4) (hN : N < 18446744073709551616) (hS : S.size ≤ 1000000000) :
    Calls Tryz.prog 12 #[.pointer (some ⟨b, 0, none⟩), .agg #[.int .u8 K, .int .u64 N, .string S]] w fun e w' => e = .returned (.bool true) ∧ Rd w' b s (k + (nb 4 ((IntKind.i32.wrap (N : Int)) % 4294967296).toNat).length) 0 ∧ Ch (fun i => i = b) w w' := by
  have _ := hN
  have _ := hS
  have hks : k ≤ s.size := by have := hst.1; omega
  obtain ⟨v, hcv⟩ : ∃ v, IntKind.i32.wrap (N : Int) = v := ⟨_, rfl⟩
  have hv : -2147483648 ≤ v ∧ v ≤ 2147483647 := by rw [← hcv, IntKind.wrap_i32]; omega
  rw [hcv] at hst
  have hbl : b < w.heap.size := hr.lt
  have bx : (w.alloc (.cells #[.int .u8 K, .int .u64 N, .string S] 32)).heap[w.heap.size]? = some (.cells #[.int .u8 K, .int .u64 N, .string S] 32 (0, 0)) := heap_new _ _
  have pc := i32_any b s k 0 (w.alloc (.cells #[.int .u8 K, .int .u64 N, .string S] 32)) (hr.alloc _) hks hs
  rw [fx_yes hst (by omega)] at pc
  dsimp only at pc
  rw [w32_back hv] at pc
  rw [nb_len]
  have PC := hid pc
  have BX := hid bx
  obtain ⟨k0, k1, k2⟩ := cells3w bx
  clear pc bx hst
  go_enter Tryz.func12, Tryz.ntmps12
  go_wp2_with fail
  refine PC.out.mono ?_
  rintro e w2 ⟨rfl, h2, c2⟩
  have hc : Ch (fun i => i = b) w w2 := ((Ch.refl _ _).alloc _).trans c2
  obtain ⟨k0, k1, k2⟩ := cells3w ((c2.block w.heap.size (by simp) (by omega)).trans BX.out)
  have HC := hid hc
  have H2 := hid h2
  have hsw : w.heap.size < w2.heap.size := by have := c2.size; simp at this; omega
  clear h2 c2 hc
  go_wp2_with fail
  go_ret
  exact ⟨rfl, H2.out, HC.out⟩
set_option maxHeartbeats 1000000 in
set_option maxRecDepth 20000 in
theorem again4_no (b : Nat) (s : ByteArray) (k K N : Nat) (S : ByteArray) (w : World) (hr : Rd w b s k 0) (hst : Cuts s k (nb 4 ((IntKind.i32.wrap (N : Int)) % 4294967296).toNat)) (hs : s.size ≤ 9223372036854775807) (hk : (K : Int) % 14 = 4) (hN : N < 18446744073709551616) (hS : S.size ≤ 1000000000) :
    Calls Tryz.prog 12 #[.pointer (some ⟨b, 0, none⟩), .agg #[.int .u8 K, .int .u64 N, .string S]] w fun e w' => e = .returned (.bool false) ∧ ∃ e', (e' = 20 ∨ e' = 21) ∧ Rd w' b s k e' ∧ Ch (fun i => i = b) w w' := by
  have _ := hN
  have _ := hS
  have hks : k ≤ s.size := by have := hst.1; omega
  obtain ⟨v, hcv⟩ : ∃ v, IntKind.i32.wrap (N : Int) = v := ⟨_, rfl⟩
  have hv : -2147483648 ≤ v ∧ v ≤ 2147483647 := by rw [← hcv, IntKind.wrap_i32]; omega
  rw [hcv] at hst
  have hbl : b < w.heap.size := hr.lt
  have bx : (w.alloc (.cells #[.int .u8 K, .int .u64 N, .string S] 32)).heap[w.heap.size]? = some (.cells #[.int .u8 K, .int .u64 N, .string S] 32 (0, 0)) := heap_new _ _
  obtain ⟨e', he, hq⟩ : ∃ e', (e' = 20 ∨ e' = 21) ∧ fx 4 s k 0 = (0, k, e') := ⟨20, Or.inl rfl, fx_cut hst⟩
  have pc := i32_any b s k 0 (w.alloc (.cells #[.int .u8 K, .int .u64 N, .string S] 32)) (hr.alloc _) hks hs
  rw [hq] at pc
  dsimp only at pc
  rw [wrap32_0] at pc
  have PC := hid pc
  have BX := hid bx
  obtain ⟨k0, k1, k2⟩ := cells3w bx
  clear pc bx hst
  have hne : ¬ (e' : Int) = 0 := by omega
  by_cases hz : v = 0
  · subst hz
    go_enter Tryz.func12, Tryz.ntmps12
    go_wp2_with fail
    refine PC.out.mono ?_
    rintro e w2 ⟨rfl, h2, c2⟩
    have hc : Ch (fun i => i = b) w w2 := ((Ch.refl _ _).alloc _).trans c2
    obtain ⟨k0, k1, k2⟩ := cells3w ((c2.block w.heap.size (by simp) (by omega)).trans BX.out)
    have HC := hid hc
    have H2 := hid h2
    have hsw : w.heap.size < w2.heap.size := by have := c2.size; simp at this; omega
    clear h2 c2 hc
    go_wp2_with fail
    all_goals go_ret
    all_goals exact ⟨by first | rfl | exact congrArg (fun b => Ending.returned (.bool b)) (beq_eq_false_iff_ne.2 hne), e', he, H2.out, HC.out⟩
  · have hz' : ¬ (0 : Int) = v := by omega
    go_enter Tryz.func12, Tryz.ntmps12
    go_wp2_with fail
    refine PC.out.mono ?_
    rintro e w2 ⟨rfl, h2, c2⟩
    have hc : Ch (fun i => i = b) w w2 := ((Ch.refl _ _).alloc _).trans c2
    obtain ⟨k0, k1, k2⟩ := cells3w ((c2.block w.heap.size (by simp) (by omega)).trans BX.out)
    have HC := hid hc
    have H2 := hid h2
    have hsw : w.heap.size < w2.heap.size := by have := c2.size; simp at this; omega
    clear h2 c2 hc
    go_wp2_with fail
    all_goals go_ret
    all_goals exact ⟨by first | rfl | exact congrArg (fun b => Ending.returned (.bool b)) (beq_eq_false_iff_ne.2 hne), e', he, H2.out, HC.out⟩
set_option maxHeartbeats 1000000 in
set_option maxRecDepth 20000 in
theorem again5_yes (b : Nat) (s : ByteArray) (k K N : Nat) (S : ByteArray) (w : World) (hr : Rd w b s k 0) (hst : Stands s k (nb 8 ((IntKind.i64.wrap (N : Int)) % 18446744073709551616).toNat)) (hs : s.size ≤ 9223372036854775807) (hk : (K : Int) % 14 = 5) (hN : N < 18446744073709551616) (hS : S.size ≤ 1000000000) :
    Calls Tryz.prog 12 #[.pointer (some ⟨b, 0, none⟩), .agg #[.int .u8 K, .int .u64 N, .string S]] w fun e w' => e = .returned (.bool true) ∧ Rd w' b s (k + (nb 8 ((IntKind.i64.wrap (N : Int)) % 18446744073709551616).toNat).length) 0 ∧ Ch (fun i => i = b) w w' := by
  have _ := hN
  have _ := hS
  have hks : k ≤ s.size := by have := hst.1; omega
  obtain ⟨v, hcv⟩ : ∃ v, IntKind.i64.wrap (N : Int) = v := ⟨_, rfl⟩
  have hv : -9223372036854775808 ≤ v ∧ v ≤ 9223372036854775807 := by rw [← hcv, IntKind.wrap_i64]; omega
  rw [hcv] at hst
  have hbl : b < w.heap.size := hr.lt
  have bx : (w.alloc (.cells #[.int .u8 K, .int .u64 N, .string S] 32)).heap[w.heap.size]? = some (.cells #[.int .u8 K, .int .u64 N, .string S] 32 (0, 0)) := heap_new _ _
  have pc := i64_any b s k 0 (w.alloc (.cells #[.int .u8 K, .int .u64 N, .string S] 32)) (hr.alloc _) hks hs
  rw [fx_yes hst (by omega)] at pc
  dsimp only at pc
  rw [w64_back hv] at pc
  rw [nb_len]
  have PC := hid pc
  have BX := hid bx
  obtain ⟨k0, k1, k2⟩ := cells3w bx
  clear pc bx hst
  go_enter Tryz.func12, Tryz.ntmps12
  go_wp2_with fail
  refine PC.out.mono ?_
  rintro e w2 ⟨rfl, h2, c2⟩
  have hc : Ch (fun i => i = b) w w2 := ((Ch.refl _ _).alloc _).trans c2
  obtain ⟨k0, k1, k2⟩ := cells3w ((c2.block w.heap.size (by simp) (by omega)).trans BX.out)
  have HC := hid hc
  have H2 := hid h2
  have hsw : w.heap.size < w2.heap.size := by have := c2.size; simp at this; omega
  clear h2 c2 hc
  go_wp2_with fail
  go_ret
  exact ⟨rfl, H2.out, HC.out⟩
set_option maxHeartbeats 1000000 in
set_option maxRecDepth 20000 in
theorem again5_no (b : Nat) (s : ByteArray) (k K N : Nat) (S : ByteArray) (w : World) (hr : Rd w b s k 0) (hst : Cuts s k (nb 8 ((IntKind.i64.wrap (N : Int)) % 18446744073709551616).toNat)) (hs : s.size ≤ 9223372036854775807) (hk : (K : Int) % 14 = 5) (hN : N < 18446744073709551616) (hS : S.size ≤ 1000000000) :
    Calls Tryz.prog 12 #[.pointer (some ⟨b, 0, none⟩), .agg #[.int .u8 K, .int .u64 N, .string S]] w fun e w' => e = .returned (.bool false) ∧ ∃ e', (e' = 20 ∨ e' = 21) ∧ Rd w' b s k e' ∧ Ch (fun i => i = b) w w' := by
  have _ := hN
  have _ := hS
  have hks : k ≤ s.size := by have := hst.1; omega
  obtain ⟨v, hcv⟩ : ∃ v, IntKind.i64.wrap (N : Int) = v := ⟨_, rfl⟩
  have hv : -9223372036854775808 ≤ v ∧ v ≤ 9223372036854775807 := by rw [← hcv, IntKind.wrap_i64]; omega
  rw [hcv] at hst
  have hbl : b < w.heap.size := hr.lt
  have bx : (w.alloc (.cells #[.int .u8 K, .int .u64 N, .string S] 32)).heap[w.heap.size]? = some (.cells #[.int .u8 K, .int .u64 N, .string S] 32 (0, 0)) := heap_new _ _
  obtain ⟨e', he, hq⟩ : ∃ e', (e' = 20 ∨ e' = 21) ∧ fx 8 s k 0 = (0, k, e') := ⟨20, Or.inl rfl, fx_cut hst⟩
  have pc := i64_any b s k 0 (w.alloc (.cells #[.int .u8 K, .int .u64 N, .string S] 32)) (hr.alloc _) hks hs
  rw [hq] at pc
  dsimp only at pc
  rw [wrap64_0] at pc
  have PC := hid pc
  have BX := hid bx
  obtain ⟨k0, k1, k2⟩ := cells3w bx
  clear pc bx hst
  have hne : ¬ (e' : Int) = 0 := by omega
  by_cases hz : v = 0
  · subst hz
    go_enter Tryz.func12, Tryz.ntmps12
    go_wp2_with fail
    refine PC.out.mono ?_
    rintro e w2 ⟨rfl, h2, c2⟩
    have hc : Ch (fun i => i = b) w w2 := ((Ch.refl _ _).alloc _).trans c2
    obtain ⟨k0, k1, k2⟩ := cells3w ((c2.block w.heap.size (by simp) (by omega)).trans BX.out)
    have HC := hid hc
    have H2 := hid h2
    have hsw : w.heap.size < w2.heap.size := by have := c2.size; simp at this; omega
    clear h2 c2 hc
    go_wp2_with fail
    all_goals go_ret
    all_goals exact ⟨by first | rfl | exact congrArg (fun b => Ending.returned (.bool b)) (beq_eq_false_iff_ne.2 hne), e', he, H2.out, HC.out⟩
  · have hz' : ¬ (0 : Int) = v := by omega
    go_enter Tryz.func12, Tryz.ntmps12
    go_wp2_with fail
    refine PC.out.mono ?_
    rintro e w2 ⟨rfl, h2, c2⟩
    have hc : Ch (fun i => i = b) w w2 := ((Ch.refl _ _).alloc _).trans c2
    obtain ⟨k0, k1, k2⟩ := cells3w ((c2.block w.heap.size (by simp) (by omega)).trans BX.out)
    have HC := hid hc
    have H2 := hid h2
    have hsw : w.heap.size < w2.heap.size := by have := c2.size; simp at this; omega
    clear h2 c2 hc
    go_wp2_with fail
    all_goals go_ret
    all_goals exact ⟨by first | rfl | exact congrArg (fun b => Ending.returned (.bool b)) (beq_eq_false_iff_ne.2 hne), e', he, H2.out, HC.out⟩
set_option maxHeartbeats 1000000 in
set_option maxRecDepth 20000 in
theorem again6_yes (b : Nat) (s : ByteArray) (k K N : Nat) (S : ByteArray) (w : World) (hr : Rd w b s k 0) (hst : Stands s k (M.form N)) (hs : s.size ≤ 9223372036854775807) (hk : (K : Int) % 14 = 6) (hN : N < 18446744073709551616) (hS : S.size ≤ 1000000000) :
    Calls Tryz.prog 12 #[.pointer (some ⟨b, 0, none⟩), .agg #[.int .u8 K, .int .u64 N, .string S]] w fun e w' => e = .returned (.bool true) ∧ Rd w' b s (k + (M.form N).length) 0 ∧ Ch (fun i => i = b) w w' := by
  have _ := hN
  have _ := hS
  have hks : k ≤ s.size := by have := hst.1; omega
  have hbl : b < w.heap.size := hr.lt
  have bx : (w.alloc (.cells #[.int .u8 K, .int .u64 N, .string S] 32)).heap[w.heap.size]? = some (.cells #[.int .u8 K, .int .u64 N, .string S] 32 (0, 0)) := heap_new _ _
  have pc := uvarint_any b s k 0 (w.alloc (.cells #[.int .u8 K, .int .u64 N, .string S] 32)) (hr.alloc _) hks hs
  rw [uq_yes hst hN] at pc
  have PC := hid pc
  have BX := hid bx
  obtain ⟨k0, k1, k2⟩ := cells3w bx
  clear pc bx hst
  go_enter Tryz.func12, Tryz.ntmps12
  go_wp2_with fail
  refine PC.out.mono ?_
  rintro e w2 ⟨rfl, h2, c2⟩
  have hc : Ch (fun i => i = b) w w2 := ((Ch.refl _ _).alloc _).trans c2
  obtain ⟨k0, k1, k2⟩ := cells3w ((c2.block w.heap.size (by simp) (by omega)).trans BX.out)
  have HC := hid hc
  have H2 := hid h2
  have hsw : w.heap.size < w2.heap.size := by have := c2.size; simp at this; omega
  clear h2 c2 hc
  go_wp2_with fail
  go_ret
  exact ⟨rfl, H2.out, HC.out⟩
set_option maxHeartbeats 1000000 in
set_option maxRecDepth 20000 in
theorem again6_no (b : Nat) (s : ByteArray) (k K N : Nat) (S : ByteArray) (w : World) (hr : Rd w b s k 0) (hst : Cuts s k (M.form N)) (hs : s.size ≤ 9223372036854775807) (hk : (K : Int) % 14 = 6) (hN : N < 18446744073709551616) (hS : S.size ≤ 1000000000) :
    Calls Tryz.prog 12 #[.pointer (some ⟨b, 0, none⟩), .agg #[.int .u8 K, .int .u64 N, .string S]] w fun e w' => e = .returned (.bool false) ∧ ∃ e', (e' = 20 ∨ e' = 21) ∧ Rd w' b s k e' ∧ Ch (fun i => i = b) w w' := by
  have _ := hN
  have _ := hS
  have hks : k ≤ s.size := by have := hst.1; omega
  have hbl : b < w.heap.size := hr.lt
  have bx : (w.alloc (.cells #[.int .u8 K, .int .u64 N, .string S] 32)).heap[w.heap.size]? = some (.cells #[.int .u8 K, .int .u64 N, .string S] 32 (0, 0)) := heap_new _ _
  obtain ⟨e', he, hq⟩ : ∃ e', (e' = 20 ∨ e' = 21) ∧ uq s k 0 = (0, k, e') := ⟨20, Or.inl rfl, uq_cut hst hN⟩
  have pc := uvarint_any b s k 0 (w.alloc (.cells #[.int .u8 K, .int .u64 N, .string S] 32)) (hr.alloc _) hks hs
  rw [hq] at pc
  have PC := hid pc
  have BX := hid bx
  obtain ⟨k0, k1, k2⟩ := cells3w bx
  clear pc bx hst
  have hne : ¬ (e' : Int) = 0 := by omega
  by_cases hz : N = 0
  · subst hz
    go_enter Tryz.func12, Tryz.ntmps12
    go_wp2_with fail
    refine PC.out.mono ?_
    rintro e w2 ⟨rfl, h2, c2⟩
    have hc : Ch (fun i => i = b) w w2 := ((Ch.refl _ _).alloc _).trans c2
    obtain ⟨k0, k1, k2⟩ := cells3w ((c2.block w.heap.size (by simp) (by omega)).trans BX.out)
    have HC := hid hc
    have H2 := hid h2
    have hsw : w.heap.size < w2.heap.size := by have := c2.size; simp at this; omega
    clear h2 c2 hc
    go_wp2_with fail
    all_goals go_ret
    all_goals exact ⟨by first | rfl | exact congrArg (fun b => Ending.returned (.bool b)) (beq_eq_false_iff_ne.2 hne), e', he, H2.out, HC.out⟩
  · have hz' : ¬ (0 : Int) = (N : Int) := by omega
    go_enter Tryz.func12, Tryz.ntmps12
    go_wp2_with fail
    refine PC.out.mono ?_
    rintro e w2 ⟨rfl, h2, c2⟩
    have hc : Ch (fun i => i = b) w w2 := ((Ch.refl _ _).alloc _).trans c2
    obtain ⟨k0, k1, k2⟩ := cells3w ((c2.block w.heap.size (by simp) (by omega)).trans BX.out)
    have HC := hid hc
    have H2 := hid h2
    have hsw : w.heap.size < w2.heap.size := by have := c2.size; simp at this; omega
    clear h2 c2 hc
    go_wp2_with fail
    all_goals go_ret
    all_goals exact ⟨by first | rfl | exact congrArg (fun b => Ending.returned (.bool b)) (beq_eq_false_iff_ne.2 hne), e', he, H2.out, HC.out⟩
set_option maxHeartbeats 1000000 in
set_option maxRecDepth 20000 in
theorem again7_yes (b : Nat) (s : ByteArray) (k K N : Nat) (S : ByteArray) (w : World) (hr : Rd w b s k 0) (hst : Stands s k (M.form (M.zz (IntKind.i64.wrap (N : Int))).toNat)) (hs : s.size ≤ 9223372036854775807) (hk : (K : Int) % 14 = 7) (hN : N < 18446744073709551616) (hS : S.size ≤ 1000000000) :
    Calls Tryz.prog 12 #[.pointer (some ⟨b, 0, none⟩), .agg #[.int .u8 K, .int .u64 N, .string S]] w fun e w' => e = .returned (.bool true) ∧ Rd w' b s (k + (M.form (M.zz (IntKind.i64.wrap (N : Int))).toNat).length) 0 ∧ Ch (fun i => i = b) w w' := by
  have _ := hN
  have _ := hS
  have hks : k ≤ s.size := by have := hst.1; omega
  obtain ⟨v, hcv⟩ : ∃ v, IntKind.i64.wrap (N : Int) = v := ⟨_, rfl⟩
  have hv : -9223372036854775808 ≤ v ∧ v ≤ 9223372036854775807 := by rw [← hcv, IntKind.wrap_i64]; omega
  rw [hcv] at hst
  have hbl : b < w.heap.size := hr.lt
  have bx : (w.alloc (.cells #[.int .u8 K, .int .u64 N, .string S] 32)).heap[w.heap.size]? = some (.cells #[.int .u8 K, .int .u64 N, .string S] 32 (0, 0)) := heap_new _ _
  rw [hcv]
  have pc := varint_any b s k 0 (w.alloc (.cells #[.int .u8 K, .int .u64 N, .string S] 32)) (hr.alloc _) hks hs
  rw [vq_yes hst hv] at pc
  have PC := hid pc
  have BX := hid bx
  obtain ⟨k0, k1, k2⟩ := cells3w bx
  clear pc bx hst
  go_enter Tryz.func12, Tryz.ntmps12
  go_wp2_with fail
  refine PC.out.mono ?_
  rintro e w2 ⟨rfl, h2, c2⟩
  have hc : Ch (fun i => i = b) w w2 := ((Ch.refl _ _).alloc _).trans c2
  obtain ⟨k0, k1, k2⟩ := cells3w ((c2.block w.heap.size (by simp) (by omega)).trans BX.out)
  have HC := hid hc
  have H2 := hid h2
  have hsw : w.heap.size < w2.heap.size := by have := c2.size; simp at this; omega
  clear h2 c2 hc
  go_wp2_with fail
  go_ret
  exact ⟨rfl, H2.out, HC.out⟩
set_option maxHeartbeats 1000000 in
set_option maxRecDepth 20000 in
theorem again7_no (b : Nat) (s : ByteArray) (k K N : Nat) (S : ByteArray) (w : World) (hr : Rd w b s k 0) (hst : Cuts s k (M.form (M.zz (IntKind.i64.wrap (N : Int))).toNat)) (hs : s.size ≤ 9223372036854775807) (hk : (K : Int) % 14 = 7) (hN : N < 18446744073709551616) (hS : S.size ≤ 1000000000) :
    Calls Tryz.prog 12 #[.pointer (some ⟨b, 0, none⟩), .agg #[.int .u8 K, .int .u64 N, .string S]] w fun e w' => e = .returned (.bool false) ∧ ∃ e', (e' = 20 ∨ e' = 21) ∧ Rd w' b s k e' ∧ Ch (fun i => i = b) w w' := by
  have _ := hN
  have _ := hS
  have hks : k ≤ s.size := by have := hst.1; omega
  obtain ⟨v, hcv⟩ : ∃ v, IntKind.i64.wrap (N : Int) = v := ⟨_, rfl⟩
  have hv : -9223372036854775808 ≤ v ∧ v ≤ 9223372036854775807 := by rw [← hcv, IntKind.wrap_i64]; omega
  rw [hcv] at hst
  have hbl : b < w.heap.size := hr.lt
  have bx : (w.alloc (.cells #[.int .u8 K, .int .u64 N, .string S] 32)).heap[w.heap.size]? = some (.cells #[.int .u8 K, .int .u64 N, .string S] 32 (0, 0)) := heap_new _ _
  obtain ⟨e', he, hq⟩ : ∃ e', (e' = 20 ∨ e' = 21) ∧ vq s k 0 = (0, k, e') := ⟨20, Or.inl rfl, vq_cut hst hv⟩
  have pc := varint_any b s k 0 (w.alloc (.cells #[.int .u8 K, .int .u64 N, .string S] 32)) (hr.alloc _) hks hs
  rw [hq] at pc
  have PC := hid pc
  have BX := hid bx
  obtain ⟨k0, k1, k2⟩ := cells3w bx
  clear pc bx hst
  have hne : ¬ (e' : Int) = 0 := by omega
  by_cases hz : v = 0
  · subst hz
    go_enter Tryz.func12, Tryz.ntmps12
    go_wp2_with fail
    refine PC.out.mono ?_
    rintro e w2 ⟨rfl, h2, c2⟩
    have hc : Ch (fun i => i = b) w w2 := ((Ch.refl _ _).alloc _).trans c2
    obtain ⟨k0, k1, k2⟩ := cells3w ((c2.block w.heap.size (by simp) (by omega)).trans BX.out)
    have HC := hid hc
    have H2 := hid h2
    have hsw : w.heap.size < w2.heap.size := by have := c2.size; simp at this; omega
    clear h2 c2 hc
    go_wp2_with fail
    all_goals go_ret
    all_goals exact ⟨by first | rfl | exact congrArg (fun b => Ending.returned (.bool b)) (beq_eq_false_iff_ne.2 hne), e', he, H2.out, HC.out⟩
  · have hz' : ¬ (0 : Int) = v := by omega
    go_enter Tryz.func12, Tryz.ntmps12
    go_wp2_with fail
    refine PC.out.mono ?_
    rintro e w2 ⟨rfl, h2, c2⟩
    have hc : Ch (fun i => i = b) w w2 := ((Ch.refl _ _).alloc _).trans c2
    obtain ⟨k0, k1, k2⟩ := cells3w ((c2.block w.heap.size (by simp) (by omega)).trans BX.out)
    have HC := hid hc
    have H2 := hid h2
    have hsw : w.heap.size < w2.heap.size := by have := c2.size; simp at this; omega
    clear h2 c2 hc
    go_wp2_with fail
    all_goals go_ret
    all_goals exact ⟨by first | rfl | exact congrArg (fun b => Ending.returned (.bool b)) (beq_eq_false_iff_ne.2 hne), e', he, H2.out, HC.out⟩
set_option maxHeartbeats 1000000 in
set_option maxRecDepth 20000 in
theorem again8_yes (b : Nat) (s : ByteArray) (k K N : Nat) (S : ByteArray) (w : World) (hr : Rd w b s k 0) (hst : Stands s k (bl S)) (hs : s.size ≤ 9223372036854775807) (hk : (K : Int) % 14 = 8) (hN : N < 18446744073709551616) (hS : S.size ≤ 1000000000) :
    Calls Tryz.prog 12 #[.pointer (some ⟨b, 0, none⟩), .agg #[.int .u8 K, .int .u64 N, .string S]] w fun e w' => e = .returned (.bool true) ∧ Rd w' b s (k + (bl S).length) 0 ∧ Ch (fun i => i = b) w w' := by
  have _ := hN
  have _ := hS
  have hks : k ≤ s.size := by have := hst.1; omega
  have hbl : b < w.heap.size := hr.lt
  have bx : (w.alloc (.cells #[.int .u8 K, .int .u64 N, .string S] 32)).heap[w.heap.size]? = some (.cells #[.int .u8 K, .int .u64 N, .string S] 32 (0, 0)) := heap_new _ _
  have pc := rraw_any b s k 0 (S.size : Int) (w.alloc (.cells #[.int .u8 K, .int .u64 N, .string S] 32)) (hr.alloc _) hks hs (by omega) (by omega)
  rw [rq_yes hst] at pc
  have PC := hid pc
  have BX := hid bx
  obtain ⟨k0, k1, k2⟩ := cells3w bx
  clear pc bx hst
  go_enter Tryz.func12, Tryz.ntmps12
  go_wp2_with fail
  refine PC.out.mono ?_
  rintro e w2 ⟨rfl, h2, c2⟩
  have hc : Ch (fun i => i = b) w w2 := ((Ch.refl _ _).alloc _).trans c2
  obtain ⟨k0, k1, k2⟩ := cells3w ((c2.block w.heap.size (by simp) (by omega)).trans BX.out)
  have HC := hid hc
  have H2 := hid h2
  have hsw : w.heap.size < w2.heap.size := by have := c2.size; simp at this; omega
  clear h2 c2 hc
  go_wp2_with fail
  go_ret
  exact ⟨rfl, H2.out, HC.out⟩
set_option maxHeartbeats 1000000 in
set_option maxRecDepth 20000 in
theorem again8_no (b : Nat) (s : ByteArray) (k K N : Nat) (S : ByteArray) (w : World) (hr : Rd w b s k 0) (hst : Cuts s k (bl S)) (hs : s.size ≤ 9223372036854775807) (hk : (K : Int) % 14 = 8) (hN : N < 18446744073709551616) (hS : S.size ≤ 1000000000) :
    Calls Tryz.prog 12 #[.pointer (some ⟨b, 0, none⟩), .agg #[.int .u8 K, .int .u64 N, .string S]] w fun e w' => e = .returned (.bool false) ∧ ∃ e', (e' = 20 ∨ e' = 21) ∧ Rd w' b s k e' ∧ Ch (fun i => i = b) w w' := by
  have _ := hN
  have _ := hS
  have hks : k ≤ s.size := by have := hst.1; omega
  have hbl : b < w.heap.size := hr.lt
  have bx : (w.alloc (.cells #[.int .u8 K, .int .u64 N, .string S] 32)).heap[w.heap.size]? = some (.cells #[.int .u8 K, .int .u64 N, .string S] 32 (0, 0)) := heap_new _ _
  obtain ⟨e', he, hq⟩ : ∃ e', (e' = 20 ∨ e' = 21) ∧ rq (S.size : Int) s k 0 = (⟨#[]⟩, k, e') := ⟨20, Or.inl rfl, rq_cut hst⟩
  have pc := rraw_any b s k 0 (S.size : Int) (w.alloc (.cells #[.int .u8 K, .int .u64 N, .string S] 32)) (hr.alloc _) hks hs (by omega) (by omega)
  rw [hq] at pc
  have PC := hid pc
  have BX := hid bx
  obtain ⟨k0, k1, k2⟩ := cells3w bx
  clear pc bx hst
  have hne : ¬ (e' : Int) = 0 := by omega
  by_cases hz : S = ⟨#[]⟩
  · subst hz
    go_enter Tryz.func12, Tryz.ntmps12
    go_wp2_with fail
    refine PC.out.mono ?_
    rintro e w2 ⟨rfl, h2, c2⟩
    have hc : Ch (fun i => i = b) w w2 := ((Ch.refl _ _).alloc _).trans c2
    obtain ⟨k0, k1, k2⟩ := cells3w ((c2.block w.heap.size (by simp) (by omega)).trans BX.out)
    have HC := hid hc
    have H2 := hid h2
    have hsw : w.heap.size < w2.heap.size := by have := c2.size; simp at this; omega
    clear h2 c2 hc
    go_wp2_with fail
    all_goals go_ret
    all_goals exact ⟨by first | rfl | exact congrArg (fun b => Ending.returned (.bool b)) (beq_eq_false_iff_ne.2 hne), e', he, H2.out, HC.out⟩
  · have hz' : ¬ (⟨#[]⟩ : ByteArray) = S := fun h => hz h.symm
    go_enter Tryz.func12, Tryz.ntmps12
    go_wp2_with fail
    refine PC.out.mono ?_
    rintro e w2 ⟨rfl, h2, c2⟩
    have hc : Ch (fun i => i = b) w w2 := ((Ch.refl _ _).alloc _).trans c2
    obtain ⟨k0, k1, k2⟩ := cells3w ((c2.block w.heap.size (by simp) (by omega)).trans BX.out)
    have HC := hid hc
    have H2 := hid h2
    have hsw : w.heap.size < w2.heap.size := by have := c2.size; simp at this; omega
    clear h2 c2 hc
    go_wp2_with fail
    all_goals go_ret
    all_goals exact ⟨by first | rfl | exact congrArg (fun b => Ending.returned (.bool b)) (beq_eq_false_iff_ne.2 hne), e', he, H2.out, HC.out⟩
set_option maxHeartbeats 1000000 in
set_option maxRecDepth 20000 in
theorem again9_yes (b : Nat) (s : ByteArray) (k K N : Nat) (S : ByteArray) (w : World) (hr : Rd w b s k 0) (hst : Stands s k (tx S)) (hs : s.size ≤ 9223372036854775807) (hk : (K : Int) % 14 = 9) (hN : N < 18446744073709551616) (hS : S.size ≤ 1000000000) :
    Calls Tryz.prog 12 #[.pointer (some ⟨b, 0, none⟩), .agg #[.int .u8 K, .int .u64 N, .string S]] w fun e w' => e = .returned (.bool true) ∧ Rd w' b s (k + (tx S).length) 0 ∧ Ch (fun i => i = b) w w' := by
  have _ := hN
  have _ := hS
  have hks : k ≤ s.size := by have := hst.1; omega
  have hbl : b < w.heap.size := hr.lt
  have bx : (w.alloc (.cells #[.int .u8 K, .int .u64 N, .string S] 32)).heap[w.heap.size]? = some (.cells #[.int .u8 K, .int .u64 N, .string S] 32 (0, 0)) := heap_new _ _
  have pc := rtext_any b s k 0 (S.size : Int) (w.alloc (.cells #[.int .u8 K, .int .u64 N, .string S] 32)) (hr.alloc _) hks hs (by omega) (by omega)
  rw [tq_yes hst (by omega)] at pc
  have PC := hid pc
  have BX := hid bx
  obtain ⟨k0, k1, k2⟩ := cells3w bx
  clear pc bx hst
  go_enter Tryz.func12, Tryz.ntmps12
  go_wp2_with fail
  refine PC.out.mono ?_
  rintro e w2 ⟨rfl, h2, c2⟩
  have hc : Ch (fun i => i = b) w w2 := ((Ch.refl _ _).alloc _).trans c2
  obtain ⟨k0, k1, k2⟩ := cells3w ((c2.block w.heap.size (by simp) (by omega)).trans BX.out)
  have HC := hid hc
  have H2 := hid h2
  have hsw : w.heap.size < w2.heap.size := by have := c2.size; simp at this; omega
  clear h2 c2 hc
  go_wp2_with fail
  go_ret
  exact ⟨rfl, H2.out, HC.out⟩
set_option maxHeartbeats 1000000 in
set_option maxRecDepth 20000 in
theorem again9_no (b : Nat) (s : ByteArray) (k K N : Nat) (S : ByteArray) (w : World) (hr : Rd w b s k 0) (hst : Cuts s k (tx S)) (hs : s.size ≤ 9223372036854775807) (hk : (K : Int) % 14 = 9) (hN : N < 18446744073709551616) (hS : S.size ≤ 1000000000) :
    Calls Tryz.prog 12 #[.pointer (some ⟨b, 0, none⟩), .agg #[.int .u8 K, .int .u64 N, .string S]] w fun e w' => e = .returned (.bool false) ∧ ∃ e', (e' = 20 ∨ e' = 21) ∧ Rd w' b s k e' ∧ Ch (fun i => i = b) w w' := by
  have _ := hN
  have _ := hS
  have hks : k ≤ s.size := by have := hst.1; omega
  have hbl : b < w.heap.size := hr.lt
  have bx : (w.alloc (.cells #[.int .u8 K, .int .u64 N, .string S] 32)).heap[w.heap.size]? = some (.cells #[.int .u8 K, .int .u64 N, .string S] 32 (0, 0)) := heap_new _ _
  obtain ⟨e', he, hq⟩ : ∃ e', (e' = 20 ∨ e' = 21) ∧ tq (S.size : Int) s k 0 = (⟨#[]⟩, k, e') := tq_cut hst (by omega)
  have pc := rtext_any b s k 0 (S.size : Int) (w.alloc (.cells #[.int .u8 K, .int .u64 N, .string S] 32)) (hr.alloc _) hks hs (by omega) (by omega)
  rw [hq] at pc
  have PC := hid pc
  have BX := hid bx
  obtain ⟨k0, k1, k2⟩ := cells3w bx
  clear pc bx hst
  have hne : ¬ (e' : Int) = 0 := by omega
  by_cases hz : S = ⟨#[]⟩
  · subst hz
    go_enter Tryz.func12, Tryz.ntmps12
    go_wp2_with fail
    refine PC.out.mono ?_
    rintro e w2 ⟨rfl, h2, c2⟩
    have hc : Ch (fun i => i = b) w w2 := ((Ch.refl _ _).alloc _).trans c2
    obtain ⟨k0, k1, k2⟩ := cells3w ((c2.block w.heap.size (by simp) (by omega)).trans BX.out)
    have HC := hid hc
    have H2 := hid h2
    have hsw : w.heap.size < w2.heap.size := by have := c2.size; simp at this; omega
    clear h2 c2 hc
    go_wp2_with fail
    all_goals go_ret
    all_goals exact ⟨by first | rfl | exact congrArg (fun b => Ending.returned (.bool b)) (beq_eq_false_iff_ne.2 hne), e', he, H2.out, HC.out⟩
  · have hz' : ¬ (⟨#[]⟩ : ByteArray) = S := fun h => hz h.symm
    go_enter Tryz.func12, Tryz.ntmps12
    go_wp2_with fail
    refine PC.out.mono ?_
    rintro e w2 ⟨rfl, h2, c2⟩
    have hc : Ch (fun i => i = b) w w2 := ((Ch.refl _ _).alloc _).trans c2
    obtain ⟨k0, k1, k2⟩ := cells3w ((c2.block w.heap.size (by simp) (by omega)).trans BX.out)
    have HC := hid hc
    have H2 := hid h2
    have hsw : w.heap.size < w2.heap.size := by have := c2.size; simp at this; omega
    clear h2 c2 hc
    go_wp2_with fail
    all_goals go_ret
    all_goals exact ⟨by first | rfl | exact congrArg (fun b => Ending.returned (.bool b)) (beq_eq_false_iff_ne.2 hne), e', he, H2.out, HC.out⟩
set_option maxHeartbeats 1000000 in
set_option maxRecDepth 20000 in
theorem again10_yes (b : Nat) (s : ByteArray) (k K N : Nat) (S : ByteArray) (w : World) (hr : Rd w b s k 0) (hst : Stands s k (ol true S)) (hs : s.size ≤ 9223372036854775807) (hk : (K : Int) % 14 = 10) (hN : N < 18446744073709551616) (hS : S.size ≤ 1000000000) :
    Calls Tryz.prog 12 #[.pointer (some ⟨b, 0, none⟩), .agg #[.int .u8 K, .int .u64 N, .string S]] w fun e w' => e = .returned (.bool true) ∧ Rd w' b s (k + (ol true S).length) 0 ∧ Ch (fun i => i = b) w w' := by
  have _ := hN
  have _ := hS
  have hks : k ≤ s.size := by have := hst.1; omega
  have hbl : b < w.heap.size := hr.lt
  have bx : (w.alloc (.cells #[.int .u8 K, .int .u64 N, .string S] 32)).heap[w.heap.size]? = some (.cells #[.int .u8 K, .int .u64 N, .string S] 32 (0, 0)) := heap_new _ _
  have pc := ropt_any b s k 0 (S.size : Int) (w.alloc (.cells #[.int .u8 K, .int .u64 N, .string S] 32)) (hr.alloc _) hks hs (by omega) (by omega)
  rw [oq_yes hst (by omega)] at pc
  have PC := hid pc
  have BX := hid bx
  obtain ⟨k0, k1, k2⟩ := cells3w bx
  clear pc bx hst
  go_enter Tryz.func12, Tryz.ntmps12
  go_wp2_with fail
  refine PC.out.mono ?_
  rintro e w2 ⟨rfl, h2, c2⟩
  have hc : Ch (fun i => i = b) w w2 := ((Ch.refl _ _).alloc _).trans c2
  obtain ⟨k0, k1, k2⟩ := cells3w ((c2.block w.heap.size (by simp) (by omega)).trans BX.out)
  have HC := hid hc
  have H2 := hid h2
  have hsw : w.heap.size < w2.heap.size := by have := c2.size; simp at this; omega
  clear h2 c2 hc
  go_wp2_with fail
  go_ret
  exact ⟨rfl, H2.out.alloc _, HC.out.alloc _⟩
set_option maxHeartbeats 1000000 in
set_option maxRecDepth 20000 in
theorem again10_no (b : Nat) (s : ByteArray) (k K N : Nat) (S : ByteArray) (w : World) (hr : Rd w b s k 0) (hst : Cuts s k (ol true S)) (hs : s.size ≤ 9223372036854775807) (hk : (K : Int) % 14 = 10) (hN : N < 18446744073709551616) (hS : S.size ≤ 1000000000) :
    Calls Tryz.prog 12 #[.pointer (some ⟨b, 0, none⟩), .agg #[.int .u8 K, .int .u64 N, .string S]] w fun e w' => e = .returned (.bool false) ∧ ∃ e', (e' = 20 ∨ e' = 21) ∧ Rd w' b s k e' ∧ Ch (fun i => i = b) w w' := by
  have _ := hN
  have _ := hS
  have hks : k ≤ s.size := by have := hst.1; omega
  have hbl : b < w.heap.size := hr.lt
  have bx : (w.alloc (.cells #[.int .u8 K, .int .u64 N, .string S] 32)).heap[w.heap.size]? = some (.cells #[.int .u8 K, .int .u64 N, .string S] 32 (0, 0)) := heap_new _ _
  obtain ⟨e', he, hq⟩ : ∃ e', (e' = 20 ∨ e' = 21) ∧ oq (S.size : Int) s k 0 = (false, ⟨#[]⟩, k, e') := oq_cut hst (by omega)
  have pc := ropt_any b s k 0 (S.size : Int) (w.alloc (.cells #[.int .u8 K, .int .u64 N, .string S] 32)) (hr.alloc _) hks hs (by omega) (by omega)
  rw [hq] at pc
  have PC := hid pc
  have BX := hid bx
  obtain ⟨k0, k1, k2⟩ := cells3w bx
  clear pc bx hst
  have hne : ¬ (e' : Int) = 0 := by omega
  go_enter Tryz.func12, Tryz.ntmps12
  go_wp2_with fail
  refine PC.out.mono ?_
  rintro e w2 ⟨rfl, h2, c2⟩
  have hc : Ch (fun i => i = b) w w2 := ((Ch.refl _ _).alloc _).trans c2
  obtain ⟨k0, k1, k2⟩ := cells3w ((c2.block w.heap.size (by simp) (by omega)).trans BX.out)
  have HC := hid hc
  have H2 := hid h2
  have hsw : w.heap.size < w2.heap.size := by have := c2.size; simp at this; omega
  clear h2 c2 hc
  go_wp2_with fail
  all_goals go_ret
  all_goals exact ⟨by first | rfl | exact congrArg (fun b => Ending.returned (.bool b)) (beq_eq_false_iff_ne.2 hne), e', he, H2.out.alloc _, HC.out.alloc _⟩
set_option maxHeartbeats 1000000 in
set_option maxRecDepth 20000 in
theorem again11_yes (b : Nat) (s : ByteArray) (k K N : Nat) (S : ByteArray) (w : World) (hr : Rd w b s k 0) (hst : Stands s k (ol false S)) (hs : s.size ≤ 9223372036854775807) (hk : (K : Int) % 14 = 11) (hN : N < 18446744073709551616) (hS : S.size ≤ 1000000000) :
    Calls Tryz.prog 12 #[.pointer (some ⟨b, 0, none⟩), .agg #[.int .u8 K, .int .u64 N, .string S]] w fun e w' => e = .returned (.bool true) ∧ Rd w' b s (k + (ol false S).length) 0 ∧ Ch (fun i => i = b) w w' := by
  have _ := hN
  have _ := hS
  have hks : k ≤ s.size := by have := hst.1; omega
  have hbl : b < w.heap.size := hr.lt
  have bx : (w.alloc (.cells #[.int .u8 K, .int .u64 N, .string S] 32)).heap[w.heap.size]? = some (.cells #[.int .u8 K, .int .u64 N, .string S] 32 (0, 0)) := heap_new _ _
  have pc := ropt_any b s k 0 0 (w.alloc (.cells #[.int .u8 K, .int .u64 N, .string S] 32)) (hr.alloc _) hks hs (by omega) (by omega)
  rw [on_yes hst] at pc
  have PC := hid pc
  have BX := hid bx
  obtain ⟨k0, k1, k2⟩ := cells3w bx
  clear pc bx hst
  go_enter Tryz.func12, Tryz.ntmps12
  go_wp2_with fail
  refine PC.out.mono ?_
  rintro e w2 ⟨rfl, h2, c2⟩
  have hc : Ch (fun i => i = b) w w2 := ((Ch.refl _ _).alloc _).trans c2
  obtain ⟨k0, k1, k2⟩ := cells3w ((c2.block w.heap.size (by simp) (by omega)).trans BX.out)
  have HC := hid hc
  have H2 := hid h2
  have hsw : w.heap.size < w2.heap.size := by have := c2.size; simp at this; omega
  clear h2 c2 hc
  go_wp2_with fail
  go_ret
  exact ⟨rfl, H2.out.alloc _, HC.out.alloc _⟩
set_option maxHeartbeats 1000000 in
set_option maxRecDepth 20000 in
theorem again11_no (b : Nat) (s : ByteArray) (k K N : Nat) (S : ByteArray) (w : World) (hr : Rd w b s k 0) (hst : Cuts s k (ol false S)) (hs : s.size ≤ 9223372036854775807) (hk : (K : Int) % 14 = 11) (hN : N < 18446744073709551616) (hS : S.size ≤ 1000000000) :
    Calls Tryz.prog 12 #[.pointer (some ⟨b, 0, none⟩), .agg #[.int .u8 K, .int .u64 N, .string S]] w fun e w' => e = .returned (.bool false) ∧ ∃ e', (e' = 20 ∨ e' = 21) ∧ Rd w' b s k e' ∧ Ch (fun i => i = b) w w' := by
  have _ := hN
  have _ := hS
  have hks : k ≤ s.size := by have := hst.1; omega
  have hbl : b < w.heap.size := hr.lt
  have bx : (w.alloc (.cells #[.int .u8 K, .int .u64 N, .string S] 32)).heap[w.heap.size]? = some (.cells #[.int .u8 K, .int .u64 N, .string S] 32 (0, 0)) := heap_new _ _
  obtain ⟨e', he, hq⟩ : ∃ e', (e' = 20 ∨ e' = 21) ∧ oq 0 s k 0 = (false, ⟨#[]⟩, k, e') := ⟨20, Or.inl rfl, on_cut hst⟩
  have pc := ropt_any b s k 0 0 (w.alloc (.cells #[.int .u8 K, .int .u64 N, .string S] 32)) (hr.alloc _) hks hs (by omega) (by omega)
  rw [hq] at pc
  have PC := hid pc
  have BX := hid bx
  obtain ⟨k0, k1, k2⟩ := cells3w bx
  clear pc bx hst
  have hne : ¬ (e' : Int) = 0 := by omega
  go_enter Tryz.func12, Tryz.ntmps12
  go_wp2_with fail
  refine PC.out.mono ?_
  rintro e w2 ⟨rfl, h2, c2⟩
  have hc : Ch (fun i => i = b) w w2 := ((Ch.refl _ _).alloc _).trans c2
  obtain ⟨k0, k1, k2⟩ := cells3w ((c2.block w.heap.size (by simp) (by omega)).trans BX.out)
  have HC := hid hc
  have H2 := hid h2
  have hsw : w.heap.size < w2.heap.size := by have := c2.size; simp at this; omega
  clear h2 c2 hc
  go_wp2_with fail
  all_goals go_ret
  all_goals exact ⟨by first | rfl | exact congrArg (fun b => Ending.returned (.bool b)) (beq_eq_false_iff_ne.2 hne), e', he, H2.out.alloc _, HC.out.alloc _⟩
end Go.Proofs.YtpfaioncaolmjaaGreat
