/- Texts of the proof, put together: Wnl, Wnw. -/
import Derived.Test.YtpfaioncaolmjaaGreatMWA
namespace Go.Proofs.YtpfaioncaolmjaaGreat
open Go.RowKit
/-- A new sheet. -/
theorem sheet_new (w : World) : Wr (w.alloc (.cells #[.int .i64 0, .slice none 0 0] 50)) w.heap.size (w.heap.size + 1) [] := wr_new (heap_new _ _) (by omega) (by simp)
theorem nil_bel {w w' : World} (c : Ch (WU w.heap.size (w.heap.size + 1) (w.alloc (.cells #[.int .i64 0, .slice none 0 0] 50))) (w.alloc (.cells #[.int .i64 0, .slice none 0 0] 50)) w') : Below w.heap.size w w' :=
  ((Below.refl w.heap.size w).alloc (Nat.le_refl _) _).trans (c.ws.below (by simp) (fun i hi hs => by rcases hs with rfl | hs <;> omega))
theorem target_nil (w : World) :
    Calls Tryz.prog 49 #[.pointer none] w fun e w' => e = .returned (.pointer (some ⟨w.heap.size, 0, none⟩)) ∧ w' = w.alloc (.cells #[.int .i64 0, .slice none 0 0] 50) := by
  go_enter Tryz.func49, Tryz.ntmps49
  go_wp2
  go_ret
  exact ⟨rfl, rfl⟩
set_option maxHeartbeats 1000000 in
set_option maxRecDepth 20000 in
theorem nu8_any (v : Nat) (w : World) (hv : v < 256) :
    Calls Tryz.prog 30 #[.pointer none, .int .u8 v] w fun e w' => e = .returned (.tuple #[]) ∧ Below w.heap.size w w' := by
  have C := hid (snumber_any w.heap.size (w.heap.size + 1) [] v 1 _ (sheet_new w) (by omega) (by simp))
  go_enter Tryz.func30, Tryz.ntmps30
  go_wp2_with (first
    | (go_at_call 49; refine (target_nil w).mono ?_; rintro e w' ⟨rfl, rfl⟩)
    | (go_at_call 77; refine C.out.mono ?_; rintro e w' ⟨rfl, h1, h2⟩))
  go_end0
  exact ⟨rfl, nil_bel h2⟩
set_option maxHeartbeats 1000000 in
set_option maxRecDepth 20000 in
theorem nu16_any (v : Nat) (w : World) (hv : v < 65536) :
    Calls Tryz.prog 25 #[.pointer none, .int .u16 v] w fun e w' => e = .returned (.tuple #[]) ∧ Below w.heap.size w w' := by
  have C := hid (snumber_any w.heap.size (w.heap.size + 1) [] v 2 _ (sheet_new w) (by omega) (by simp))
  go_enter Tryz.func25, Tryz.ntmps25
  go_wp2_with (first
    | (go_at_call 49; refine (target_nil w).mono ?_; rintro e w' ⟨rfl, rfl⟩)
    | (go_at_call 77; refine C.out.mono ?_; rintro e w' ⟨rfl, h1, h2⟩))
  go_end0
  exact ⟨rfl, nil_bel h2⟩
set_option maxHeartbeats 1000000 in
set_option maxRecDepth 20000 in
theorem nu32_any (v : Nat) (w : World) (hv : v < 4294967296) :
    Calls Tryz.prog 33 #[.pointer none, .int .u32 v] w fun e w' => e = .returned (.tuple #[]) ∧ Below w.heap.size w w' := by
  have C := hid (snumber_any w.heap.size (w.heap.size + 1) [] v 4 _ (sheet_new w) (by omega) (by simp))
  go_enter Tryz.func33, Tryz.ntmps33
  go_wp2_with (first
    | (go_at_call 49; refine (target_nil w).mono ?_; rintro e w' ⟨rfl, rfl⟩)
    | (go_at_call 77; refine C.out.mono ?_; rintro e w' ⟨rfl, h1, h2⟩))
  go_end0
  exact ⟨rfl, nil_bel h2⟩
set_option maxHeartbeats 1000000 in
set_option maxRecDepth 20000 in
theorem nu64_any (v : Nat) (w : World) :
    Calls Tryz.prog 35 #[.pointer none, .int .u64 v] w fun e w' => e = .returned (.tuple #[]) ∧ Below w.heap.size w w' := by
  have C := hid (snumber_any w.heap.size (w.heap.size + 1) [] v 8 _ (sheet_new w) (by omega) (by simp))
  go_enter Tryz.func35, Tryz.ntmps35
  go_wp2_with (first
    | (go_at_call 49; refine (target_nil w).mono ?_; rintro e w' ⟨rfl, rfl⟩)
    | (go_at_call 77; refine C.out.mono ?_; rintro e w' ⟨rfl, h1, h2⟩))
  go_end0
  exact ⟨rfl, nil_bel h2⟩
set_option maxHeartbeats 1000000 in
set_option maxRecDepth 20000 in
theorem nraw_any (t : ByteArray) (w : World) (ht : t.size ≤ 140737488355328) :
    Calls Tryz.prog 42 #[.pointer none, .string t] w fun e w' => e = .returned (.tuple #[]) ∧ Below w.heap.size w w' := by
  have C := hid (sraw_any w.heap.size (w.heap.size + 1) [] t _ (sheet_new w) (by simpa using ht))
  go_enter Tryz.func42, Tryz.ntmps42
  go_wp2_with (first
    | (go_at_call 49; refine (target_nil w).mono ?_; rintro e w' ⟨rfl, rfl⟩)
    | (go_at_call 85; refine C.out.mono ?_; rintro e w' ⟨rfl, h1, h2⟩))
  go_end0
  exact ⟨rfl, nil_bel h2⟩
set_option maxHeartbeats 1000000 in
set_option maxRecDepth 20000 in
theorem nuvarint_any (v : Nat) (w : World) (hv : v < 18446744073709551616) :
    Calls Tryz.prog 27 #[.pointer none, .int .u64 v] w fun e w' => e = .returned (.tuple #[]) ∧ Below w.heap.size w w' := by
  have hfl := M.form_le v
  have hz : (bs (M.form v)).size = (M.form v).length := bs_size _
  go_enter Tryz.func27, Tryz.ntmps27
  go_wp2_with fail
  refine (put1w v w w (by omega) (by omega) (Below.refl _ _)).mono ?_
  rintro e w1 ⟨rfl, hb1⟩
  rw [Int.toNat_natCast]
  go_wp2_with fail
  refine (nraw_any _ _ (by omega)).mono ?_
  rintro e w' ⟨rfl, h3⟩
  have h4 := hb1.trans (h3.mono hb1.size)
  go_wp2
  go_end0
  exact ⟨rfl, h4⟩
set_option maxHeartbeats 1000000 in
set_option maxRecDepth 20000 in
theorem nvarint_any (v : Int) (w : World) (hv1 : -9223372036854775808 ≤ v) (hv2 : v ≤ 9223372036854775807) :
    Calls Tryz.prog 28 #[.pointer none, .int .i64 v] w fun e w' => e = .returned (.tuple #[]) ∧ Below w.heap.size w w' := by
  have hfl := M.form_le (M.zz v).toNat
  have hz : (bs (M.form (M.zz v).toNat)).size = (M.form (M.zz v).toNat).length := bs_size _
  go_enter Tryz.func28, Tryz.ntmps28
  go_wp2_with fail
  refine (sput1 v w w (by omega) (by omega) (Below.refl _ _)).mono ?_
  rintro e w1 ⟨rfl, hb1⟩
  go_wp2_with fail
  refine (nraw_any _ _ (by omega)).mono ?_
  rintro e w' ⟨rfl, h3⟩
  have h4 := hb1.trans (h3.mono hb1.size)
  go_wp2
  go_end0
  exact ⟨rfl, h4⟩
set_option maxHeartbeats 1000000 in
set_option maxRecDepth 20000 in
theorem ni32_any (v : Int) (w : World) :
    Calls Tryz.prog 26 #[.pointer none, .int .i32 v] w fun e w' => e = .returned (.tuple #[]) ∧ Below w.heap.size w w' := by
  have e : v % 4294967296 = ((v % 4294967296).toNat : Int) := by omega
  have HE := Hid.mk e
  clear e
  go_enter Tryz.func26, Tryz.ntmps26
  go_wp2_with fail
  rw [HE.out]
  refine (nu32_any _ _ (by omega)).mono ?_
  rintro e w' ⟨rfl, h1⟩
  go_wp2
  go_end0
  exact ⟨rfl, h1⟩
set_option maxHeartbeats 1000000 in
set_option maxRecDepth 20000 in
theorem ni64_any (v : Int) (w : World) :
    Calls Tryz.prog 38 #[.pointer none, .int .i64 v] w fun e w' => e = .returned (.tuple #[]) ∧ Below w.heap.size w w' := by
  have e : IntKind.u64.wrap v = ((v % 18446744073709551616).toNat : Int) := by rw [IntKind.wrap_u64]; omega
  have HE := Hid.mk e
  clear e
  go_enter Tryz.func38, Tryz.ntmps38
  go_wp2_with fail
  rw [HE.out]
  refine (nu64_any _ _).mono ?_
  rintro e w' ⟨rfl, h1⟩
  go_wp2
  go_end0
  exact ⟨rfl, h1⟩
set_option maxHeartbeats 1000000 in
set_option maxRecDepth 20000 in
theorem ntext_any (t : ByteArray) (w : World) (ht : t.size ≤ 140737488355328) :
    Calls Tryz.prog 44 #[.pointer none, .string t] w fun e w' => e = .returned (.tuple #[]) ∧ Below w.heap.size w w' := by
  go_enter Tryz.func44, Tryz.ntmps44
  go_wp2_with fail
  refine (nuvarint_any t.size w (by omega)).mono ?_
  rintro e w1 ⟨rfl, h1⟩
  go_wp2_with fail
  refine (nraw_any t _ ht).mono ?_
  rintro e w' ⟨rfl, h3⟩
  have h4 := h1.trans (h3.mono h1.size)
  go_wp2
  go_end0
  exact ⟨rfl, h4⟩
set_option maxHeartbeats 1000000 in
set_option maxRecDepth 20000 in
theorem nnull_any (t : ByteArray) (w : World) :
    Calls Tryz.prog 46 #[.pointer none, .agg #[.bool false, .string t]] w fun e w' => e = .returned (.tuple #[]) ∧ Below w.heap.size w w' := by
  go_enter Tryz.func46, Tryz.ntmps46
  go_wp2_with fail
  refine (nvarint_any (-1) _ (by omega) (by omega)).mono ?_
  rintro e w1 ⟨rfl, h1⟩
  have h4 := ((Below.refl w.heap.size w).alloc (Nat.le_refl _) _).trans (h1.mono (by simp))
  go_wp2
  first | go_end0 | refine bodyPost_ret (results_none rfl _ _ _) rfl ?_
  exact ⟨rfl, h4⟩
set_option maxHeartbeats 1000000 in
set_option maxRecDepth 20000 in
theorem nopt_any (t : ByteArray) (w : World) (ht : t.size ≤ 140737488355328) :
    Calls Tryz.prog 46 #[.pointer none, .agg #[.bool true, .string t]] w fun e w' => e = .returned (.tuple #[]) ∧ Below w.heap.size w w' := by
  have hv := nvarint_any (t.size : Int) (w.alloc (.cells #[.bool true, .string t] 76)) (by omega) (by omega)
  go_enter Tryz.func46, Tryz.ntmps46
  go_wp2_with fail
  refine hv.mono ?_
  rintro e w1 ⟨rfl, h1⟩
  have gv : w1.heap[w.heap.size]? = some (.cells #[.bool true, .string t] 76 (0, 0)) := (h1.block _ (by simp)).trans (heap_new _ _)
  have c8 : w1.cell? ⟨w.heap.size, 1, none⟩ = some (.string t) := (cell_of gv).trans rfl
  have h4 := ((Below.refl w.heap.size w).alloc (Nat.le_refl _) _).trans (h1.mono (by simp))
  clear gv hv
  go_wp2_with fail
  refine (nraw_any t _ ht).mono ?_
  rintro e w' ⟨rfl, h3⟩
  have h5 := h4.trans (h3.mono h4.size)
  go_wp2
  first | go_end0 | refine bodyPost_ret (results_none rfl _ _ _) rfl ?_
  exact ⟨rfl, h5⟩
theorem nat_any (w : World) :
    Calls Tryz.prog 23 #[.pointer none] w fun e w' => e = .returned (.int .i64 0) ∧ Below w.heap.size w w' := by
  have c0 : (w.alloc (.cells #[.int .i64 0, .slice none 0 0] 50)).cell? ⟨w.heap.size, 0, none⟩ = some (.int .i64 ((0 : Nat) : Int)) := (cell_of (heap_new _ _)).trans rfl
  have C := hid (at_any w.heap.size 0 _ c0)
  go_enter Tryz.func23, Tryz.ntmps23
  go_wp2_with (first
    | (go_at_call 49; refine (target_nil w).mono ?_; rintro e w' ⟨rfl, rfl⟩)
    | (go_at_call 60; refine C.out.mono ?_; rintro e w' ⟨rfl, rfl⟩))
  go_ret
  exact ⟨rfl, (Below.refl w.heap.size w).alloc (Nat.le_refl _) _⟩
theorem nput_any (at' : Int) (v : Nat) (w : World) :
    Calls Tryz.prog 24 #[.pointer none, .int .i64 at', .int .u32 v] w fun e w' => e = .returned (.bool false) ∧ Below w.heap.size w w' := by
  have C := hid (over_no w.heap.size (w.heap.size + 1) [] at' v _ (sheet_new w) (by simp) (by simp; omega))
  go_enter Tryz.func24, Tryz.ntmps24
  go_wp2_with (first
    | (go_at_call 49; refine (target_nil w).mono ?_; rintro e w' ⟨rfl, rfl⟩)
    | (go_at_call 76; refine C.out.mono ?_; rintro e w' ⟨rfl, rfl⟩))
  go_ret
  exact ⟨rfl, (Below.refl w.heap.size w).alloc (Nat.le_refl _) _⟩
end Go.Proofs.YtpfaioncaolmjaaGreat
namespace Go.Proofs.YtpfaioncaolmjaaGreat
open Go.RowKit
/-- Only q's block and those from w's end on have turned. -/
def OldX (q : Nat) (w w' : World) : Prop := ∀ H, H ≤ q → H ≤ w.heap.size → Below H w w'
theorem OldX.trans {q : Nat} {a b c : World} (h : OldX q a b) (k : OldX q b c) : OldX q a c := fun H h1 h2 => (h H h1 h2).trans (k H h1 (Nat.le_trans h2 (h H h1 h2).size))
theorem oldx_of {q : Nat} {w w' : World} (h : Below w.heap.size w w') : OldX q w w' := fun _ _ h2 => h.mono h2
theorem oldx_ch {q : Nat} {w w' : World} (h : Ch (fun i => i = q) w w') : OldX q w w' := fun _ h1 h2 => h.below h2 (fun i hi hs => by omega)
set_option maxHeartbeats 1000000 in
set_option maxRecDepth 20000 in
theorem nwrite0 (q K N : Nat) (S : ByteArray) (l : List Nat) (w : World) (h : WX w q (bs l)) (hk : (K : Int) % 14 = 0) (hN : N < 18446744073709551616) (hl : l.length ≤ 10000000000000) (hS : S.size ≤ 1000000000) :
    Calls Tryz.prog 9 #[.pointer none, .pointer (some ⟨q, 0, none⟩), .agg #[.int .u8 K, .int .u64 N, .string S]] w fun e w' => e = .returned (.bool true) ∧ OldX q w w' := by
  have _ := hN
  have _ := hS
  obtain ⟨V, hVd⟩ : ∃ V, V = N % 256 := ⟨_, rfl⟩
  have hV : V < 256 := by omega
  have hcv : IntKind.u8.wrap (N : Int) = (V : Int) := by rw [IntKind.wrap_u8]; omega
  have hcm : (N : Int) % 256 = (V : Int) := by omega
  clear hVd
  have bx : (w.alloc (.cells #[.int .u8 K, .int .u64 N, .string S] 32)).heap[w.heap.size]? = some (.cells #[.int .u8 K, .int .u64 N, .string S] 32 (0, 0)) := heap_new _ _
  have hX0 : WX (w.alloc (.cells #[.int .u8 K, .int .u64 N, .string S] 32)) q (bs l) := heap_alloc_at h
  have hq := h.lt
  have o1 : OldX q w (w.alloc (.cells #[.int .u8 K, .int .u64 N, .string S] 32)) := fun H _ h4 => (Below.refl _ _).alloc h4 _
  have PC := hid (nu8_any V (w.alloc (.cells #[.int .u8 K, .int .u64 N, .string S] 32)) hV)
  have O1 := hid o1
  have HX := hid hX0
  have BX := hid bx
  obtain ⟨k0, k1, k2⟩ := cells3w bx
  have hg0 : w.heap.size < (w.alloc (.cells #[.int .u8 K, .int .u64 N, .string S] 32)).heap.size := by simp
  clear o1 hX0 bx h
  go_enter Tryz.func9, Tryz.ntmps9
  go_wp2_with fail
  generalize (w.alloc (.cells #[.int .u8 K, .int .u64 N, .string S] 32)) = W at *
  refine PC.out.mono ?_
  rintro e w2 ⟨rfl, b2⟩
  have hX : WX w2 q (bs l) := HX.out.below b2
  have bx2 := (b2.block w.heap.size hg0).trans BX.out
  have dc := xwu8_any q (bs l) V _ hX hV (by rw [bs_size]; omega)
  have DC := hid dc
  have O2 := hid (O1.out.trans (oldx_of b2))
  obtain ⟨k0, k1, k2⟩ := cells3w bx2
  clear dc hX bx2 b2
  go_wp2_with fail
  refine DC.out.mono ?_
  rintro e w3 ⟨rfl, h3, c3⟩
  have O3 := hid (O2.out.trans (oldx_ch c3))
  clear h3 c3 k0 k1 k2
  go_wp2_with fail
  go_ret
  exact ⟨rfl, O3.out⟩
set_option maxHeartbeats 1000000 in
set_option maxRecDepth 20000 in
theorem nwrite1 (q K N : Nat) (S : ByteArray) (l : List Nat) (w : World) (h : WX w q (bs l)) (hk : (K : Int) % 14 = 1) (hN : N < 18446744073709551616) (hl : l.length ≤ 10000000000000) (hS : S.size ≤ 1000000000) :
    Calls Tryz.prog 9 #[.pointer none, .pointer (some ⟨q, 0, none⟩), .agg #[.int .u8 K, .int .u64 N, .string S]] w fun e w' => e = .returned (.bool true) ∧ OldX q w w' := by
  have _ := hN
  have _ := hS
  obtain ⟨V, hVd⟩ : ∃ V, V = N % 65536 := ⟨_, rfl⟩
  have hV : V < 65536 := by omega
  have hcv : IntKind.u16.wrap (N : Int) = (V : Int) := by rw [IntKind.wrap_u16]; omega
  have hcm : (N : Int) % 65536 = (V : Int) := by omega
  clear hVd
  have bx : (w.alloc (.cells #[.int .u8 K, .int .u64 N, .string S] 32)).heap[w.heap.size]? = some (.cells #[.int .u8 K, .int .u64 N, .string S] 32 (0, 0)) := heap_new _ _
  have hX0 : WX (w.alloc (.cells #[.int .u8 K, .int .u64 N, .string S] 32)) q (bs l) := heap_alloc_at h
  have hq := h.lt
  have o1 : OldX q w (w.alloc (.cells #[.int .u8 K, .int .u64 N, .string S] 32)) := fun H _ h4 => (Below.refl _ _).alloc h4 _
  have PC := hid (nu16_any V (w.alloc (.cells #[.int .u8 K, .int .u64 N, .string S] 32)) hV)
  have O1 := hid o1
  have HX := hid hX0
  have BX := hid bx
  obtain ⟨k0, k1, k2⟩ := cells3w bx
  have hg0 : w.heap.size < (w.alloc (.cells #[.int .u8 K, .int .u64 N, .string S] 32)).heap.size := by simp
  clear o1 hX0 bx h
  go_enter Tryz.func9, Tryz.ntmps9
  go_wp2_with fail
  generalize (w.alloc (.cells #[.int .u8 K, .int .u64 N, .string S] 32)) = W at *
  refine PC.out.mono ?_
  rintro e w2 ⟨rfl, b2⟩
  have hX : WX w2 q (bs l) := HX.out.below b2
  have bx2 := (b2.block w.heap.size hg0).trans BX.out
  have dc := xwu16_any q (bs l) V _ hX hV (by rw [bs_size]; omega)
  have DC := hid dc
  have O2 := hid (O1.out.trans (oldx_of b2))
  obtain ⟨k0, k1, k2⟩ := cells3w bx2
  clear dc hX bx2 b2
  go_wp2_with fail
  refine DC.out.mono ?_
  rintro e w3 ⟨rfl, h3, c3⟩
  have O3 := hid (O2.out.trans (oldx_ch c3))
  clear h3 c3 k0 k1 k2
  go_wp2_with fail
  go_ret
  exact ⟨rfl, O3.out⟩
set_option maxHeartbeats 1000000 in
set_option maxRecDepth 20000 in
theorem nwrite2 (q K N : Nat) (S : ByteArray) (l : List Nat) (w : World) (h : WX w q (bs l)) (hk : (K : Int) % 14 = 2) (hN : N < 18446744073709551616) (hl : l.length ≤ 10000000000000) (hS : S.size ≤ 1000000000) :
    Calls Tryz.prog 9 #[.pointer none, .pointer (some ⟨q, 0, none⟩), .agg #[.int .u8 K, .int .u64 N, .string S]] w fun e w' => e = .returned (.bool true) ∧ OldX q w w' := by
  have _ := hN
  have _ := hS
  obtain ⟨V, hVd⟩ : ∃ V, V = N % 4294967296 := ⟨_, rfl⟩
  have hV : V < 4294967296 := by omega
  have hcv : IntKind.u32.wrap (N : Int) = (V : Int) := by rw [IntKind.wrap_u32]; omega
  have hcm : (N : Int) % 4294967296 = (V : Int) := by omega
  clear hVd
  have bx : (w.alloc (.cells #[.int .u8 K, .int .u64 N, .string S] 32)).heap[w.heap.size]? = some (.cells #[.int .u8 K, .int .u64 N, .string S] 32 (0, 0)) := heap_new _ _
  have hX0 : WX (w.alloc (.cells #[.int .u8 K, .int .u64 N, .string S] 32)) q (bs l) := heap_alloc_at h
  have hq := h.lt
  have o1 : OldX q w (w.alloc (.cells #[.int .u8 K, .int .u64 N, .string S] 32)) := fun H _ h4 => (Below.refl _ _).alloc h4 _
  have PC := hid (nu32_any V (w.alloc (.cells #[.int .u8 K, .int .u64 N, .string S] 32)) hV)
  have O1 := hid o1
  have HX := hid hX0
  have BX := hid bx
  obtain ⟨k0, k1, k2⟩ := cells3w bx
  have hg0 : w.heap.size < (w.alloc (.cells #[.int .u8 K, .int .u64 N, .string S] 32)).heap.size := by simp
  clear o1 hX0 bx h
  go_enter Tryz.func9, Tryz.ntmps9
  go_wp2_with fail
  generalize (w.alloc (.cells #[.int .u8 K, .int .u64 N, .string S] 32)) = W at *
  refine PC.out.mono ?_
  rintro e w2 ⟨rfl, b2⟩
  have hX : WX w2 q (bs l) := HX.out.below b2
  have bx2 := (b2.block w.heap.size hg0).trans BX.out
  have dc := xwu32_any q (bs l) V _ hX hV (by rw [bs_size]; omega)
  have DC := hid dc
  have O2 := hid (O1.out.trans (oldx_of b2))
  obtain ⟨k0, k1, k2⟩ := cells3w bx2
  clear dc hX bx2 b2
  go_wp2_with fail
  refine DC.out.mono ?_
  rintro e w3 ⟨rfl, h3, c3⟩
  have O3 := hid (O2.out.trans (oldx_ch c3))
  clear h3 c3 k0 k1 k2
  go_wp2_with fail
  go_ret
  exact ⟨rfl, O3.out⟩
set_option maxHeartbeats 1000000 in
set_option maxRecDepth 20000 in
theorem nwrite3 (q K N : Nat) (S : ByteArray) (l : List Nat) (w : World) (h : WX w q (bs l)) (hk : (K : Int) % 14 = 3) (hN : N < 18446744073709551616) (hl : l.length ≤ 10000000000000) (hS : S.size ≤ 1000000000) :
    Calls Tryz.prog 9 #[.pointer none, .pointer (some ⟨q, 0, none⟩), .agg #[.int .u8 K, .int .u64 N, .string S]] w fun e w' => e = .returned (.bool true) ∧ OldX q w w' := by
  have _ := hN
  have _ := hS
  have bx : (w.alloc (.cells #[.int .u8 K, .int .u64 N, .string S] 32)).heap[w.heap.size]? = some (.cells #[.int .u8 K, .int .u64 N, .string S] 32 (0, 0)) := heap_new _ _
  have hX0 : WX (w.alloc (.cells #[.int .u8 K, .int .u64 N, .string S] 32)) q (bs l) := heap_alloc_at h
  have hq := h.lt
  have o1 : OldX q w (w.alloc (.cells #[.int .u8 K, .int .u64 N, .string S] 32)) := fun H _ h4 => (Below.refl _ _).alloc h4 _
  have PC := hid (nu64_any N (w.alloc (.cells #[.int .u8 K, .int .u64 N, .string S] 32)))
  have O1 := hid o1
  have HX := hid hX0
  have BX := hid bx
  obtain ⟨k0, k1, k2⟩ := cells3w bx
  have hg0 : w.heap.size < (w.alloc (.cells #[.int .u8 K, .int .u64 N, .string S] 32)).heap.size := by simp
  clear o1 hX0 bx h
  go_enter Tryz.func9, Tryz.ntmps9
  go_wp2_with fail
  generalize (w.alloc (.cells #[.int .u8 K, .int .u64 N, .string S] 32)) = W at *
  refine PC.out.mono ?_
  rintro e w2 ⟨rfl, b2⟩
  have hX : WX w2 q (bs l) := HX.out.below b2
  have bx2 := (b2.block w.heap.size hg0).trans BX.out
  have dc := xwu64_any q (bs l) N _ hX hN (by rw [bs_size]; omega)
  have DC := hid dc
  have O2 := hid (O1.out.trans (oldx_of b2))
  obtain ⟨k0, k1, k2⟩ := cells3w bx2
  clear dc hX bx2 b2
  go_wp2_with fail
  refine DC.out.mono ?_
  rintro e w3 ⟨rfl, h3, c3⟩
  have O3 := hid (O2.out.trans (oldx_ch c3))
  clear h3 c3 k0 k1 k2
  go_wp2_with fail
  go_ret
  exact ⟨rfl, O3.out⟩
set_option maxHeartbeats 1000000 in
set_option maxRecDepth 20000 in
theorem nwrite4 (q K N : Nat) (S : ByteArray) (l : List Nat) (w : World) (h : WX w q (bs l)) (hk : (K : Int) % 14 = 4) (hN : N < 18446744073709551616) (hl : l.length ≤ 10000000000000) (hS : S.size ≤ 1000000000) :
    Calls Tryz.prog 9 #[.pointer none, .pointer (some ⟨q, 0, none⟩), .agg #[.int .u8 K, .int .u64 N, .string S]] w fun e w' => e = .returned (.bool true) ∧ OldX q w w' := by
  have _ := hN
  have _ := hS
  obtain ⟨v, hcv⟩ : ∃ v, IntKind.i32.wrap (N : Int) = v := ⟨_, rfl⟩
  have hv : -2147483648 ≤ v ∧ v ≤ 2147483647 := by rw [← hcv, IntKind.wrap_i32]; omega
  have _ := hv
  have bx : (w.alloc (.cells #[.int .u8 K, .int .u64 N, .string S] 32)).heap[w.heap.size]? = some (.cells #[.int .u8 K, .int .u64 N, .string S] 32 (0, 0)) := heap_new _ _
  have hX0 : WX (w.alloc (.cells #[.int .u8 K, .int .u64 N, .string S] 32)) q (bs l) := heap_alloc_at h
  have hq := h.lt
  have o1 : OldX q w (w.alloc (.cells #[.int .u8 K, .int .u64 N, .string S] 32)) := fun H _ h4 => (Below.refl _ _).alloc h4 _
  have PC := hid (ni32_any v (w.alloc (.cells #[.int .u8 K, .int .u64 N, .string S] 32)))
  have O1 := hid o1
  have HX := hid hX0
  have BX := hid bx
  obtain ⟨k0, k1, k2⟩ := cells3w bx
  have hg0 : w.heap.size < (w.alloc (.cells #[.int .u8 K, .int .u64 N, .string S] 32)).heap.size := by simp
  clear o1 hX0 bx h
  go_enter Tryz.func9, Tryz.ntmps9
  go_wp2_with fail
  generalize (w.alloc (.cells #[.int .u8 K, .int .u64 N, .string S] 32)) = W at *
  refine PC.out.mono ?_
  rintro e w2 ⟨rfl, b2⟩
  have hX : WX w2 q (bs l) := HX.out.below b2
  have bx2 := (b2.block w.heap.size hg0).trans BX.out
  have dc := xwi32_any q (bs l) v _ hX (by rw [bs_size]; omega)
  have DC := hid dc
  have O2 := hid (O1.out.trans (oldx_of b2))
  obtain ⟨k0, k1, k2⟩ := cells3w bx2
  clear dc hX bx2 b2
  go_wp2_with fail
  refine DC.out.mono ?_
  rintro e w3 ⟨rfl, h3, c3⟩
  have O3 := hid (O2.out.trans (oldx_ch c3))
  clear h3 c3 k0 k1 k2
  go_wp2_with fail
  go_ret
  exact ⟨rfl, O3.out⟩
set_option maxHeartbeats 1000000 in
set_option maxRecDepth 20000 in
theorem nwrite5 (q K N : Nat) (S : ByteArray) (l : List Nat) (w : World) (h : WX w q (bs l)) (hk : (K : Int) % 14 = 5) (hN : N < 18446744073709551616) (hl : l.length ≤ 10000000000000) (hS : S.size ≤ 1000000000) :
    Calls Tryz.prog 9 #[.pointer none, .pointer (some ⟨q, 0, none⟩), .agg #[.int .u8 K, .int .u64 N, .string S]] w fun e w' => e = .returned (.bool true) ∧ OldX q w w' := by
  have _ := hN
  have _ := hS
  obtain ⟨v, hcv⟩ : ∃ v, IntKind.i64.wrap (N : Int) = v := ⟨_, rfl⟩
  have hv : -9223372036854775808 ≤ v ∧ v ≤ 9223372036854775807 := by rw [← hcv, IntKind.wrap_i64]; omega
  have _ := hv
  have bx : (w.alloc (.cells #[.int .u8 K, .int .u64 N, .string S] 32)).heap[w.heap.size]? = some (.cells #[.int .u8 K, .int .u64 N, .string S] 32 (0, 0)) := heap_new _ _
  have hX0 : WX (w.alloc (.cells #[.int .u8 K, .int .u64 N, .string S] 32)) q (bs l) := heap_alloc_at h
  have hq := h.lt
  have o1 : OldX q w (w.alloc (.cells #[.int .u8 K, .int .u64 N, .string S] 32)) := fun H _ h4 => (Below.refl _ _).alloc h4 _
  have PC := hid (ni64_any v (w.alloc (.cells #[.int .u8 K, .int .u64 N, .string S] 32)))
  have O1 := hid o1
  have HX := hid hX0
  have BX := hid bx
  obtain ⟨k0, k1, k2⟩ := cells3w bx
  have hg0 : w.heap.size < (w.alloc (.cells #[.int .u8 K, .int .u64 N, .string S] 32)).heap.size := by simp
  clear o1 hX0 bx h
  go_enter Tryz.func9, Tryz.ntmps9
  go_wp2_with fail
  generalize (w.alloc (.cells #[.int .u8 K, .int .u64 N, .string S] 32)) = W at *
  refine PC.out.mono ?_
  rintro e w2 ⟨rfl, b2⟩
  have hX : WX w2 q (bs l) := HX.out.below b2
  have bx2 := (b2.block w.heap.size hg0).trans BX.out
  have dc := xwi64_any q (bs l) v _ hX (by rw [bs_size]; omega)
  have DC := hid dc
  have O2 := hid (O1.out.trans (oldx_of b2))
  obtain ⟨k0, k1, k2⟩ := cells3w bx2
  clear dc hX bx2 b2
  go_wp2_with fail
  refine DC.out.mono ?_
  rintro e w3 ⟨rfl, h3, c3⟩
  have O3 := hid (O2.out.trans (oldx_ch c3))
  clear h3 c3 k0 k1 k2
  go_wp2_with fail
  go_ret
  exact ⟨rfl, O3.out⟩
set_option maxHeartbeats 1000000 in
set_option maxRecDepth 20000 in
theorem nwrite6 (q K N : Nat) (S : ByteArray) (l : List Nat) (w : World) (h : WX w q (bs l)) (hk : (K : Int) % 14 = 6) (hN : N < 18446744073709551616) (hl : l.length ≤ 10000000000000) (hS : S.size ≤ 1000000000) :
    Calls Tryz.prog 9 #[.pointer none, .pointer (some ⟨q, 0, none⟩), .agg #[.int .u8 K, .int .u64 N, .string S]] w fun e w' => e = .returned (.bool true) ∧ OldX q w w' := by
  have _ := hN
  have _ := hS
  have bx : (w.alloc (.cells #[.int .u8 K, .int .u64 N, .string S] 32)).heap[w.heap.size]? = some (.cells #[.int .u8 K, .int .u64 N, .string S] 32 (0, 0)) := heap_new _ _
  have hX0 : WX (w.alloc (.cells #[.int .u8 K, .int .u64 N, .string S] 32)) q (bs l) := heap_alloc_at h
  have hq := h.lt
  have o1 : OldX q w (w.alloc (.cells #[.int .u8 K, .int .u64 N, .string S] 32)) := fun H _ h4 => (Below.refl _ _).alloc h4 _
  have PC := hid (nuvarint_any N (w.alloc (.cells #[.int .u8 K, .int .u64 N, .string S] 32)) hN)
  have O1 := hid o1
  have HX := hid hX0
  have BX := hid bx
  obtain ⟨k0, k1, k2⟩ := cells3w bx
  have hg0 : w.heap.size < (w.alloc (.cells #[.int .u8 K, .int .u64 N, .string S] 32)).heap.size := by simp
  clear o1 hX0 bx h
  go_enter Tryz.func9, Tryz.ntmps9
  go_wp2_with fail
  generalize (w.alloc (.cells #[.int .u8 K, .int .u64 N, .string S] 32)) = W at *
  refine PC.out.mono ?_
  rintro e w2 ⟨rfl, b2⟩
  have hX : WX w2 q (bs l) := HX.out.below b2
  have bx2 := (b2.block w.heap.size hg0).trans BX.out
  have dc := xwuvarint_any q (bs l) N _ hX hN (by rw [bs_size]; omega)
  have DC := hid dc
  have O2 := hid (O1.out.trans (oldx_of b2))
  obtain ⟨k0, k1, k2⟩ := cells3w bx2
  clear dc hX bx2 b2
  go_wp2_with fail
  refine DC.out.mono ?_
  rintro e w3 ⟨rfl, h3, c3⟩
  have O3 := hid (O2.out.trans (oldx_ch c3))
  clear h3 c3 k0 k1 k2
  go_wp2_with fail
  go_ret
  exact ⟨rfl, O3.out⟩
set_option maxHeartbeats 1000000 in
set_option maxRecDepth 20000 in
theorem nwrite7 (q K N : Nat) (S : ByteArray) (l : List Nat) (w : World) (h : WX w q (bs l)) (hk : (K : Int) % 14 = 7) (hN : N < 18446744073709551616) (hl : l.length ≤ 10000000000000) (hS : S.size ≤ 1000000000) :
    Calls Tryz.prog 9 #[.pointer none, .pointer (some ⟨q, 0, none⟩), .agg #[.int .u8 K, .int .u64 N, .string S]] w fun e w' => e = .returned (.bool true) ∧ OldX q w w' := by
  have _ := hN
  have _ := hS
  obtain ⟨v, hcv⟩ : ∃ v, IntKind.i64.wrap (N : Int) = v := ⟨_, rfl⟩
  have hv : -9223372036854775808 ≤ v ∧ v ≤ 9223372036854775807 := by rw [← hcv, IntKind.wrap_i64]; omega
  have bx : (w.alloc (.cells #[.int .u8 K, .int .u64 N, .string S] 32)).heap[w.heap.size]? = some (.cells #[.int .u8 K, .int .u64 N, .string S] 32 (0, 0)) := heap_new _ _
  have hX0 : WX (w.alloc (.cells #[.int .u8 K, .int .u64 N, .string S] 32)) q (bs l) := heap_alloc_at h
  have hq := h.lt
  have o1 : OldX q w (w.alloc (.cells #[.int .u8 K, .int .u64 N, .string S] 32)) := fun H _ h4 => (Below.refl _ _).alloc h4 _
  have PC := hid (nvarint_any v (w.alloc (.cells #[.int .u8 K, .int .u64 N, .string S] 32)) hv.1 hv.2)
  have O1 := hid o1
  have HX := hid hX0
  have BX := hid bx
  obtain ⟨k0, k1, k2⟩ := cells3w bx
  have hg0 : w.heap.size < (w.alloc (.cells #[.int .u8 K, .int .u64 N, .string S] 32)).heap.size := by simp
  clear o1 hX0 bx h
  go_enter Tryz.func9, Tryz.ntmps9
  go_wp2_with fail
  generalize (w.alloc (.cells #[.int .u8 K, .int .u64 N, .string S] 32)) = W at *
  refine PC.out.mono ?_
  rintro e w2 ⟨rfl, b2⟩
  have hX : WX w2 q (bs l) := HX.out.below b2
  have bx2 := (b2.block w.heap.size hg0).trans BX.out
  have dc := xwvarint_any q (bs l) v _ hX hv (by rw [bs_size]; omega)
  have DC := hid dc
  have O2 := hid (O1.out.trans (oldx_of b2))
  obtain ⟨k0, k1, k2⟩ := cells3w bx2
  clear dc hX bx2 b2
  go_wp2_with fail
  refine DC.out.mono ?_
  rintro e w3 ⟨rfl, h3, c3⟩
  have O3 := hid (O2.out.trans (oldx_ch c3))
  clear h3 c3 k0 k1 k2
  go_wp2_with fail
  go_ret
  exact ⟨rfl, O3.out⟩
set_option maxHeartbeats 1000000 in
set_option maxRecDepth 20000 in
theorem nwrite8 (q K N : Nat) (S : ByteArray) (l : List Nat) (w : World) (h : WX w q (bs l)) (hk : (K : Int) % 14 = 8) (hN : N < 18446744073709551616) (hl : l.length ≤ 10000000000000) (hS : S.size ≤ 1000000000) :
    Calls Tryz.prog 9 #[.pointer none, .pointer (some ⟨q, 0, none⟩), .agg #[.int .u8 K, .int .u64 N, .string S]] w fun e w' => e = .returned (.bool true) ∧ OldX q w w' := by
  have _ := hN
  have _ := hS
  have bx : (w.alloc (.cells #[.int .u8 K, .int .u64 N, .string S] 32)).heap[w.heap.size]? = some (.cells #[.int .u8 K, .int .u64 N, .string S] 32 (0, 0)) := heap_new _ _
  have hX0 : WX (w.alloc (.cells #[.int .u8 K, .int .u64 N, .string S] 32)) q (bs l) := heap_alloc_at h
  have hq := h.lt
  have o1 : OldX q w (w.alloc (.cells #[.int .u8 K, .int .u64 N, .string S] 32)) := fun H _ h4 => (Below.refl _ _).alloc h4 _
  have PC := hid (nraw_any S (w.alloc (.cells #[.int .u8 K, .int .u64 N, .string S] 32)) (by omega))
  have O1 := hid o1
  have HX := hid hX0
  have BX := hid bx
  obtain ⟨k0, k1, k2⟩ := cells3w bx
  have hg0 : w.heap.size < (w.alloc (.cells #[.int .u8 K, .int .u64 N, .string S] 32)).heap.size := by simp
  clear o1 hX0 bx h
  go_enter Tryz.func9, Tryz.ntmps9
  go_wp2_with fail
  generalize (w.alloc (.cells #[.int .u8 K, .int .u64 N, .string S] 32)) = W at *
  refine PC.out.mono ?_
  rintro e w2 ⟨rfl, b2⟩
  have hX : WX w2 q (bs l) := HX.out.below b2
  have bx2 := (b2.block w.heap.size hg0).trans BX.out
  have dc := xwraw_any q (bs l) S _ hX (by rw [bs_size]; omega)
  have DC := hid dc
  have O2 := hid (O1.out.trans (oldx_of b2))
  obtain ⟨k0, k1, k2⟩ := cells3w bx2
  clear dc hX bx2 b2
  go_wp2_with fail
  refine DC.out.mono ?_
  rintro e w3 ⟨rfl, h3, c3⟩
  have O3 := hid (O2.out.trans (oldx_ch c3))
  clear h3 c3 k0 k1 k2
  go_wp2_with fail
  go_ret
  exact ⟨rfl, O3.out⟩
set_option maxHeartbeats 1000000 in
set_option maxRecDepth 20000 in
theorem nwrite9 (q K N : Nat) (S : ByteArray) (l : List Nat) (w : World) (h : WX w q (bs l)) (hk : (K : Int) % 14 = 9) (hN : N < 18446744073709551616) (hl : l.length ≤ 10000000000000) (hS : S.size ≤ 1000000000) :
    Calls Tryz.prog 9 #[.pointer none, .pointer (some ⟨q, 0, none⟩), .agg #[.int .u8 K, .int .u64 N, .string S]] w fun e w' => e = .returned (.bool true) ∧ OldX q w w' := by
  have _ := hN
  have _ := hS
  have bx : (w.alloc (.cells #[.int .u8 K, .int .u64 N, .string S] 32)).heap[w.heap.size]? = some (.cells #[.int .u8 K, .int .u64 N, .string S] 32 (0, 0)) := heap_new _ _
  have hX0 : WX (w.alloc (.cells #[.int .u8 K, .int .u64 N, .string S] 32)) q (bs l) := heap_alloc_at h
  have hq := h.lt
  have o1 : OldX q w (w.alloc (.cells #[.int .u8 K, .int .u64 N, .string S] 32)) := fun H _ h4 => (Below.refl _ _).alloc h4 _
  have PC := hid (ntext_any S (w.alloc (.cells #[.int .u8 K, .int .u64 N, .string S] 32)) (by omega))
  have O1 := hid o1
  have HX := hid hX0
  have BX := hid bx
  obtain ⟨k0, k1, k2⟩ := cells3w bx
  have hg0 : w.heap.size < (w.alloc (.cells #[.int .u8 K, .int .u64 N, .string S] 32)).heap.size := by simp
  clear o1 hX0 bx h
  go_enter Tryz.func9, Tryz.ntmps9
  go_wp2_with fail
  generalize (w.alloc (.cells #[.int .u8 K, .int .u64 N, .string S] 32)) = W at *
  refine PC.out.mono ?_
  rintro e w2 ⟨rfl, b2⟩
  have hX : WX w2 q (bs l) := HX.out.below b2
  have bx2 := (b2.block w.heap.size hg0).trans BX.out
  have dc := xwtx_any q (bs l) S _ hX (by rw [bs_size]; omega)
  have DC := hid dc
  have O2 := hid (O1.out.trans (oldx_of b2))
  obtain ⟨k0, k1, k2⟩ := cells3w bx2
  clear dc hX bx2 b2
  go_wp2_with fail
  refine DC.out.mono ?_
  rintro e w3 ⟨rfl, h3, c3⟩
  have O3 := hid (O2.out.trans (oldx_ch c3))
  clear h3 c3 k0 k1 k2
  go_wp2_with fail
  go_ret
  exact ⟨rfl, O3.out⟩
set_option maxHeartbeats 1000000 in
set_option maxRecDepth 20000 in
theorem nwrite10 (q K N : Nat) (S : ByteArray) (l : List Nat) (w : World) (h : WX w q (bs l)) (hk : (K : Int) % 14 = 10) (hN : N < 18446744073709551616) (hl : l.length ≤ 10000000000000) (hS : S.size ≤ 1000000000) :
    Calls Tryz.prog 9 #[.pointer none, .pointer (some ⟨q, 0, none⟩), .agg #[.int .u8 K, .int .u64 N, .string S]] w fun e w' => e = .returned (.bool true) ∧ OldX q w w' := by
  have _ := hN
  have _ := hS
  have bx : (w.alloc (.cells #[.int .u8 K, .int .u64 N, .string S] 32)).heap[w.heap.size]? = some (.cells #[.int .u8 K, .int .u64 N, .string S] 32 (0, 0)) := heap_new _ _
  have hX0 : WX (w.alloc (.cells #[.int .u8 K, .int .u64 N, .string S] 32)) q (bs l) := heap_alloc_at h
  have hq := h.lt
  have o1 : OldX q w (w.alloc (.cells #[.int .u8 K, .int .u64 N, .string S] 32)) := fun H _ h4 => (Below.refl _ _).alloc h4 _
  have PC := hid (nopt_any S (w.alloc (.cells #[.int .u8 K, .int .u64 N, .string S] 32)) (by omega))
  have O1 := hid o1
  have HX := hid hX0
  have BX := hid bx
  obtain ⟨k0, k1, k2⟩ := cells3w bx
  have hg0 : w.heap.size < (w.alloc (.cells #[.int .u8 K, .int .u64 N, .string S] 32)).heap.size := by simp
  clear o1 hX0 bx h
  go_enter Tryz.func9, Tryz.ntmps9
  go_wp2_with fail
  generalize (w.alloc (.cells #[.int .u8 K, .int .u64 N, .string S] 32)) = W at *
  refine PC.out.mono ?_
  rintro e w2 ⟨rfl, b2⟩
  have hX : WX w2 q (bs l) := HX.out.below b2
  have bx2 := (b2.block w.heap.size hg0).trans BX.out
  have dc := xwol_any q (bs l) true S _ hX (by rw [bs_size]; omega) (by omega)
  have DC := hid dc
  have O2 := hid (O1.out.trans (oldx_of b2))
  obtain ⟨k0, k1, k2⟩ := cells3w bx2
  clear dc hX bx2 b2
  go_wp2_with fail
  refine DC.out.mono ?_
  rintro e w3 ⟨rfl, h3, c3⟩
  have O3 := hid (O2.out.trans (oldx_ch c3))
  clear h3 c3 k0 k1 k2
  go_wp2_with fail
  go_ret
  exact ⟨rfl, O3.out⟩
set_option maxHeartbeats 1000000 in
set_option maxRecDepth 20000 in
theorem nwrite11 (q K N : Nat) (S : ByteArray) (l : List Nat) (w : World) (h : WX w q (bs l)) (hk : (K : Int) % 14 = 11) (hN : N < 18446744073709551616) (hl : l.length ≤ 10000000000000) (hS : S.size ≤ 1000000000) :
    Calls Tryz.prog 9 #[.pointer none, .pointer (some ⟨q, 0, none⟩), .agg #[.int .u8 K, .int .u64 N, .string S]] w fun e w' => e = .returned (.bool true) ∧ OldX q w w' := by
  have _ := hN
  have _ := hS
  have bx : (w.alloc (.cells #[.int .u8 K, .int .u64 N, .string S] 32)).heap[w.heap.size]? = some (.cells #[.int .u8 K, .int .u64 N, .string S] 32 (0, 0)) := heap_new _ _
  have hX0 : WX (w.alloc (.cells #[.int .u8 K, .int .u64 N, .string S] 32)) q (bs l) := heap_alloc_at h
  have hq := h.lt
  have o1 : OldX q w (w.alloc (.cells #[.int .u8 K, .int .u64 N, .string S] 32)) := fun H _ h4 => (Below.refl _ _).alloc h4 _
  have PC := hid (nnull_any S (w.alloc (.cells #[.int .u8 K, .int .u64 N, .string S] 32)))
  have O1 := hid o1
  have HX := hid hX0
  have BX := hid bx
  obtain ⟨k0, k1, k2⟩ := cells3w bx
  have hg0 : w.heap.size < (w.alloc (.cells #[.int .u8 K, .int .u64 N, .string S] 32)).heap.size := by simp
  clear o1 hX0 bx h
  go_enter Tryz.func9, Tryz.ntmps9
  go_wp2_with fail
  generalize (w.alloc (.cells #[.int .u8 K, .int .u64 N, .string S] 32)) = W at *
  refine PC.out.mono ?_
  rintro e w2 ⟨rfl, b2⟩
  have hX : WX w2 q (bs l) := HX.out.below b2
  have bx2 := (b2.block w.heap.size hg0).trans BX.out
  have dc := xwol_any q (bs l) false S _ hX (by rw [bs_size]; omega) (by omega)
  have DC := hid dc
  have O2 := hid (O1.out.trans (oldx_of b2))
  obtain ⟨k0, k1, k2⟩ := cells3w bx2
  clear dc hX bx2 b2
  go_wp2_with fail
  refine DC.out.mono ?_
  rintro e w3 ⟨rfl, h3, c3⟩
  have O3 := hid (O2.out.trans (oldx_ch c3))
  clear h3 c3 k0 k1 k2
  go_wp2_with fail
  go_ret
  exact ⟨rfl, O3.out⟩
/-- 'write' with a nil writer, of any kind below 12. -/
theorem nwrite_any (q K N : Nat) (S : ByteArray) (l : List Nat) (w : World) (h : WX w q (bs l)) (hk : K < 12) (hN : N < 18446744073709551616) (hl : l.length ≤ 10000000000000) (hS : S.size ≤ 1000000000) :
    Calls Tryz.prog 9 #[.pointer none, .pointer (some ⟨q, 0, none⟩), .agg #[.int .u8 K, .int .u64 N, .string S]] w fun e w' => e = .returned (.bool true) ∧ OldX q w w' := by
  rcases (show K = 0 ∨ K = 1 ∨ K = 2 ∨ K = 3 ∨ K = 4 ∨ K = 5 ∨ K = 6 ∨ K = 7 ∨ K = 8 ∨ K = 9 ∨ K = 10 ∨ K = 11 by omega) with rfl | rfl | rfl | rfl | rfl | rfl | rfl | rfl | rfl | rfl | rfl | rfl
  · exact nwrite0 q 0 N S l w h (by decide) hN hl hS
  · exact nwrite1 q 1 N S l w h (by decide) hN hl hS
  · exact nwrite2 q 2 N S l w h (by decide) hN hl hS
  · exact nwrite3 q 3 N S l w h (by decide) hN hl hS
  · exact nwrite4 q 4 N S l w h (by decide) hN hl hS
  · exact nwrite5 q 5 N S l w h (by decide) hN hl hS
  · exact nwrite6 q 6 N S l w h (by decide) hN hl hS
  · exact nwrite7 q 7 N S l w h (by decide) hN hl hS
  · exact nwrite8 q 8 N S l w h (by decide) hN hl hS
  · exact nwrite9 q 9 N S l w h (by decide) hN hl hS
  · exact nwrite10 q 10 N S l w h (by decide) hN hl hS
  · exact nwrite11 q 11 N S l w h (by decide) hN hl hS
end Go.Proofs.YtpfaioncaolmjaaGreat
