/- The statements' write: one call of both writers (kinds 0 to 11). -/
import Derived.Test.YtpfaioncaolmjaaGreatWX6
import Derived.Test.YtpfaioncaolmjaaGreatWm
namespace Go.Proofs.YtpfaioncaolmjaaGreat
open Go.RowKit
/-- Both writers, with the same written. -/
structure WW (p q B : Nat) (l : List Nat) (y : World) : Prop where
  a : Wr y p B l
  x : WX y q (bs l)
  ne : p ≠ q
  lt : q < B
/-- What only both writers' calls have turned. -/
def Old (p q B : Nat) (w w' : World) : Prop := Ch (fun i => WU p B w i ∨ i = q) w w'
theorem Old.base {p q B : Nat} {w w' : World} (h : Old p q B w w') : Ch (fun i => i = p ∨ i = q ∨ B ≤ i) w w' := Ch.mono h (fun i _ hs => by
  rcases hs with (h | ⟨h, _⟩) | h
  · exact Or.inl h
  · exact Or.inr (Or.inr h)
  · exact Or.inr (Or.inl h))
theorem Old.bel {p q B : Nat} {w w' : World} (h : Old p q B w w') : ∀ H, H ≤ p → H ≤ q → H ≤ B → H ≤ w.heap.size → Below H w w' := fun H _ _ _ h4 => Ch.below h.base h4 (fun i hi hs => by omega)
theorem Old.trans {p q B : Nat} {a b c : World} (h : Old p q B a b) (k : Old p q B b c) : Old p q B a c :=
  Ch.then h k (fun i hi hT => by
    rcases hT with (rfl | ⟨hB, o, fz, ho⟩) | rfl
    · exact Or.inl (Or.inl rfl)
    · apply Classical.byContradiction
      intro hn
      apply hn
      rw [Ch.block h i hi hn] at ho
      exact Or.inl (Or.inr ⟨hB, o, fz, ho⟩)
    · exact Or.inr rfl)
/-- A block of another kind stays. -/
theorem Old.box {p q B i : Nat} {w w' : World} {c : Array Value} {T : TypeId} {fz : Nat × Nat} (h : Old p q B w w') (hi : w.heap[i]? = some (.cells c T fz)) (hp : i ≠ p) (hq : i ≠ q) (hT : T ≠ 5) : w'.heap[i]? = some (.cells c T fz) := by
  rw [Ch.block h i (lt_of_heap hi) (fun hs => ?_), hi]
  rcases hs with (hs | ⟨_, c', fz', he⟩) | hs
  · exact hp hs
  · rw [hi] at he
    injection he with he
    injection he with _ he _
    exact hT he
  · exact hq hs
theorem cells3w {w : World} {G : Nat} {T : TypeId} {v0 v1 v2 : Value} (h : w.heap[G]? = some (.cells #[v0, v1, v2] T (0, 0))) : w.cell? ⟨G, 0, none⟩ = some v0 ∧ w.cell? ⟨G, 1, none⟩ = some v1 ∧ w.cell? ⟨G, 2, none⟩ = some v2 := ⟨(cell_of h).trans rfl, (cell_of h).trans rfl, (cell_of h).trans rfl⟩
theorem wu_old {p q B : Nat} {w w' : World} (h : Ch (WU p B w) w w') : Old p q B w w' := h.mono (fun _ _ hs => Or.inl hs)
theorem wx_old {p q B : Nat} {w w' : World} (h : Ch (fun i => i = q) w w') : Old p q B w w' := h.mono (fun _ _ hs => Or.inr hs)
theorem WW.size {p q B : Nat} {l : List Nat} {y : World} (_ : WW p q B l y) : (bs l).size = l.length := bs_size l
theorem WW.prog {p q B : Nat} {l d : List Nat} {w w' : World} (h : WW p q B l w) (k : Wr w' p B (l ++ d)) (c : Ch (WU p B w) w w') : Wr w' p B (l ++ d) ∧ WX w' q (bs l) := ⟨k, c.other h.x (fun e => h.ne e.symm) (by decide)⟩
theorem WW.doc {p q B : Nat} {l d : List Nat} {w' w2 : World} (ne : p ≠ q) (lt : q < B) (k : Wr w' p B (l ++ d)) (c : Ch (fun i => i = q) w' w2) (x : WX w2 q (bs l ++ bs d)) : WW p q B (l ++ d) w2 := ⟨k.ch c ne (fun i hi e => by omega), by rw [bs_app]; exact x, ne, lt⟩
set_option maxHeartbeats 1000000 in
set_option maxRecDepth 20000 in
theorem write0 (p q B K N : Nat) (S : ByteArray) (l : List Nat) (w : World) (h : WW p q B l w) (hk : (K : Int) % 14 = 0) (hN : N < 18446744073709551616) (hl : l.length ≤ 10000000000000) (hS : S.size ≤ 1000000000) :
    Calls Tryz.prog 9 #[.pointer (some ⟨p, 0, none⟩), .pointer (some ⟨q, 0, none⟩), .agg #[.int .u8 K, .int .u64 N, .string S]] w fun e w' => e = .returned (.bool true) ∧ WW p q B (l ++ nb 1 (N % 256)) w' ∧ Old p q B w w' := by
  have _ := hN
  have _ := hS
  obtain ⟨V, hVd⟩ : ∃ V, V = N % 256 := ⟨_, rfl⟩
  have hV : V < 256 := by omega
  have hcv : IntKind.u8.wrap (N : Int) = (V : Int) := by rw [IntKind.wrap_u8]; omega
  have hcm : (N : Int) % 256 = (V : Int) := by omega
  have HVD := hid hVd
  clear hVd
  have bx : (w.alloc (.cells #[.int .u8 K, .int .u64 N, .string S] 32)).heap[w.heap.size]? = some (.cells #[.int .u8 K, .int .u64 N, .string S] 32 (0, 0)) := heap_new _ _
  have hA : Wr (w.alloc (.cells #[.int .u8 K, .int .u64 N, .string S] 32)) p B l := h.a.alloc _
  have hX : WX (w.alloc (.cells #[.int .u8 K, .int .u64 N, .string S] 32)) q (bs l) := heap_alloc_at h.x
  have hp := h.a.lt
  have hq := h.x.lt
  have o1 : Old p q B w (w.alloc (.cells #[.int .u8 K, .int .u64 N, .string S] 32)) := (Ch.refl _ _).alloc _
  have pc := wu8_any p B l V _ hA hV (by omega)
  have ne := h.ne
  have lt := h.lt
  have PC := hid pc
  have O1 := hid o1
  have HX := hid hX
  have BX := hid bx
  obtain ⟨k0, k1, k2⟩ := cells3w bx
  clear pc o1 hX bx h hA
  go_enter Tryz.func9, Tryz.ntmps9
  go_wp2_with fail
  have hg1 : w.heap.size < (w.alloc (.cells #[.int .u8 K, .int .u64 N, .string S] 32)).heap.size := by simp
  generalize w.alloc (.cells #[.int .u8 K, .int .u64 N, .string S] 32) = W at *
  refine PC.out.mono ?_
  rintro e w2 ⟨rfl, h2, c2⟩
  have hX : WX w2 q (bs l) := c2.other HX.out (fun e => ne e.symm) (by decide)
  have bx2 := c2.other BX.out (by omega) (by decide)
  have o2 : Old p q B W w2 := wu_old c2
  have dc := xwu8_any q (bs l) V _ hX hV (by rw [bs_size]; omega)
  have DC := hid dc
  have O2 := hid (O1.out.trans o2)
  have H2 := hid h2
  obtain ⟨k0, k1, k2⟩ := cells3w bx2
  clear dc o2 hX bx2 c2 h2
  go_wp2_with fail
  refine DC.out.mono ?_
  rintro e w3 ⟨rfl, h3, c3⟩
  have o3 : Old p q B w2 w3 := wx_old c3
  have O3 := hid (O2.out.trans o3)
  have HW : Hid (WW p q B (l ++ nb 1 V) w3) := WW.doc ne lt (by have h := H2.out; first | exact h | (unfold tx; rw [← List.append_assoc]; exact h) | (unfold ol; rw [if_pos rfl, ← List.append_assoc]; exact h) | (unfold ol; rw [if_neg (by decide)]; exact h)) c3 (by first | exact h3 | (rw [bs_bl]; exact h3) | (rw [show nb 1 V = [V] from by show [] ++ [V % 256] = [V]; rw [Nat.mod_eq_of_lt hV]; rfl]; exact h3))
  clear o3 h3 c3 k0 k1 k2
  go_wp2_with fail
  go_ret
  have hVd := HVD.out
  subst hVd
  exact ⟨rfl, HW.out, O3.out⟩
set_option maxHeartbeats 1000000 in
set_option maxRecDepth 20000 in
theorem write1 (p q B K N : Nat) (S : ByteArray) (l : List Nat) (w : World) (h : WW p q B l w) (hk : (K : Int) % 14 = 1) (hN : N < 18446744073709551616) (hl : l.length ≤ 10000000000000) (hS : S.size ≤ 1000000000) :
    Calls Tryz.prog 9 #[.pointer (some ⟨p, 0, none⟩), .pointer (some ⟨q, 0, none⟩), .agg #[.int .u8 K, .int .u64 N, .string S]] w fun e w' => e = .returned (.bool true) ∧ WW p q B (l ++ nb 2 (N % 65536)) w' ∧ Old p q B w w' := by
  have _ := hN
  have _ := hS
  obtain ⟨V, hVd⟩ : ∃ V, V = N % 65536 := ⟨_, rfl⟩
  have hV : V < 65536 := by omega
  have hcv : IntKind.u16.wrap (N : Int) = (V : Int) := by rw [IntKind.wrap_u16]; omega
  have hcm : (N : Int) % 65536 = (V : Int) := by omega
  have HVD := hid hVd
  clear hVd
  have bx : (w.alloc (.cells #[.int .u8 K, .int .u64 N, .string S] 32)).heap[w.heap.size]? = some (.cells #[.int .u8 K, .int .u64 N, .string S] 32 (0, 0)) := heap_new _ _
  have hA : Wr (w.alloc (.cells #[.int .u8 K, .int .u64 N, .string S] 32)) p B l := h.a.alloc _
  have hX : WX (w.alloc (.cells #[.int .u8 K, .int .u64 N, .string S] 32)) q (bs l) := heap_alloc_at h.x
  have hp := h.a.lt
  have hq := h.x.lt
  have o1 : Old p q B w (w.alloc (.cells #[.int .u8 K, .int .u64 N, .string S] 32)) := (Ch.refl _ _).alloc _
  have pc := wu16_any p B l V _ hA hV (by omega)
  have ne := h.ne
  have lt := h.lt
  have PC := hid pc
  have O1 := hid o1
  have HX := hid hX
  have BX := hid bx
  obtain ⟨k0, k1, k2⟩ := cells3w bx
  clear pc o1 hX bx h hA
  go_enter Tryz.func9, Tryz.ntmps9
  go_wp2_with fail
  have hg1 : w.heap.size < (w.alloc (.cells #[.int .u8 K, .int .u64 N, .string S] 32)).heap.size := by simp
  generalize w.alloc (.cells #[.int .u8 K, .int .u64 N, .string S] 32) = W at *
  refine PC.out.mono ?_
  rintro e w2 ⟨rfl, h2, c2⟩
  have hX : WX w2 q (bs l) := c2.other HX.out (fun e => ne e.symm) (by decide)
  have bx2 := c2.other BX.out (by omega) (by decide)
  have o2 : Old p q B W w2 := wu_old c2
  have dc := xwu16_any q (bs l) V _ hX hV (by rw [bs_size]; omega)
  have DC := hid dc
  have O2 := hid (O1.out.trans o2)
  have H2 := hid h2
  obtain ⟨k0, k1, k2⟩ := cells3w bx2
  clear dc o2 hX bx2 c2 h2
  go_wp2_with fail
  refine DC.out.mono ?_
  rintro e w3 ⟨rfl, h3, c3⟩
  have o3 : Old p q B w2 w3 := wx_old c3
  have O3 := hid (O2.out.trans o3)
  have HW : Hid (WW p q B (l ++ nb 2 V) w3) := WW.doc ne lt (by have h := H2.out; first | exact h | (unfold tx; rw [← List.append_assoc]; exact h) | (unfold ol; rw [if_pos rfl, ← List.append_assoc]; exact h) | (unfold ol; rw [if_neg (by decide)]; exact h)) c3 (by first | exact h3 | (rw [bs_bl]; exact h3) | (rw [show nb 1 V = [V] from by show [] ++ [V % 256] = [V]; rw [Nat.mod_eq_of_lt hV]; rfl]; exact h3))
  clear o3 h3 c3 k0 k1 k2
  go_wp2_with fail
  go_ret
  have hVd := HVD.out
  subst hVd
  exact ⟨rfl, HW.out, O3.out⟩
set_option maxHeartbeats 1000000 in
set_option maxRecDepth 20000 in
theorem write2 (p q B K N : Nat) (S : ByteArray) (l : List Nat) (w : World) (h : WW p q B l w) (hk : (K : Int) % 14 = 2) (hN : N < 18446744073709551616) (hl : l.length ≤ 10000000000000) (hS : S.size ≤ 1000000000) :
    Calls Tryz.prog 9 #[.pointer (some ⟨p, 0, none⟩), .pointer (some ⟨q, 0, none⟩), .agg #[.int .u8 K, .int .u64 N, .string S]] w fun e w' => e = .returned (.bool true) ∧ WW p q B (l ++ nb 4 (N % 4294967296)) w' ∧ Old p q B w w' := by
  have _ := hN
  have _ := hS
  obtain ⟨V, hVd⟩ : ∃ V, V = N % 4294967296 := ⟨_, rfl⟩
  have hV : V < 4294967296 := by omega
  have hcv : IntKind.u32.wrap (N : Int) = (V : Int) := by rw [IntKind.wrap_u32]; omega
  have hcm : (N : Int) % 4294967296 = (V : Int) := by omega
  have HVD := hid hVd
  clear hVd
  have bx : (w.alloc (.cells #[.int .u8 K, .int .u64 N, .string S] 32)).heap[w.heap.size]? = some (.cells #[.int .u8 K, .int .u64 N, .string S] 32 (0, 0)) := heap_new _ _
  have hA : Wr (w.alloc (.cells #[.int .u8 K, .int .u64 N, .string S] 32)) p B l := h.a.alloc _
  have hX : WX (w.alloc (.cells #[.int .u8 K, .int .u64 N, .string S] 32)) q (bs l) := heap_alloc_at h.x
  have hp := h.a.lt
  have hq := h.x.lt
  have o1 : Old p q B w (w.alloc (.cells #[.int .u8 K, .int .u64 N, .string S] 32)) := (Ch.refl _ _).alloc _
  have pc := wu32_any p B l V _ hA hV (by omega)
  have ne := h.ne
  have lt := h.lt
  have PC := hid pc
  have O1 := hid o1
  have HX := hid hX
  have BX := hid bx
  obtain ⟨k0, k1, k2⟩ := cells3w bx
  clear pc o1 hX bx h hA
  go_enter Tryz.func9, Tryz.ntmps9
  go_wp2_with fail
  have hg1 : w.heap.size < (w.alloc (.cells #[.int .u8 K, .int .u64 N, .string S] 32)).heap.size := by simp
  generalize w.alloc (.cells #[.int .u8 K, .int .u64 N, .string S] 32) = W at *
  refine PC.out.mono ?_
  rintro e w2 ⟨rfl, h2, c2⟩
  have hX : WX w2 q (bs l) := c2.other HX.out (fun e => ne e.symm) (by decide)
  have bx2 := c2.other BX.out (by omega) (by decide)
  have o2 : Old p q B W w2 := wu_old c2
  have dc := xwu32_any q (bs l) V _ hX hV (by rw [bs_size]; omega)
  have DC := hid dc
  have O2 := hid (O1.out.trans o2)
  have H2 := hid h2
  obtain ⟨k0, k1, k2⟩ := cells3w bx2
  clear dc o2 hX bx2 c2 h2
  go_wp2_with fail
  refine DC.out.mono ?_
  rintro e w3 ⟨rfl, h3, c3⟩
  have o3 : Old p q B w2 w3 := wx_old c3
  have O3 := hid (O2.out.trans o3)
  have HW : Hid (WW p q B (l ++ nb 4 V) w3) := WW.doc ne lt (by have h := H2.out; first | exact h | (unfold tx; rw [← List.append_assoc]; exact h) | (unfold ol; rw [if_pos rfl, ← List.append_assoc]; exact h) | (unfold ol; rw [if_neg (by decide)]; exact h)) c3 (by first | exact h3 | (rw [bs_bl]; exact h3) | (rw [show nb 1 V = [V] from by show [] ++ [V % 256] = [V]; rw [Nat.mod_eq_of_lt hV]; rfl]; exact h3))
  clear o3 h3 c3 k0 k1 k2
  go_wp2_with fail
  go_ret
  have hVd := HVD.out
  subst hVd
  exact ⟨rfl, HW.out, O3.out⟩
set_option maxHeartbeats 1000000 in
set_option maxRecDepth 20000 in
theorem write3 (p q B K N : Nat) (S : ByteArray) (l : List Nat) (w : World) (h : WW p q B l w) (hk : (K : Int) % 14 = 3) (hN : N < 18446744073709551616) (hl : l.length ≤ 10000000000000) (hS : S.size ≤ 1000000000) :
    Calls Tryz.prog 9 #[.pointer (some ⟨p, 0, none⟩), .pointer (some ⟨q, 0, none⟩), .agg #[.int .u8 K, .int .u64 N, .string S]] w fun e w' => e = .returned (.bool true) ∧ WW p q B (l ++ nb 8 N) w' ∧ Old p q B w w' := by
  have _ := hN
  have _ := hS
  have bx : (w.alloc (.cells #[.int .u8 K, .int .u64 N, .string S] 32)).heap[w.heap.size]? = some (.cells #[.int .u8 K, .int .u64 N, .string S] 32 (0, 0)) := heap_new _ _
  have hA : Wr (w.alloc (.cells #[.int .u8 K, .int .u64 N, .string S] 32)) p B l := h.a.alloc _
  have hX : WX (w.alloc (.cells #[.int .u8 K, .int .u64 N, .string S] 32)) q (bs l) := heap_alloc_at h.x
  have hp := h.a.lt
  have hq := h.x.lt
  have o1 : Old p q B w (w.alloc (.cells #[.int .u8 K, .int .u64 N, .string S] 32)) := (Ch.refl _ _).alloc _
  have pc := wu64_any p B l N _ hA (by omega)
  have ne := h.ne
  have lt := h.lt
  have PC := hid pc
  have O1 := hid o1
  have HX := hid hX
  have BX := hid bx
  obtain ⟨k0, k1, k2⟩ := cells3w bx
  clear pc o1 hX bx h hA
  go_enter Tryz.func9, Tryz.ntmps9
  go_wp2_with fail
  have hg1 : w.heap.size < (w.alloc (.cells #[.int .u8 K, .int .u64 N, .string S] 32)).heap.size := by simp
  generalize w.alloc (.cells #[.int .u8 K, .int .u64 N, .string S] 32) = W at *
  refine PC.out.mono ?_
  rintro e w2 ⟨rfl, h2, c2⟩
  have hX : WX w2 q (bs l) := c2.other HX.out (fun e => ne e.symm) (by decide)
  have bx2 := c2.other BX.out (by omega) (by decide)
  have o2 : Old p q B W w2 := wu_old c2
  have dc := xwu64_any q (bs l) N _ hX hN (by rw [bs_size]; omega)
  have DC := hid dc
  have O2 := hid (O1.out.trans o2)
  have H2 := hid h2
  obtain ⟨k0, k1, k2⟩ := cells3w bx2
  clear dc o2 hX bx2 c2 h2
  go_wp2_with fail
  refine DC.out.mono ?_
  rintro e w3 ⟨rfl, h3, c3⟩
  have o3 : Old p q B w2 w3 := wx_old c3
  have O3 := hid (O2.out.trans o3)
  have HW : Hid (WW p q B (l ++ nb 8 N) w3) := WW.doc ne lt (by have h := H2.out; first | exact h | (unfold tx; rw [← List.append_assoc]; exact h) | (unfold ol; rw [if_pos rfl, ← List.append_assoc]; exact h) | (unfold ol; rw [if_neg (by decide)]; exact h)) c3 (by first | exact h3 | (rw [bs_bl]; exact h3) | (rw [show nb 1 V = [V] from by show [] ++ [V % 256] = [V]; rw [Nat.mod_eq_of_lt hV]; rfl]; exact h3))
  clear o3 h3 c3 k0 k1 k2
  go_wp2_with fail
  go_ret
  exact ⟨rfl, HW.out, O3.out⟩
set_option maxHeartbeats 1000000 in
set_option maxRecDepth 20000 in
theorem write4 (p q B K N : Nat) (S : ByteArray) (l : List Nat) (w : World) (h : WW p q B l w) (hk : (K : Int) % 14 = 4) (hN : N < 18446744073709551616) (hl : l.length ≤ 10000000000000) (hS : S.size ≤ 1000000000) :
    Calls Tryz.prog 9 #[.pointer (some ⟨p, 0, none⟩), .pointer (some ⟨q, 0, none⟩), .agg #[.int .u8 K, .int .u64 N, .string S]] w fun e w' => e = .returned (.bool true) ∧ WW p q B (l ++ nb 4 ((IntKind.i32.wrap (N : Int)) % 4294967296).toNat) w' ∧ Old p q B w w' := by
  have _ := hN
  have _ := hS
  obtain ⟨v, hcv⟩ : ∃ v, IntKind.i32.wrap (N : Int) = v := ⟨_, rfl⟩
  have hv : -2147483648 ≤ v ∧ v ≤ 2147483647 := by rw [← hcv, IntKind.wrap_i32]; omega
  have bx : (w.alloc (.cells #[.int .u8 K, .int .u64 N, .string S] 32)).heap[w.heap.size]? = some (.cells #[.int .u8 K, .int .u64 N, .string S] 32 (0, 0)) := heap_new _ _
  have hA : Wr (w.alloc (.cells #[.int .u8 K, .int .u64 N, .string S] 32)) p B l := h.a.alloc _
  have hX : WX (w.alloc (.cells #[.int .u8 K, .int .u64 N, .string S] 32)) q (bs l) := heap_alloc_at h.x
  have hp := h.a.lt
  have hq := h.x.lt
  have o1 : Old p q B w (w.alloc (.cells #[.int .u8 K, .int .u64 N, .string S] 32)) := (Ch.refl _ _).alloc _
  have pc := wi32_any p B l v _ hA (by omega)
  have ne := h.ne
  have lt := h.lt
  have PC := hid pc
  have O1 := hid o1
  have HX := hid hX
  have BX := hid bx
  obtain ⟨k0, k1, k2⟩ := cells3w bx
  clear pc o1 hX bx h hA
  go_enter Tryz.func9, Tryz.ntmps9
  go_wp2_with fail
  have hg1 : w.heap.size < (w.alloc (.cells #[.int .u8 K, .int .u64 N, .string S] 32)).heap.size := by simp
  generalize w.alloc (.cells #[.int .u8 K, .int .u64 N, .string S] 32) = W at *
  refine PC.out.mono ?_
  rintro e w2 ⟨rfl, h2, c2⟩
  have hX : WX w2 q (bs l) := c2.other HX.out (fun e => ne e.symm) (by decide)
  have bx2 := c2.other BX.out (by omega) (by decide)
  have o2 : Old p q B W w2 := wu_old c2
  have dc := xwi32_any q (bs l) v _ hX (by rw [bs_size]; omega)
  have DC := hid dc
  have O2 := hid (O1.out.trans o2)
  have H2 := hid h2
  obtain ⟨k0, k1, k2⟩ := cells3w bx2
  clear dc o2 hX bx2 c2 h2
  go_wp2_with fail
  refine DC.out.mono ?_
  rintro e w3 ⟨rfl, h3, c3⟩
  have o3 : Old p q B w2 w3 := wx_old c3
  have O3 := hid (O2.out.trans o3)
  have HW : Hid (WW p q B (l ++ nb 4 (v % 4294967296).toNat) w3) := WW.doc ne lt (by have h := H2.out; first | exact h | (unfold tx; rw [← List.append_assoc]; exact h) | (unfold ol; rw [if_pos rfl, ← List.append_assoc]; exact h) | (unfold ol; rw [if_neg (by decide)]; exact h)) c3 (by first | exact h3 | (rw [bs_bl]; exact h3) | (rw [show nb 1 V = [V] from by show [] ++ [V % 256] = [V]; rw [Nat.mod_eq_of_lt hV]; rfl]; exact h3))
  clear o3 h3 c3 k0 k1 k2
  go_wp2_with fail
  go_ret
  subst hcv
  exact ⟨rfl, HW.out, O3.out⟩
set_option maxHeartbeats 1000000 in
set_option maxRecDepth 20000 in
theorem write5 (p q B K N : Nat) (S : ByteArray) (l : List Nat) (w : World) (h : WW p q B l w) (hk : (K : Int) % 14 = 5) (hN : N < 18446744073709551616) (hl : l.length ≤ 10000000000000) (hS : S.size ≤ 1000000000) :
    Calls Tryz.prog 9 #[.pointer (some ⟨p, 0, none⟩), .pointer (some ⟨q, 0, none⟩), .agg #[.int .u8 K, .int .u64 N, .string S]] w fun e w' => e = .returned (.bool true) ∧ WW p q B (l ++ nb 8 ((IntKind.i64.wrap (N : Int)) % 18446744073709551616).toNat) w' ∧ Old p q B w w' := by
  have _ := hN
  have _ := hS
  obtain ⟨v, hcv⟩ : ∃ v, IntKind.i64.wrap (N : Int) = v := ⟨_, rfl⟩
  have hv : -9223372036854775808 ≤ v ∧ v ≤ 9223372036854775807 := by rw [← hcv, IntKind.wrap_i64]; omega
  have bx : (w.alloc (.cells #[.int .u8 K, .int .u64 N, .string S] 32)).heap[w.heap.size]? = some (.cells #[.int .u8 K, .int .u64 N, .string S] 32 (0, 0)) := heap_new _ _
  have hA : Wr (w.alloc (.cells #[.int .u8 K, .int .u64 N, .string S] 32)) p B l := h.a.alloc _
  have hX : WX (w.alloc (.cells #[.int .u8 K, .int .u64 N, .string S] 32)) q (bs l) := heap_alloc_at h.x
  have hp := h.a.lt
  have hq := h.x.lt
  have o1 : Old p q B w (w.alloc (.cells #[.int .u8 K, .int .u64 N, .string S] 32)) := (Ch.refl _ _).alloc _
  have pc := wi64_any p B l v _ hA (by omega)
  have ne := h.ne
  have lt := h.lt
  have PC := hid pc
  have O1 := hid o1
  have HX := hid hX
  have BX := hid bx
  obtain ⟨k0, k1, k2⟩ := cells3w bx
  clear pc o1 hX bx h hA
  go_enter Tryz.func9, Tryz.ntmps9
  go_wp2_with fail
  have hg1 : w.heap.size < (w.alloc (.cells #[.int .u8 K, .int .u64 N, .string S] 32)).heap.size := by simp
  generalize w.alloc (.cells #[.int .u8 K, .int .u64 N, .string S] 32) = W at *
  refine PC.out.mono ?_
  rintro e w2 ⟨rfl, h2, c2⟩
  have hX : WX w2 q (bs l) := c2.other HX.out (fun e => ne e.symm) (by decide)
  have bx2 := c2.other BX.out (by omega) (by decide)
  have o2 : Old p q B W w2 := wu_old c2
  have dc := xwi64_any q (bs l) v _ hX (by rw [bs_size]; omega)
  have DC := hid dc
  have O2 := hid (O1.out.trans o2)
  have H2 := hid h2
  obtain ⟨k0, k1, k2⟩ := cells3w bx2
  clear dc o2 hX bx2 c2 h2
  go_wp2_with fail
  refine DC.out.mono ?_
  rintro e w3 ⟨rfl, h3, c3⟩
  have o3 : Old p q B w2 w3 := wx_old c3
  have O3 := hid (O2.out.trans o3)
  have HW : Hid (WW p q B (l ++ nb 8 (v % 18446744073709551616).toNat) w3) := WW.doc ne lt (by have h := H2.out; first | exact h | (unfold tx; rw [← List.append_assoc]; exact h) | (unfold ol; rw [if_pos rfl, ← List.append_assoc]; exact h) | (unfold ol; rw [if_neg (by decide)]; exact h)) c3 (by first | exact h3 | (rw [bs_bl]; exact h3) | (rw [show nb 1 V = [V] from by show [] ++ [V % 256] = [V]; rw [Nat.mod_eq_of_lt hV]; rfl]; exact h3))
  clear o3 h3 c3 k0 k1 k2
  go_wp2_with fail
  go_ret
  subst hcv
  exact ⟨rfl, HW.out, O3.out⟩
set_option maxHeartbeats 1000000 in
set_option maxRecDepth 20000 in
theorem write6 (p q B K N : Nat) (S : ByteArray) (l : List Nat) (w : World) (h : WW p q B l w) (hk : (K : Int) % 14 = 6) (hN : N < 18446744073709551616) (hl : l.length ≤ 10000000000000) (hS : S.size ≤ 1000000000) :
    Calls Tryz.prog 9 #[.pointer (some ⟨p, 0, none⟩), .pointer (some ⟨q, 0, none⟩), .agg #[.int .u8 K, .int .u64 N, .string S]] w fun e w' => e = .returned (.bool true) ∧ WW p q B (l ++ M.form N) w' ∧ Old p q B w w' := by
  have _ := hN
  have _ := hS
  have bx : (w.alloc (.cells #[.int .u8 K, .int .u64 N, .string S] 32)).heap[w.heap.size]? = some (.cells #[.int .u8 K, .int .u64 N, .string S] 32 (0, 0)) := heap_new _ _
  have hA : Wr (w.alloc (.cells #[.int .u8 K, .int .u64 N, .string S] 32)) p B l := h.a.alloc _
  have hX : WX (w.alloc (.cells #[.int .u8 K, .int .u64 N, .string S] 32)) q (bs l) := heap_alloc_at h.x
  have hp := h.a.lt
  have hq := h.x.lt
  have o1 : Old p q B w (w.alloc (.cells #[.int .u8 K, .int .u64 N, .string S] 32)) := (Ch.refl _ _).alloc _
  have pc := wuvarint_any p B l N _ hA hN (by omega)
  have ne := h.ne
  have lt := h.lt
  have PC := hid pc
  have O1 := hid o1
  have HX := hid hX
  have BX := hid bx
  obtain ⟨k0, k1, k2⟩ := cells3w bx
  clear pc o1 hX bx h hA
  go_enter Tryz.func9, Tryz.ntmps9
  go_wp2_with fail
  have hg1 : w.heap.size < (w.alloc (.cells #[.int .u8 K, .int .u64 N, .string S] 32)).heap.size := by simp
  generalize w.alloc (.cells #[.int .u8 K, .int .u64 N, .string S] 32) = W at *
  refine PC.out.mono ?_
  rintro e w2 ⟨rfl, h2, c2⟩
  have hX : WX w2 q (bs l) := c2.other HX.out (fun e => ne e.symm) (by decide)
  have bx2 := c2.other BX.out (by omega) (by decide)
  have o2 : Old p q B W w2 := wu_old c2
  have dc := xwuvarint_any q (bs l) N _ hX hN (by rw [bs_size]; omega)
  have DC := hid dc
  have O2 := hid (O1.out.trans o2)
  have H2 := hid h2
  obtain ⟨k0, k1, k2⟩ := cells3w bx2
  clear dc o2 hX bx2 c2 h2
  go_wp2_with fail
  refine DC.out.mono ?_
  rintro e w3 ⟨rfl, h3, c3⟩
  have o3 : Old p q B w2 w3 := wx_old c3
  have O3 := hid (O2.out.trans o3)
  have HW : Hid (WW p q B (l ++ M.form N) w3) := WW.doc ne lt (by have h := H2.out; first | exact h | (unfold tx; rw [← List.append_assoc]; exact h) | (unfold ol; rw [if_pos rfl, ← List.append_assoc]; exact h) | (unfold ol; rw [if_neg (by decide)]; exact h)) c3 (by first | exact h3 | (rw [bs_bl]; exact h3) | (rw [show nb 1 V = [V] from by show [] ++ [V % 256] = [V]; rw [Nat.mod_eq_of_lt hV]; rfl]; exact h3))
  clear o3 h3 c3 k0 k1 k2
  go_wp2_with fail
  go_ret
  exact ⟨rfl, HW.out, O3.out⟩
set_option maxHeartbeats 1000000 in
set_option maxRecDepth 20000 in
theorem write7 (p q B K N : Nat) (S : ByteArray) (l : List Nat) (w : World) (h : WW p q B l w) (hk : (K : Int) % 14 = 7) (hN : N < 18446744073709551616) (hl : l.length ≤ 10000000000000) (hS : S.size ≤ 1000000000) :
    Calls Tryz.prog 9 #[.pointer (some ⟨p, 0, none⟩), .pointer (some ⟨q, 0, none⟩), .agg #[.int .u8 K, .int .u64 N, .string S]] w fun e w' => e = .returned (.bool true) ∧ WW p q B (l ++ M.form (M.zz (IntKind.i64.wrap (N : Int))).toNat) w' ∧ Old p q B w w' := by
  have _ := hN
  have _ := hS
  obtain ⟨v, hcv⟩ : ∃ v, IntKind.i64.wrap (N : Int) = v := ⟨_, rfl⟩
  have hv : -9223372036854775808 ≤ v ∧ v ≤ 9223372036854775807 := by rw [← hcv, IntKind.wrap_i64]; omega
  have bx : (w.alloc (.cells #[.int .u8 K, .int .u64 N, .string S] 32)).heap[w.heap.size]? = some (.cells #[.int .u8 K, .int .u64 N, .string S] 32 (0, 0)) := heap_new _ _
  have hA : Wr (w.alloc (.cells #[.int .u8 K, .int .u64 N, .string S] 32)) p B l := h.a.alloc _
  have hX : WX (w.alloc (.cells #[.int .u8 K, .int .u64 N, .string S] 32)) q (bs l) := heap_alloc_at h.x
  have hp := h.a.lt
  have hq := h.x.lt
  have o1 : Old p q B w (w.alloc (.cells #[.int .u8 K, .int .u64 N, .string S] 32)) := (Ch.refl _ _).alloc _
  have pc := wvarint_any p B l v _ hA hv.1 hv.2 (by omega)
  have ne := h.ne
  have lt := h.lt
  have PC := hid pc
  have O1 := hid o1
  have HX := hid hX
  have BX := hid bx
  obtain ⟨k0, k1, k2⟩ := cells3w bx
  clear pc o1 hX bx h hA
  go_enter Tryz.func9, Tryz.ntmps9
  go_wp2_with fail
  have hg1 : w.heap.size < (w.alloc (.cells #[.int .u8 K, .int .u64 N, .string S] 32)).heap.size := by simp
  generalize w.alloc (.cells #[.int .u8 K, .int .u64 N, .string S] 32) = W at *
  refine PC.out.mono ?_
  rintro e w2 ⟨rfl, h2, c2⟩
  have hX : WX w2 q (bs l) := c2.other HX.out (fun e => ne e.symm) (by decide)
  have bx2 := c2.other BX.out (by omega) (by decide)
  have o2 : Old p q B W w2 := wu_old c2
  have dc := xwvarint_any q (bs l) v _ hX hv (by rw [bs_size]; omega)
  have DC := hid dc
  have O2 := hid (O1.out.trans o2)
  have H2 := hid h2
  obtain ⟨k0, k1, k2⟩ := cells3w bx2
  clear dc o2 hX bx2 c2 h2
  go_wp2_with fail
  refine DC.out.mono ?_
  rintro e w3 ⟨rfl, h3, c3⟩
  have o3 : Old p q B w2 w3 := wx_old c3
  have O3 := hid (O2.out.trans o3)
  have HW : Hid (WW p q B (l ++ M.form (M.zz v).toNat) w3) := WW.doc ne lt (by have h := H2.out; first | exact h | (unfold tx; rw [← List.append_assoc]; exact h) | (unfold ol; rw [if_pos rfl, ← List.append_assoc]; exact h) | (unfold ol; rw [if_neg (by decide)]; exact h)) c3 (by first | exact h3 | (rw [bs_bl]; exact h3) | (rw [show nb 1 V = [V] from by show [] ++ [V % 256] = [V]; rw [Nat.mod_eq_of_lt hV]; rfl]; exact h3))
  clear o3 h3 c3 k0 k1 k2
  go_wp2_with fail
  go_ret
  subst hcv
  exact ⟨rfl, HW.out, O3.out⟩
set_option maxHeartbeats 1000000 in
set_option maxRecDepth 20000 in
theorem write8 (p q B K N : Nat) (S : ByteArray) (l : List Nat) (w : World) (h : WW p q B l w) (hk : (K : Int) % 14 = 8) (hN : N < 18446744073709551616) (hl : l.length ≤ 10000000000000) (hS : S.size ≤ 1000000000) :
    Calls Tryz.prog 9 #[.pointer (some ⟨p, 0, none⟩), .pointer (some ⟨q, 0, none⟩), .agg #[.int .u8 K, .int .u64 N, .string S]] w fun e w' => e = .returned (.bool true) ∧ WW p q B (l ++ bl S) w' ∧ Old p q B w w' := by
  have _ := hN
  have _ := hS
  have bx : (w.alloc (.cells #[.int .u8 K, .int .u64 N, .string S] 32)).heap[w.heap.size]? = some (.cells #[.int .u8 K, .int .u64 N, .string S] 32 (0, 0)) := heap_new _ _
  have hA : Wr (w.alloc (.cells #[.int .u8 K, .int .u64 N, .string S] 32)) p B l := h.a.alloc _
  have hX : WX (w.alloc (.cells #[.int .u8 K, .int .u64 N, .string S] 32)) q (bs l) := heap_alloc_at h.x
  have hp := h.a.lt
  have hq := h.x.lt
  have o1 : Old p q B w (w.alloc (.cells #[.int .u8 K, .int .u64 N, .string S] 32)) := (Ch.refl _ _).alloc _
  have pc := wraw_any p B l S _ hA (by omega)
  have ne := h.ne
  have lt := h.lt
  have PC := hid pc
  have O1 := hid o1
  have HX := hid hX
  have BX := hid bx
  obtain ⟨k0, k1, k2⟩ := cells3w bx
  clear pc o1 hX bx h hA
  go_enter Tryz.func9, Tryz.ntmps9
  go_wp2_with fail
  have hg1 : w.heap.size < (w.alloc (.cells #[.int .u8 K, .int .u64 N, .string S] 32)).heap.size := by simp
  generalize w.alloc (.cells #[.int .u8 K, .int .u64 N, .string S] 32) = W at *
  refine PC.out.mono ?_
  rintro e w2 ⟨rfl, h2, c2⟩
  have hX : WX w2 q (bs l) := c2.other HX.out (fun e => ne e.symm) (by decide)
  have bx2 := c2.other BX.out (by omega) (by decide)
  have o2 : Old p q B W w2 := wu_old c2
  have dc := xwraw_any q (bs l) S _ hX (by rw [bs_size]; omega)
  have DC := hid dc
  have O2 := hid (O1.out.trans o2)
  have H2 := hid h2
  obtain ⟨k0, k1, k2⟩ := cells3w bx2
  clear dc o2 hX bx2 c2 h2
  go_wp2_with fail
  refine DC.out.mono ?_
  rintro e w3 ⟨rfl, h3, c3⟩
  have o3 : Old p q B w2 w3 := wx_old c3
  have O3 := hid (O2.out.trans o3)
  have HW : Hid (WW p q B (l ++ bl S) w3) := WW.doc ne lt (by have h := H2.out; first | exact h | (unfold tx; rw [← List.append_assoc]; exact h) | (unfold ol; rw [if_pos rfl, ← List.append_assoc]; exact h) | (unfold ol; rw [if_neg (by decide)]; exact h)) c3 (by first | exact h3 | (rw [bs_bl]; exact h3) | (rw [show nb 1 V = [V] from by show [] ++ [V % 256] = [V]; rw [Nat.mod_eq_of_lt hV]; rfl]; exact h3))
  clear o3 h3 c3 k0 k1 k2
  go_wp2_with fail
  go_ret
  exact ⟨rfl, HW.out, O3.out⟩
set_option maxHeartbeats 1000000 in
set_option maxRecDepth 20000 in
theorem write9 (p q B K N : Nat) (S : ByteArray) (l : List Nat) (w : World) (h : WW p q B l w) (hk : (K : Int) % 14 = 9) (hN : N < 18446744073709551616) (hl : l.length ≤ 10000000000000) (hS : S.size ≤ 1000000000) :
    Calls Tryz.prog 9 #[.pointer (some ⟨p, 0, none⟩), .pointer (some ⟨q, 0, none⟩), .agg #[.int .u8 K, .int .u64 N, .string S]] w fun e w' => e = .returned (.bool true) ∧ WW p q B (l ++ tx S) w' ∧ Old p q B w w' := by
  have _ := hN
  have _ := hS
  have bx : (w.alloc (.cells #[.int .u8 K, .int .u64 N, .string S] 32)).heap[w.heap.size]? = some (.cells #[.int .u8 K, .int .u64 N, .string S] 32 (0, 0)) := heap_new _ _
  have hA : Wr (w.alloc (.cells #[.int .u8 K, .int .u64 N, .string S] 32)) p B l := h.a.alloc _
  have hX : WX (w.alloc (.cells #[.int .u8 K, .int .u64 N, .string S] 32)) q (bs l) := heap_alloc_at h.x
  have hp := h.a.lt
  have hq := h.x.lt
  have o1 : Old p q B w (w.alloc (.cells #[.int .u8 K, .int .u64 N, .string S] 32)) := (Ch.refl _ _).alloc _
  have pc := wtext_any p B l S _ hA (by omega) (by have := M.form_le S.size; omega)
  have ne := h.ne
  have lt := h.lt
  have PC := hid pc
  have O1 := hid o1
  have HX := hid hX
  have BX := hid bx
  obtain ⟨k0, k1, k2⟩ := cells3w bx
  clear pc o1 hX bx h hA
  go_enter Tryz.func9, Tryz.ntmps9
  go_wp2_with fail
  have hg1 : w.heap.size < (w.alloc (.cells #[.int .u8 K, .int .u64 N, .string S] 32)).heap.size := by simp
  generalize w.alloc (.cells #[.int .u8 K, .int .u64 N, .string S] 32) = W at *
  refine PC.out.mono ?_
  rintro e w2 ⟨rfl, h2, c2⟩
  have hX : WX w2 q (bs l) := c2.other HX.out (fun e => ne e.symm) (by decide)
  have bx2 := c2.other BX.out (by omega) (by decide)
  have o2 : Old p q B W w2 := wu_old c2
  have dc := xwtx_any q (bs l) S _ hX (by rw [bs_size]; omega)
  have DC := hid dc
  have O2 := hid (O1.out.trans o2)
  have H2 := hid h2
  obtain ⟨k0, k1, k2⟩ := cells3w bx2
  clear dc o2 hX bx2 c2 h2
  go_wp2_with fail
  refine DC.out.mono ?_
  rintro e w3 ⟨rfl, h3, c3⟩
  have o3 : Old p q B w2 w3 := wx_old c3
  have O3 := hid (O2.out.trans o3)
  have HW : Hid (WW p q B (l ++ tx S) w3) := WW.doc ne lt (by have h := H2.out; first | exact h | (unfold tx; rw [← List.append_assoc]; exact h) | (unfold ol; rw [if_pos rfl, ← List.append_assoc]; exact h) | (unfold ol; rw [if_neg (by decide)]; exact h)) c3 (by first | exact h3 | (rw [bs_bl]; exact h3) | (rw [show nb 1 V = [V] from by show [] ++ [V % 256] = [V]; rw [Nat.mod_eq_of_lt hV]; rfl]; exact h3))
  clear o3 h3 c3 k0 k1 k2
  go_wp2_with fail
  go_ret
  exact ⟨rfl, HW.out, O3.out⟩
set_option maxHeartbeats 1000000 in
set_option maxRecDepth 20000 in
theorem write10 (p q B K N : Nat) (S : ByteArray) (l : List Nat) (w : World) (h : WW p q B l w) (hk : (K : Int) % 14 = 10) (hN : N < 18446744073709551616) (hl : l.length ≤ 10000000000000) (hS : S.size ≤ 1000000000) :
    Calls Tryz.prog 9 #[.pointer (some ⟨p, 0, none⟩), .pointer (some ⟨q, 0, none⟩), .agg #[.int .u8 K, .int .u64 N, .string S]] w fun e w' => e = .returned (.bool true) ∧ WW p q B (l ++ ol true S) w' ∧ Old p q B w w' := by
  have _ := hN
  have _ := hS
  have bx : (w.alloc (.cells #[.int .u8 K, .int .u64 N, .string S] 32)).heap[w.heap.size]? = some (.cells #[.int .u8 K, .int .u64 N, .string S] 32 (0, 0)) := heap_new _ _
  have hA : Wr (w.alloc (.cells #[.int .u8 K, .int .u64 N, .string S] 32)) p B l := h.a.alloc _
  have hX : WX (w.alloc (.cells #[.int .u8 K, .int .u64 N, .string S] 32)) q (bs l) := heap_alloc_at h.x
  have hp := h.a.lt
  have hq := h.x.lt
  have o1 : Old p q B w (w.alloc (.cells #[.int .u8 K, .int .u64 N, .string S] 32)) := (Ch.refl _ _).alloc _
  have pc := wopt_any p B l S _ hA (by omega) (by have := M.form_le (2 * S.size); omega)
  have ne := h.ne
  have lt := h.lt
  have PC := hid pc
  have O1 := hid o1
  have HX := hid hX
  have BX := hid bx
  obtain ⟨k0, k1, k2⟩ := cells3w bx
  clear pc o1 hX bx h hA
  go_enter Tryz.func9, Tryz.ntmps9
  go_wp2_with fail
  have hg1 : w.heap.size < (w.alloc (.cells #[.int .u8 K, .int .u64 N, .string S] 32)).heap.size := by simp
  generalize w.alloc (.cells #[.int .u8 K, .int .u64 N, .string S] 32) = W at *
  refine PC.out.mono ?_
  rintro e w2 ⟨rfl, h2, c2⟩
  have hX : WX w2 q (bs l) := c2.other HX.out (fun e => ne e.symm) (by decide)
  have bx2 := c2.other BX.out (by omega) (by decide)
  have o2 : Old p q B W w2 := wu_old c2
  have dc := xwol_any q (bs l) true S _ hX (by rw [bs_size]; omega) (by omega)
  have DC := hid dc
  have O2 := hid (O1.out.trans o2)
  have H2 := hid h2
  obtain ⟨k0, k1, k2⟩ := cells3w bx2
  clear dc o2 hX bx2 c2 h2
  go_wp2_with fail
  refine DC.out.mono ?_
  rintro e w3 ⟨rfl, h3, c3⟩
  have o3 : Old p q B w2 w3 := wx_old c3
  have O3 := hid (O2.out.trans o3)
  have HW : Hid (WW p q B (l ++ ol true S) w3) := WW.doc ne lt (by have h := H2.out; first | exact h | (unfold tx; rw [← List.append_assoc]; exact h) | (unfold ol; rw [if_pos rfl, ← List.append_assoc]; exact h) | (unfold ol; rw [if_neg (by decide)]; exact h)) c3 (by first | exact h3 | (rw [bs_bl]; exact h3) | (rw [show nb 1 V = [V] from by show [] ++ [V % 256] = [V]; rw [Nat.mod_eq_of_lt hV]; rfl]; exact h3))
  clear o3 h3 c3 k0 k1 k2
  go_wp2_with fail
  go_ret
  exact ⟨rfl, HW.out, O3.out⟩
set_option maxHeartbeats 1000000 in
set_option maxRecDepth 20000 in
theorem write11 (p q B K N : Nat) (S : ByteArray) (l : List Nat) (w : World) (h : WW p q B l w) (hk : (K : Int) % 14 = 11) (hN : N < 18446744073709551616) (hl : l.length ≤ 10000000000000) (hS : S.size ≤ 1000000000) :
    Calls Tryz.prog 9 #[.pointer (some ⟨p, 0, none⟩), .pointer (some ⟨q, 0, none⟩), .agg #[.int .u8 K, .int .u64 N, .string S]] w fun e w' => e = .returned (.bool true) ∧ WW p q B (l ++ ol false S) w' ∧ Old p q B w w' := by
  have _ := hN
  have _ := hS
  have bx : (w.alloc (.cells #[.int .u8 K, .int .u64 N, .string S] 32)).heap[w.heap.size]? = some (.cells #[.int .u8 K, .int .u64 N, .string S] 32 (0, 0)) := heap_new _ _
  have hA : Wr (w.alloc (.cells #[.int .u8 K, .int .u64 N, .string S] 32)) p B l := h.a.alloc _
  have hX : WX (w.alloc (.cells #[.int .u8 K, .int .u64 N, .string S] 32)) q (bs l) := heap_alloc_at h.x
  have hp := h.a.lt
  have hq := h.x.lt
  have o1 : Old p q B w (w.alloc (.cells #[.int .u8 K, .int .u64 N, .string S] 32)) := (Ch.refl _ _).alloc _
  have pc := wnull_any p B l S _ hA (by omega)
  have ne := h.ne
  have lt := h.lt
  have PC := hid pc
  have O1 := hid o1
  have HX := hid hX
  have BX := hid bx
  obtain ⟨k0, k1, k2⟩ := cells3w bx
  clear pc o1 hX bx h hA
  go_enter Tryz.func9, Tryz.ntmps9
  go_wp2_with fail
  have hg1 : w.heap.size < (w.alloc (.cells #[.int .u8 K, .int .u64 N, .string S] 32)).heap.size := by simp
  generalize w.alloc (.cells #[.int .u8 K, .int .u64 N, .string S] 32) = W at *
  refine PC.out.mono ?_
  rintro e w2 ⟨rfl, h2, c2⟩
  have hX : WX w2 q (bs l) := c2.other HX.out (fun e => ne e.symm) (by decide)
  have bx2 := c2.other BX.out (by omega) (by decide)
  have o2 : Old p q B W w2 := wu_old c2
  have dc := xwol_any q (bs l) false S _ hX (by rw [bs_size]; omega) (by omega)
  have DC := hid dc
  have O2 := hid (O1.out.trans o2)
  have H2 := hid h2
  obtain ⟨k0, k1, k2⟩ := cells3w bx2
  clear dc o2 hX bx2 c2 h2
  go_wp2_with fail
  refine DC.out.mono ?_
  rintro e w3 ⟨rfl, h3, c3⟩
  have o3 : Old p q B w2 w3 := wx_old c3
  have O3 := hid (O2.out.trans o3)
  have HW : Hid (WW p q B (l ++ ol false S) w3) := WW.doc ne lt (by have h := H2.out; first | exact h | (unfold tx; rw [← List.append_assoc]; exact h) | (unfold ol; rw [if_pos rfl, ← List.append_assoc]; exact h) | (unfold ol; rw [if_neg (by decide)]; exact h)) c3 (by first | exact h3 | (rw [bs_bl]; exact h3) | (rw [show nb 1 V = [V] from by show [] ++ [V % 256] = [V]; rw [Nat.mod_eq_of_lt hV]; rfl]; exact h3))
  clear o3 h3 c3 k0 k1 k2
  go_wp2_with fail
  go_ret
  exact ⟨rfl, HW.out, O3.out⟩
end Go.Proofs.YtpfaioncaolmjaaGreat
