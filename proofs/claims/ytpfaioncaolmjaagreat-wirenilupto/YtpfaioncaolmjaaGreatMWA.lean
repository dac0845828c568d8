/- Texts of the proof, put together: Wri, Wpt, Wpx, Wra. -/
import Derived.Test.YtpfaioncaolmjaaGreatMWX
import Derived.Test.YtpfaioncaolmjaaGreatWm
import Derived.BigRegion
import Derived.Laws.OwnMore
import Derived.Deep.RegionLaw
namespace Go.Proofs.YtpfaioncaolmjaaGreat
open Go.RowKit
/-- Both writers, with the same written. -/
structure WW (p q B : Nat) (l : List Nat) (y : World) : Prop where
  a : Wr y p B l
  x : WX y q (bs l)
  ne : p ≠ q
  lt : q < B
/-- What only both writers' calls have turned. -/
def Old (p q B : Nat) (w w' : World) : Prop := Ch (fun i => WU p B w i ∨ i = q) w w'
theorem Old.base {p q B : Nat} {w w' : World} (h : Old p q B w w') : Ch (fun i => i = p ∨ i = q ∨ B ≤ i) w w' := Ch.mono h (fun i _ hs => by
  rcases hs with (h | ⟨h, _⟩) | h
  · exact Or.inl h
  · exact Or.inr (Or.inr h)
  · exact Or.inr (Or.inl h))
theorem Old.bel {p q B : Nat} {w w' : World} (h : Old p q B w w') : ∀ H, H ≤ p → H ≤ q → H ≤ B → H ≤ w.heap.size → Below H w w' := fun H _ _ _ h4 => Ch.below h.base h4 (fun i hi hs => by omega)
theorem Old.trans {p q B : Nat} {a b c : World} (h : Old p q B a b) (k : Old p q B b c) : Old p q B a c :=
  Ch.then h k (fun i hi hT => by
    rcases hT with (rfl | ⟨hB, o, fz, ho⟩) | rfl
    · exact Or.inl (Or.inl rfl)
    · apply Classical.byContradiction
      intro hn
      apply hn
      rw [Ch.block h i hi hn] at ho
      exact Or.inl (Or.inr ⟨hB, o, fz, ho⟩)
    · exact Or.inr rfl)
/-- A block of another kind stays. -/
theorem Old.box {p q B i : Nat} {w w' : World} {c : Array Value} {T : TypeId} {fz : Nat × Nat} (h : Old p q B w w') (hi : w.heap[i]? = some (.cells c T fz)) (hp : i ≠ p) (hq : i ≠ q) (hT : T ≠ 5) : w'.heap[i]? = some (.cells c T fz) := by
  rw [Ch.block h i (lt_of_heap hi) (fun hs => ?_), hi]
  rcases hs with (hs | ⟨_, c', fz', he⟩) | hs
  · exact hp hs
  · rw [hi] at he
    injection he with he
    injection he with _ he _
    exact hT he
  · exact hq hs
theorem cells3w {w : World} {G : Nat} {T : TypeId} {v0 v1 v2 : Value} (h : w.heap[G]? = some (.cells #[v0, v1, v2] T (0, 0))) : w.cell? ⟨G, 0, none⟩ = some v0 ∧ w.cell? ⟨G, 1, none⟩ = some v1 ∧ w.cell? ⟨G, 2, none⟩ = some v2 := ⟨(cell_of h).trans rfl, (cell_of h).trans rfl, (cell_of h).trans rfl⟩
theorem wu_old {p q B : Nat} {w w' : World} (h : Ch (WU p B w) w w') : Old p q B w w' := h.mono (fun _ _ hs => Or.inl hs)
theorem wx_old {p q B : Nat} {w w' : World} (h : Ch (fun i => i = q) w w') : Old p q B w w' := h.mono (fun _ _ hs => Or.inr hs)
theorem WW.size {p q B : Nat} {l : List Nat} {y : World} (_ : WW p q B l y) : (bs l).size = l.length := bs_size l
theorem WW.prog {p q B : Nat} {l d : List Nat} {w w' : World} (h : WW p q B l w) (k : Wr w' p B (l ++ d)) (c : Ch (WU p B w) w w') : Wr w' p B (l ++ d) ∧ WX w' q (bs l) := ⟨k, c.other h.x (fun e => h.ne e.symm) (by decide)⟩
theorem WW.doc {p q B : Nat} {l d : List Nat} {w' w2 : World} (ne : p ≠ q) (lt : q < B) (k : Wr w' p B (l ++ d)) (c : Ch (fun i => i = q) w' w2) (x : WX w2 q (bs l ++ bs d)) : WW p q B (l ++ d) w2 := ⟨k.ch c ne (fun i hi e => by omega), by rw [bs_app]; exact x, ne, lt⟩
set_option maxHeartbeats 1000000 in
set_option maxRecDepth 20000 in
theorem write0 (p q B K N : Nat) (S : ByteArray) (l : List Nat) (w : World) (h : WW p q B l w) (hk : (K : Int) % 14 = 0) (hN : N < 18446744073709551616) (hl : l.length ≤ 10000000000000) (hS : S.size ≤ 1000000000) :
    Calls Tryz.prog 9 #[.pointer (some ⟨p, 0, none⟩), .pointer (some ⟨q, 0, none⟩), .agg #[.int .u8 K, .int .u64 N, .string S]] w fun e w' => e = .returned (.bool true) ∧ WW p q B (l ++ nb 1 (N % 256)) w' ∧ Old p q B w w' := by
  have _ := hN
  have _ := hS
  obtain ⟨V, hVd⟩ : ∃ V, V = N % 256 := ⟨_, rfl⟩
  have hV : V < 256 := by omega
  have hcv : IntKind.u8.wrap (N : Int) = (V : Int) := by rw [IntKind.wrap_u8]; omega
  have hcm : (N : Int) % 256 = (V : Int) := by omega
  have HVD := hid hVd
  clear hVd
  have bx : (w.alloc (.cells #[.int .u8 K, .int .u64 N, .string S] 32)).heap[w.heap.size]? = some (.cells #[.int .u8 K, .int .u64 N, .string S] 32 (0, 0)) := heap_new _ _
  have hA : Wr (w.alloc (.cells #[.int .u8 K, .int .u64 N, .string S] 32)) p B l := h.a.alloc _
  have hX : WX (w.alloc (.cells #[.int .u8 K, .int .u64 N, .string S] 32)) q (bs l) := heap_alloc_at h.x
  have hp := h.a.lt
  have hq := h.x.lt
  have o1 : Old p q B w (w.alloc (.cells #[.int .u8 K, .int .u64 N, .string S] 32)) := (Ch.refl _ _).alloc _
  have pc := wu8_any p B l V _ hA hV (by omega)
  have ne := h.ne
  have lt := h.lt
  have PC := hid pc
  have O1 := hid o1
  have HX := hid hX
  have BX := hid bx
  obtain ⟨k0, k1, k2⟩ := cells3w bx
  clear pc o1 hX bx h hA
  go_enter Tryz.func9, Tryz.ntmps9
  go_wp2_with fail
  have hg1 : w.heap.size < (w.alloc (.cells #[.int .u8 K, .int .u64 N, .string S] 32)).heap.size := by simp
  generalize w.alloc (.cells #[.int .u8 K, .int .u64 N, .string S] 32) = W at *
  refine PC.out.mono ?_
  rintro e w2 ⟨rfl, h2, c2⟩
  have hX : WX w2 q (bs l) := c2.other HX.out (fun e => ne e.symm) (by decide)
  have bx2 := c2.other BX.out (by omega) (by decide)
  have o2 : Old p q B W w2 := wu_old c2
  have dc := xwu8_any q (bs l) V _ hX hV (by rw [bs_size]; omega)
  have DC := hid dc
  have O2 := hid (O1.out.trans o2)
  have H2 := hid h2
  obtain ⟨k0, k1, k2⟩ := cells3w bx2
  clear dc o2 hX bx2 c2 h2
  go_wp2_with fail
  refine DC.out.mono ?_
  rintro e w3 ⟨rfl, h3, c3⟩
  have o3 : Old p q B w2 w3 := wx_old c3
  have O3 := hid (O2.out.trans o3)
  have HW : Hid (WW p q B (l ++ nb 1 V) w3) := WW.doc ne lt (by have h := H2.out; first | exact h | (unfold tx; rw [← List.append_assoc]; exact h) | (unfold ol; rw [if_pos rfl, ← List.append_assoc]; exact h) | (unfold ol; rw [if_neg (by decide)]; exact h)) c3 (by first | exact h3 | (rw [bs_bl]; exact h3) | (rw [show nb 1 V = [V] from by show [] ++ [V % 256] = [V]; rw [Nat.mod_eq_of_lt hV]; rfl]; exact h3))
  clear o3 h3 c3 k0 k1 k2
  go_wp2_with fail
  go_ret
  have hVd := HVD.out
  subst hVd
  exact ⟨rfl, HW.out, O3.out⟩
set_option maxHeartbeats 1000000 in
set_option maxRecDepth 20000 in
theorem write1 (p q B K N : Nat) (S : ByteArray) (l : List Nat) (w : World) (h : WW p q B l w) (hk : (K : Int) % 14 = 1) (hN : N < 18446744073709551616) (hl : l.length ≤ 10000000000000) (hS : S.size ≤ 1000000000) :
    Calls Tryz.prog 9 #[.pointer (some ⟨p, 0, none⟩), .pointer (some ⟨q, 0, none⟩), .agg #[.int .u8 K, .int .u64 N, .string S]] w fun e w' => e = .returned (.bool true) ∧ WW p q B (l ++ nb 2 (N % 65536)) w' ∧ Old p q B w w' := by
  have _ := hN
  have _ := hS
  obtain ⟨V, hVd⟩ : ∃ V, V = N % 65536 := ⟨_, rfl⟩
  have hV : V < 65536 := by omega
  have hcv : IntKind.u16.wrap (N : Int) = (V : Int) := by rw [IntKind.wrap_u16]; omega
  have hcm : (N : Int) % 65536 = (V : Int) := by omega
  have HVD := hid hVd
  clear hVd
  have bx : (w.alloc (.cells #[.int .u8 K, .int .u64 N, .string S] 32)).heap[w.heap.size]? = some (.cells #[.int .u8 K, .int .u64 N, .string S] 32 (0, 0)) := heap_new _ _
  have hA : Wr (w.alloc (.cells #[.int .u8 K, .int .u64 N, .string S] 32)) p B l := h.a.alloc _
  have hX : WX (w.alloc (.cells #[.int .u8 K, .int .u64 N, .string S] 32)) q (bs l) := heap_alloc_at h.x
  have hp := h.a.lt
  have hq := h.x.lt
  have o1 : Old p q B w (w.alloc (.cells #[.int .u8 K, .int .u64 N, .string S] 32)) := (Ch.refl _ _).alloc _
  have pc := wu16_any p B l V _ hA hV (by omega)
  have ne := h.ne
  have lt := h.lt
  have PC := hid pc
  have O1 := hid o1
  have HX := hid hX
  have BX := hid bx
  obtain ⟨k0, k1, k2⟩ := cells3w bx
  clear pc o1 hX bx h hA
  go_enter Tryz.func9, Tryz.ntmps9
  go_wp2_with fail
  have hg1 : w.heap.size < (w.alloc (.cells #[.int .u8 K, .int .u64 N, .string S] 32)).heap.size := by simp
  generalize w.alloc (.cells #[.int .u8 K, .int .u64 N, .string S] 32) = W at *
  refine PC.out.mono ?_
  rintro e w2 ⟨rfl, h2, c2⟩
  have hX : WX w2 q (bs l) := c2.other HX.out (fun e => ne e.symm) (by decide)
  have bx2 := c2.other BX.out (by omega) (by decide)
  have o2 : Old p q B W w2 := wu_old c2
  have dc := xwu16_any q (bs l) V _ hX hV (by rw [bs_size]; omega)
  have DC := hid dc
  have O2 := hid (O1.out.trans o2)
  have H2 := hid h2
  obtain ⟨k0, k1, k2⟩ := cells3w bx2
  clear dc o2 hX bx2 c2 h2
  go_wp2_with fail
  refine DC.out.mono ?_
  rintro e w3 ⟨rfl, h3, c3⟩
  have o3 : Old p q B w2 w3 := wx_old c3
  have O3 := hid (O2.out.trans o3)
  have HW : Hid (WW p q B (l ++ nb 2 V) w3) := WW.doc ne lt (by have h := H2.out; first | exact h | (unfold tx; rw [← List.append_assoc]; exact h) | (unfold ol; rw [if_pos rfl, ← List.append_assoc]; exact h) | (unfold ol; rw [if_neg (by decide)]; exact h)) c3 (by first | exact h3 | (rw [bs_bl]; exact h3) | (rw [show nb 1 V = [V] from by show [] ++ [V % 256] = [V]; rw [Nat.mod_eq_of_lt hV]; rfl]; exact h3))
  clear o3 h3 c3 k0 k1 k2
  go_wp2_with fail
  go_ret
  have hVd := HVD.out
  subst hVd
  exact ⟨rfl, HW.out, O3.out⟩
set_option maxHeartbeats 1000000 in
set_option maxRecDepth 20000 in
theorem write2 (p q B K N : Nat) (S : ByteArray) (l : List Nat) (w : World) (h : WW p q B l w) (hk : (K : Int) % 14 = 2) (hN : N < 18446744073709551616) (hl : l.length ≤ 10000000000000) (hS : S.size ≤ 1000000000) :
    Calls Tryz.prog 9 #[.pointer (some ⟨p, 0, none⟩), .pointer (some ⟨q, 0, none⟩), .agg #[.int .u8 K, .int .u64 N, .string S]] w fun e w' => e = .returned (.bool true) ∧ WW p q B (l ++ nb 4 (N % 4294967296)) w' ∧ Old p q B w w' := by
  have _ := hN
  have _ := hS
  obtain ⟨V, hVd⟩ : ∃ V, V = N % 4294967296 := ⟨_, rfl⟩
  have hV : V < 4294967296 := by omega
  have hcv : IntKind.u32.wrap (N : Int) = (V : Int) := by rw [IntKind.wrap_u32]; omega
  have hcm : (N : Int) % 4294967296 = (V : Int) := by omega
  have HVD := hid hVd
  clear hVd
  have bx : (w.alloc (.cells #[.int .u8 K, .int .u64 N, .string S] 32)).heap[w.heap.size]? = some (.cells #[.int .u8 K, .int .u64 N, .string S] 32 (0, 0)) := heap_new _ _
  have hA : Wr (w.alloc (.cells #[.int .u8 K, .int .u64 N, .string S] 32)) p B l := h.a.alloc _
  have hX : WX (w.alloc (.cells #[.int .u8 K, .int .u64 N, .string S] 32)) q (bs l) := heap_alloc_at h.x
  have hp := h.a.lt
  have hq := h.x.lt
  have o1 : Old p q B w (w.alloc (.cells #[.int .u8 K, .int .u64 N, .string S] 32)) := (Ch.refl _ _).alloc _
  have pc := wu32_any p B l V _ hA hV (by omega)
  have ne := h.ne
  have lt := h.lt
  have PC := hid pc
  have O1 := hid o1
  have HX := hid hX
  have BX := hid bx
  obtain ⟨k0, k1, k2⟩ := cells3w bx
  clear pc o1 hX bx h hA
  go_enter Tryz.func9, Tryz.ntmps9
  go_wp2_with fail
  have hg1 : w.heap.size < (w.alloc (.cells #[.int .u8 K, .int .u64 N, .string S] 32)).heap.size := by simp
  generalize w.alloc (.cells #[.int .u8 K, .int .u64 N, .string S] 32) = W at *
  refine PC.out.mono ?_
  rintro e w2 ⟨rfl, h2, c2⟩
  have hX : WX w2 q (bs l) := c2.other HX.out (fun e => ne e.symm) (by decide)
  have bx2 := c2.other BX.out (by omega) (by decide)
  have o2 : Old p q B W w2 := wu_old c2
  have dc := xwu32_any q (bs l) V _ hX hV (by rw [bs_size]; omega)
  have DC := hid dc
  have O2 := hid (O1.out.trans o2)
  have H2 := hid h2
  obtain ⟨k0, k1, k2⟩ := cells3w bx2
  clear dc o2 hX bx2 c2 h2
  go_wp2_with fail
  refine DC.out.mono ?_
  rintro e w3 ⟨rfl, h3, c3⟩
  have o3 : Old p q B w2 w3 := wx_old c3
  have O3 := hid (O2.out.trans o3)
  have HW : Hid (WW p q B (l ++ nb 4 V) w3) := WW.doc ne lt (by have h := H2.out; first | exact h | (unfold tx; rw [← List.append_assoc]; exact h) | (unfold ol; rw [if_pos rfl, ← List.append_assoc]; exact h) | (unfold ol; rw [if_neg (by decide)]; exact h)) c3 (by first | exact h3 | (rw [bs_bl]; exact h3) | (rw [show nb 1 V = [V] from by show [] ++ [V % 256] = [V]; rw [Nat.mod_eq_of_lt hV]; rfl]; exact h3))
  clear o3 h3 c3 k0 k1 k2
  go_wp2_with fail
  go_ret
  have hVd := HVD.out
  subst hVd
  exact ⟨rfl, HW.out, O3.out⟩
set_option maxHeartbeats 1000000 in
set_option maxRecDepth 20000 in
theorem write3 (p q B K N : Nat) (S : ByteArray) (l : List Nat) (w : World) (h : WW p q B l w) (hk : (K : Int) % 14 = 3) (hN : N < 18446744073709551616) (hl : l.length ≤ 10000000000000) (hS : S.size ≤ 1000000000) :
    Calls Tryz.prog 9 #[.pointer (some ⟨p, 0, none⟩), .pointer (some ⟨q, 0, none⟩), .agg #[.int .u8 K, .int .u64 N, .string S]] w fun e w' => e = .returned (.bool true) ∧ WW p q B (l ++ nb 8 N) w' ∧ Old p q B w w' := by
  have _ := hN
  have _ := hS
  have bx : (w.alloc (.cells #[.int .u8 K, .int .u64 N, .string S] 32)).heap[w.heap.size]? = some (.cells #[.int .u8 K, .int .u64 N, .string S] 32 (0, 0)) := heap_new _ _
  have hA : Wr (w.alloc (.cells #[.int .u8 K, .int .u64 N, .string S] 32)) p B l := h.a.alloc _
  have hX : WX (w.alloc (.cells #[.int .u8 K, .int .u64 N, .string S] 32)) q (bs l) := heap_alloc_at h.x
  have hp := h.a.lt
  have hq := h.x.lt
  have o1 : Old p q B w (w.alloc (.cells #[.int .u8 K, .int .u64 N, .string S] 32)) := (Ch.refl _ _).alloc _
  have pc := wu64_any p B l N _ hA (by omega)
  have ne := h.ne
  have lt := h.lt
  have PC := hid pc
  have O1 := hid o1
  have HX := hid hX
  have BX := hid bx
  obtain ⟨k0, k1, k2⟩ := cells3w bx
  clear pc o1 hX bx h hA
  go_enter Tryz.func9, Tryz.ntmps9
  go_wp2_with fail
  have hg1 : w.heap.size < (w.alloc (.cells #[.int .u8 K, .int .u64 N, .string S] 32)).heap.size := by simp
  generalize w.alloc (.cells #[.int .u8 K, .int .u64 N, .string S] 32) = W at *
  refine PC.out.mono ?_
  rintro e w2 ⟨rfl, h2, c2⟩
  have hX : WX w2 q (bs l) := c2.other HX.out (fun e => ne e.symm) (by decide)
  have bx2 := c2.other BX.out (by omega) (by decide)
  have o2 : Old p q B W w2 := wu_old c2
  have dc := xwu64_any q (bs l) N _ hX hN (by rw [bs_size]; omega)
  have DC := hid dc
  have O2 := hid (O1.out.trans o2)
  have H2 := hid h2
  obtain ⟨k0, k1, k2⟩ := cells3w bx2
  clear dc o2 hX bx2 c2 h2
  go_wp2_with fail
  refine DC.out.mono ?_
  rintro e w3 ⟨rfl, h3, c3⟩
  have o3 : Old p q B w2 w3 := wx_old c3
  have O3 := hid (O2.out.trans o3)
  have HW : Hid (WW p q B (l ++ nb 8 N) w3) := WW.doc ne lt (by have h := H2.out; first | exact h | (unfold tx; rw [← List.append_assoc]; exact h) | (unfold ol; rw [if_pos rfl, ← List.append_assoc]; exact h) | (unfold ol; rw [if_neg (by decide)]; exact h)) c3 (by first | exact h3 | (rw [bs_bl]; exact h3) | (rw [show nb 1 V = [V] from by show [] ++ [V % 256] = [V]; rw [Nat.mod_eq_of_lt hV]; rfl]; exact h3))
  clear o3 h3 c3 k0 k1 k2
  go_wp2_with fail
  go_ret
  exact ⟨rfl, HW.out, O3.out⟩
set_option maxHeartbeats 1000000 in
set_option maxRecDepth 20000 in
theorem write4 (p q B K N : Nat) (S : ByteArray) (l : List Nat) (w : World) (h : WW p q B l w) (hk : (K : Int) % 14 = 4) (hN : N < 18446744073709551616) (hl : l.length ≤ 10000000000000) (hS : S.size ≤ 1000000000) :
    Calls Tryz.prog 9 #[.pointer (some ⟨p, 0, none⟩), .pointer (some ⟨q, 0, none⟩), .agg #[.int .u8 K, .int .u64 N, .string S]] w fun e w' => e = .returned (.bool true) ∧ WW p q B (l ++ nb 4 ((IntKind.i32.wrap (N : Int)) % 4294967296).toNat) w' ∧ Old p q B w w' := by
  have _ := hN
  have _ := hS
  obtain ⟨v, hcv⟩ : ∃ v, IntKind.i32.wrap (N : Int) = v := ⟨_, rfl⟩
  have hv : -2147483648 ≤ v ∧ v ≤ 2147483647 := by rw [← hcv, IntKind.wrap_i32]; omega
  have bx : (w.alloc (.cells #[.int .u8 K, .int .u64 N, .string S] 32)).heap[w.heap.size]? = some (.cells #[.int .u8 K, .int .u64 N, .string S] 32 (0, 0)) := heap_new _ _
  have hA : Wr (w.alloc (.cells #[.int .u8 K, .int .u64 N, .string S] 32)) p B l := h.a.alloc _
  have hX : WX (w.alloc (.cells #[.int .u8 K, .int .u64 N, .string S] 32)) q (bs l) := heap_alloc_at h.x
  have hp := h.a.lt
  have hq := h.x.lt
  have o1 : Old p q B w (w.alloc (.cells #[.int .u8 K, .int .u64 N, .string S] 32)) := (Ch.refl _ _).alloc _
  have pc := wi32_any p B l v _ hA (by omega)
  have ne := h.ne
  have lt := h.lt
  have PC := hid pc
  have O1 := hid o1
  have HX := hid hX
  have BX := hid bx
  obtain ⟨k0, k1, k2⟩ := cells3w bx
  clear pc o1 hX bx h hA
  go_enter Tryz.func9, Tryz.ntmps9
  go_wp2_with fail
  have hg1 : w.heap.size < (w.alloc (.cells #[.int .u8 K, .int .u64 N, .string S] 32)).heap.size := by simp
  generalize w.alloc (.cells #[.int .u8 K, .int .u64 N, .string S] 32) = W at *
  refine PC.out.mono ?_
  rintro e w2 ⟨rfl, h2, c2⟩
  have hX : WX w2 q (bs l) := c2.other HX.out (fun e => ne e.symm) (by decide)
  have bx2 := c2.other BX.out (by omega) (by decide)
  have o2 : Old p q B W w2 := wu_old c2
  have dc := xwi32_any q (bs l) v _ hX (by rw [bs_size]; omega)
  have DC := hid dc
  have O2 := hid (O1.out.trans o2)
  have H2 := hid h2
  obtain ⟨k0, k1, k2⟩ := cells3w bx2
  clear dc o2 hX bx2 c2 h2
  go_wp2_with fail
  refine DC.out.mono ?_
  rintro e w3 ⟨rfl, h3, c3⟩
  have o3 : Old p q B w2 w3 := wx_old c3
  have O3 := hid (O2.out.trans o3)
  have HW : Hid (WW p q B (l ++ nb 4 (v % 4294967296).toNat) w3) := WW.doc ne lt (by have h := H2.out; first | exact h | (unfold tx; rw [← List.append_assoc]; exact h) | (unfold ol; rw [if_pos rfl, ← List.append_assoc]; exact h) | (unfold ol; rw [if_neg (by decide)]; exact h)) c3 (by first | exact h3 | (rw [bs_bl]; exact h3) | (rw [show nb 1 V = [V] from by show [] ++ [V % 256] = [V]; rw [Nat.mod_eq_of_lt hV]; rfl]; exact h3))
  clear o3 h3 c3 k0 k1 k2
  go_wp2_with fail
  go_ret
  subst hcv
  exact ⟨rfl, HW.out, O3.out⟩
set_option maxHeartbeats 1000000 in
set_option maxRecDepth 20000 in
theorem write5 (p q B K N : Nat) (S : ByteArray) (l : List Nat) (w : World) (h : WW p q B l w) (hk : (K : Int) % 14 = 5) (hN : N < 18446744073709551616) (hl : l.length ≤ 10000000000000) (hS : S.size ≤ 1000000000) :
    Calls Tryz.prog 9 #[.pointer (some ⟨p, 0, none⟩), .pointer (some ⟨q, 0, none⟩), .agg #[.int .u8 K, .int .u64 N, .string S]] w fun e w' => e = .returned (.bool true) ∧ WW p q B (l ++ nb 8 ((IntKind.i64.wrap (N : Int)) % 18446744073709551616).toNat) w' ∧ Old p q B w w' := by
  have _ := hN
  have _ := hS
  obtain ⟨v, hcv⟩ : ∃ v, IntKind.i64.wrap (N : Int) = v := ⟨_, rfl⟩
  have hv : -9223372036854775808 ≤ v ∧ v ≤ 9223372036854775807 := by rw [← hcv, IntKind.wrap_i64]; omega
  have bx : (w.alloc (.cells #[.int .u8 K, .int .u64 N, .string S] 32)).heap[w.heap.size]? = some (.cells #[.int .u8 K, .int .u64 N, .string S] 32 (0, 0)) := heap_new _ _
  have hA : Wr (w.alloc (.cells #[.int .u8 K, .int .u64 N, .string S] 32)) p B l := h.a.alloc _
  have hX : WX (w.alloc (.cells #[.int .u8 K, .int .u64 N, .string S] 32)) q (bs l) := heap_alloc_at h.x
  have hp := h.a.lt
  have hq := h.x.lt
  have o1 : Old p q B w (w.alloc (.cells #[.int .u8 K, .int .u64 N, .string S] 32)) := (Ch.refl _ _).alloc _
  have pc := wi64_any p B l v _ hA (by omega)
  have ne := h.ne
  have lt := h.lt
  have PC := hid pc
  have O1 := hid o1
  have HX := hid hX
  have BX := hid bx
  obtain ⟨k0, k1, k2⟩ := cells3w bx
  clear pc o1 hX bx h hA
  go_enter Tryz.func9, Tryz.ntmps9
  go_wp2_with fail
  have hg1 : w.heap.size < (w.alloc (.cells #[.int .u8 K, .int .u64 N, .string S] 32)).heap.size := by simp
  generalize w.alloc (.cells #[.int .u8 K, .int .u64 N, .string S] 32) = W at *
  refine PC.out.mono ?_
  rintro e w2 ⟨rfl, h2, c2⟩
  have hX : WX w2 q (bs l) := c2.other HX.out (fun e => ne e.symm) (by decide)
  have bx2 := c2.other BX.out (by omega) (by decide)
  have o2 : Old p q B W w2 := wu_old c2
  have dc := xwi64_any q (bs l) v _ hX (by rw [bs_size]; omega)
  have DC := hid dc
  have O2 := hid (O1.out.trans o2)
  have H2 := hid h2
  obtain ⟨k0, k1, k2⟩ := cells3w bx2
  clear dc o2 hX bx2 c2 h2
  go_wp2_with fail
  refine DC.out.mono ?_
  rintro e w3 ⟨rfl, h3, c3⟩
  have o3 : Old p q B w2 w3 := wx_old c3
  have O3 := hid (O2.out.trans o3)
  have HW : Hid (WW p q B (l ++ nb 8 (v % 18446744073709551616).toNat) w3) := WW.doc ne lt (by have h := H2.out; first | exact h | (unfold tx; rw [← List.append_assoc]; exact h) | (unfold ol; rw [if_pos rfl, ← List.append_assoc]; exact h) | (unfold ol; rw [if_neg (by decide)]; exact h)) c3 (by first | exact h3 | (rw [bs_bl]; exact h3) | (rw [show nb 1 V = [V] from by show [] ++ [V % 256] = [V]; rw [Nat.mod_eq_of_lt hV]; rfl]; exact h3))
  clear o3 h3 c3 k0 k1 k2
  go_wp2_with fail
  go_ret
  subst hcv
  exact ⟨rfl, HW.out, O3.out⟩
set_option maxHeartbeats 1000000 in
set_option maxRecDepth 20000 in
theorem write6 (p q B K N : Nat) (S : ByteArray) (l : List Nat) (w : World) (h : WW p q B l w) (hk : (K : Int) % 14 = 6) (hN : N < 18446744073709551616) (hl : l.length ≤ 10000000000000) (hS : S.size ≤ 1000000000) :
    Calls Tryz.prog 9 #[.pointer (some ⟨p, 0, none⟩), .pointer (some ⟨q, 0, none⟩), .agg #[.int .u8 K, .int .u64 N, .string S]] w fun e w' => e = .returned (.bool true) ∧ WW p q B (l ++ M.form N) w' ∧ Old p q B w w' := by
  have _ := hN
  have _ := hS
  have bx : (w.alloc (.cells #[.int .u8 K, .int .u64 N, .string S] 32)).heap[w.heap.size]? = some (.cells #[.int .u8 K, .int .u64 N, .string S] 32 (0, 0)) := heap_new _ _
  have hA : Wr (w.alloc (.cells #[.int .u8 K, .int .u64 N, .string S] 32)) p B l := h.a.alloc _
  have hX : WX (w.alloc (.cells #[.int .u8 K, .int .u64 N, .string S] 32)) q (bs l) := heap_alloc_at h.x
  have hp := h.a.lt
  have hq := h.x.lt
  have o1 : Old p q B w (w.alloc (.cells #[.int .u8 K, .int .u64 N, .string S] 32)) := (Ch.refl _ _).alloc _
  have pc := wuvarint_any p B l N _ hA hN (by omega)
  have ne := h.ne
  have lt := h.lt
  have PC := hid pc
  have O1 := hid o1
  have HX := hid hX
  have BX := hid bx
  obtain ⟨k0, k1, k2⟩ := cells3w bx
  clear pc o1 hX bx h hA
  go_enter Tryz.func9, Tryz.ntmps9
  go_wp2_with fail
  have hg1 : w.heap.size < (w.alloc (.cells #[.int .u8 K, .int .u64 N, .string S] 32)).heap.size := by simp
  generalize w.alloc (.cells #[.int .u8 K, .int .u64 N, .string S] 32) = W at *
  refine PC.out.mono ?_
  rintro e w2 ⟨rfl, h2, c2⟩
  have hX : WX w2 q (bs l) := c2.other HX.out (fun e => ne e.symm) (by decide)
  have bx2 := c2.other BX.out (by omega) (by decide)
  have o2 : Old p q B W w2 := wu_old c2
  have dc := xwuvarint_any q (bs l) N _ hX hN (by rw [bs_size]; omega)
  have DC := hid dc
  have O2 := hid (O1.out.trans o2)
  have H2 := hid h2
  obtain ⟨k0, k1, k2⟩ := cells3w bx2
  clear dc o2 hX bx2 c2 h2
  go_wp2_with fail
  refine DC.out.mono ?_
  rintro e w3 ⟨rfl, h3, c3⟩
  have o3 : Old p q B w2 w3 := wx_old c3
  have O3 := hid (O2.out.trans o3)
  have HW : Hid (WW p q B (l ++ M.form N) w3) := WW.doc ne lt (by have h := H2.out; first | exact h | (unfold tx; rw [← List.append_assoc]; exact h) | (unfold ol; rw [if_pos rfl, ← List.append_assoc]; exact h) | (unfold ol; rw [if_neg (by decide)]; exact h)) c3 (by first | exact h3 | (rw [bs_bl]; exact h3) | (rw [show nb 1 V = [V] from by show [] ++ [V % 256] = [V]; rw [Nat.mod_eq_of_lt hV]; rfl]; exact h3))
  clear o3 h3 c3 k0 k1 k2
  go_wp2_with fail
  go_ret
  exact ⟨rfl, HW.out, O3.out⟩
set_option maxHeartbeats 1000000 in
set_option maxRecDepth 20000 in
theorem write7 (p q B K N : Nat) (S : ByteArray) (l : List Nat) (w : World) (h : WW p q B l w) (hk : (K : Int) % 14 = 7) (hN : N < 18446744073709551616) (hl : l.length ≤ 10000000000000) (hS : S.size ≤ 1000000000) :
    Calls Tryz.prog 9 #[.pointer (some ⟨p, 0, none⟩), .pointer (some ⟨q, 0, none⟩), .agg #[.int .u8 K, .int .u64 N, .string S]] w fun e w' => e = .returned (.bool true) ∧ WW p q B (l ++ M.form (M.zz (IntKind.i64.wrap (N : Int))).toNat) w' ∧ Old p q B w w' := by
  have _ := hN
  have _ := hS
  obtain ⟨v, hcv⟩ : ∃ v, IntKind.i64.wrap (N : Int) = v := ⟨_, rfl⟩
  have hv : -9223372036854775808 ≤ v ∧ v ≤ 9223372036854775807 := by rw [← hcv, IntKind.wrap_i64]; omega
  have bx : (w.alloc (.cells #[.int .u8 K, .int .u64 N, .string S] 32)).heap[w.heap.size]? = some (.cells #[.int .u8 K, .int .u64 N, .string S] 32 (0, 0)) := heap_new _ _
  have hA : Wr (w.alloc (.cells #[.int .u8 K, .int .u64 N, .string S] 32)) p B l := h.a.alloc _
  have hX : WX (w.alloc (.cells #[.int .u8 K, .int .u64 N, .string S] 32)) q (bs l) := heap_alloc_at h.x
  have hp := h.a.lt
  have hq := h.x.lt
  have o1 : Old p q B w (w.alloc (.cells #[.int .u8 K, .int .u64 N, .string S] 32)) := (Ch.refl _ _).alloc _
  have pc := wvarint_any p B l v _ hA hv.1 hv.2 (by omega)
  have ne := h.ne
  have lt := h.lt
  have PC := hid pc
  have O1 := hid o1
  have HX := hid hX
  have BX := hid bx
  obtain ⟨k0, k1, k2⟩ := cells3w bx
  clear pc o1 hX bx h hA
  go_enter Tryz.func9, Tryz.ntmps9
  go_wp2_with fail
  have hg1 : w.heap.size < (w.alloc (.cells #[.int .u8 K, .int .u64 N, .string S] 32)).heap.size := by simp
  generalize w.alloc (.cells #[.int .u8 K, .int .u64 N, .string S] 32) = W at *
  refine PC.out.mono ?_
  rintro e w2 ⟨rfl, h2, c2⟩
  have hX : WX w2 q (bs l) := c2.other HX.out (fun e => ne e.symm) (by decide)
  have bx2 := c2.other BX.out (by omega) (by decide)
  have o2 : Old p q B W w2 := wu_old c2
  have dc := xwvarint_any q (bs l) v _ hX hv (by rw [bs_size]; omega)
  have DC := hid dc
  have O2 := hid (O1.out.trans o2)
  have H2 := hid h2
  obtain ⟨k0, k1, k2⟩ := cells3w bx2
  clear dc o2 hX bx2 c2 h2
  go_wp2_with fail
  refine DC.out.mono ?_
  rintro e w3 ⟨rfl, h3, c3⟩
  have o3 : Old p q B w2 w3 := wx_old c3
  have O3 := hid (O2.out.trans o3)
  have HW : Hid (WW p q B (l ++ M.form (M.zz v).toNat) w3) := WW.doc ne lt (by have h := H2.out; first | exact h | (unfold tx; rw [← List.append_assoc]; exact h) | (unfold ol; rw [if_pos rfl, ← List.append_assoc]; exact h) | (unfold ol; rw [if_neg (by decide)]; exact h)) c3 (by first | exact h3 | (rw [bs_bl]; exact h3) | (rw [show nb 1 V = [V] from by show [] ++ [V % 256] = [V]; rw [Nat.mod_eq_of_lt hV]; rfl]; exact h3))
  clear o3 h3 c3 k0 k1 k2
  go_wp2_with fail
  go_ret
  subst hcv
  exact ⟨rfl, HW.out, O3.out⟩
set_option maxHeartbeats 1000000 in
set_option maxRecDepth 20000 in
theorem write8 (p q B K N : Nat) (S : ByteArray) (l : List Nat) (w : World) (h : WW p q B l w) (hk : (K : Int) % 14 = 8) (hN : N < 18446744073709551616) (hl : l.length ≤ 10000000000000) (hS : S.size ≤ 1000000000) :
    Calls Tryz.prog 9 #[.pointer (some ⟨p, 0, none⟩), .pointer (some ⟨q, 0, none⟩), .agg #[.int .u8 K, .int .u64 N, .string S]] w fun e w' => e = .returned (.bool true) ∧ WW p q B (l ++ bl S) w' ∧ Old p q B w w' := by
  have _ := hN
  have _ := hS
  have bx : (w.alloc (.cells #[.int .u8 K, .int .u64 N, .string S] 32)).heap[w.heap.size]? = some (.cells #[.int .u8 K, .int .u64 N, .string S] 32 (0, 0)) := heap_new _ _
  have hA : Wr (w.alloc (.cells #[.int .u8 K, .int .u64 N, .string S] 32)) p B l := h.a.alloc _
  have hX : WX (w.alloc (.cells #[.int .u8 K, .int .u64 N, .string S] 32)) q (bs l) := heap_alloc_at h.x
  have hp := h.a.lt
  have hq := h.x.lt
  have o1 : Old p q B w (w.alloc (.cells #[.int .u8 K, .int .u64 N, .string S] 32)) := (Ch.refl _ _).alloc _
  have pc := wraw_any p B l S _ hA (by omega)
  have ne := h.ne
  have lt := h.lt
  have PC := hid pc
  have O1 := hid o1
  have HX := hid hX
  have BX := hid bx
  obtain ⟨k0, k1, k2⟩ := cells3w bx
  clear pc o1 hX bx h hA
  go_enter Tryz.func9, Tryz.ntmps9
  go_wp2_with fail
  have hg1 : w.heap.size < (w.alloc (.cells #[.int .u8 K, .int .u64 N, .string S] 32)).heap.size := by simp
  generalize w.alloc (.cells #[.int .u8 K, .int .u64 N, .string S] 32) = W at *
  refine PC.out.mono ?_
  rintro e w2 ⟨rfl, h2, c2⟩
  have hX : WX w2 q (bs l) := c2.other HX.out (fun e => ne e.symm) (by decide)
  have bx2 := c2.other BX.out (by omega) (by decide)
  have o2 : Old p q B W w2 := wu_old c2
  have dc := xwraw_any q (bs l) S _ hX (by rw [bs_size]; omega)
  have DC := hid dc
  have O2 := hid (O1.out.trans o2)
  have H2 := hid h2
  obtain ⟨k0, k1, k2⟩ := cells3w bx2
  clear dc o2 hX bx2 c2 h2
  go_wp2_with fail
  refine DC.out.mono ?_
  rintro e w3 ⟨rfl, h3, c3⟩
  have o3 : Old p q B w2 w3 := wx_old c3
  have O3 := hid (O2.out.trans o3)
  have HW : Hid (WW p q B (l ++ bl S) w3) := WW.doc ne lt (by have h := H2.out; first | exact h | (unfold tx; rw [← List.append_assoc]; exact h) | (unfold ol; rw [if_pos rfl, ← List.append_assoc]; exact h) | (unfold ol; rw [if_neg (by decide)]; exact h)) c3 (by first | exact h3 | (rw [bs_bl]; exact h3) | (rw [show nb 1 V = [V] from by show [] ++ [V % 256] = [V]; rw [Nat.mod_eq_of_lt hV]; rfl]; exact h3))
  clear o3 h3 c3 k0 k1 k2
  go_wp2_with fail
  go_ret
  exact ⟨rfl, HW.out, O3.out⟩
set_option maxHeartbeats 1000000 in
set_option maxRecDepth 20000 in
theorem write9 (p q B K N : Nat) (S : ByteArray) (l : List Nat) (w : World) (h : WW p q B l w) (hk : (K : Int) % 14 = 9) (hN : N < 18446744073709551616) (hl : l.length ≤ 10000000000000) (hS : S.size ≤ 1000000000) :
    Calls Tryz.prog 9 #[.pointer (some ⟨p, 0, none⟩), .pointer (some ⟨q, 0, none⟩), .agg #[.int .u8 K, .int .u64 N, .string S]] w fun e w' => e = .returned (.bool true) ∧ WW p q B (l ++ tx S) w' ∧ Old p q B w w' := by
  have _ := hN
  have _ := hS
  have bx : (w.alloc (.cells #[.int .u8 K, .int .u64 N, .string S] 32)).heap[w.heap.size]? = some (.cells #[.int .u8 K, .int .u64 N, .string S] 32 (0, 0)) := heap_new _ _
  have hA : Wr (w.alloc (.cells #[.int .u8 K, .int .u64 N, .string S] 32)) p B l := h.a.alloc _
  have hX : WX (w.alloc (.cells #[.int .u8 K, .int .u64 N, .string S] 32)) q (bs l) := heap_alloc_at h.x
  have hp := h.a.lt
  have hq := h.x.lt
  have o1 : Old p q B w (w.alloc (.cells #[.int .u8 K, .int .u64 N, .string S] 32)) := (Ch.refl _ _).alloc _
  have pc := wtext_any p B l S _ hA (by omega) (by have := M.form_le S.size; omega)
  have ne := h.ne
  have lt := h.lt
  have PC := hid pc
  have O1 := hid o1
  have HX := hid hX
  have BX := hid bx
  obtain ⟨k0, k1, k2⟩ := cells3w bx
  clear pc o1 hX bx h hA
  go_enter Tryz.func9, Tryz.ntmps9
  go_wp2_with fail
  have hg1 : w.heap.size < (w.alloc (.cells #[.int .u8 K, .int .u64 N, .string S] 32)).heap.size := by simp
  generalize w.alloc (.cells #[.int .u8 K, .int .u64 N, .string S] 32) = W at *
  refine PC.out.mono ?_
  rintro e w2 ⟨rfl, h2, c2⟩
  have hX : WX w2 q (bs l) := c2.other HX.out (fun e => ne e.symm) (by decide)
  have bx2 := c2.other BX.out (by omega) (by decide)
  have o2 : Old p q B W w2 := wu_old c2
  have dc := xwtx_any q (bs l) S _ hX (by rw [bs_size]; omega)
  have DC := hid dc
  have O2 := hid (O1.out.trans o2)
  have H2 := hid h2
  obtain ⟨k0, k1, k2⟩ := cells3w bx2
  clear dc o2 hX bx2 c2 h2
  go_wp2_with fail
  refine DC.out.mono ?_
  rintro e w3 ⟨rfl, h3, c3⟩
  have o3 : Old p q B w2 w3 := wx_old c3
  have O3 := hid (O2.out.trans o3)
  have HW : Hid (WW p q B (l ++ tx S) w3) := WW.doc ne lt (by have h := H2.out; first | exact h | (unfold tx; rw [← List.append_assoc]; exact h) | (unfold ol; rw [if_pos rfl, ← List.append_assoc]; exact h) | (unfold ol; rw [if_neg (by decide)]; exact h)) c3 (by first | exact h3 | (rw [bs_bl]; exact h3) | (rw [show nb 1 V = [V] from by show [] ++ [V % 256] = [V]; rw [Nat.mod_eq_of_lt hV]; rfl]; exact h3))
  clear o3 h3 c3 k0 k1 k2
  go_wp2_with fail
  go_ret
  exact ⟨rfl, HW.out, O3.out⟩
set_option maxHeartbeats 1000000 in
set_option maxRecDepth 20000 in
theorem write10 (p q B K N : Nat) (S : ByteArray) (l : List Nat) (w : World) (h : WW p q B l w) (hk : (K : Int) % 14 = 10) (hN : N < 18446744073709551616) (hl : l.length ≤ 10000000000000) (hS : S.size ≤ 1000000000) :
    Calls Tryz.prog 9 #[.pointer (some ⟨p, 0, none⟩), .pointer (some ⟨q, 0, none⟩), .agg #[.int .u8 K, .int .u64 N, .string S]] w fun e w' => e = .returned (.bool true) ∧ WW p q B (l ++ ol true S) w' ∧ Old p q B w w' := by
  have _ := hN
  have _ := hS
  have bx : (w.alloc (.cells #[.int .u8 K, .int .u64 N, .string S] 32)).heap[w.heap.size]? = some (.cells #[.int .u8 K, .int .u64 N, .string S] 32 (0, 0)) := heap_new _ _
  have hA : Wr (w.alloc (.cells #[.int .u8 K, .int .u64 N, .string S] 32)) p B l := h.a.alloc _
  have hX : WX (w.alloc (.cells #[.int .u8 K, .int .u64 N, .string S] 32)) q (bs l) := heap_alloc_at h.x
  have hp := h.a.lt
  have hq := h.x.lt
  have o1 : Old p q B w (w.alloc (.cells #[.int .u8 K, .int .u64 N, .string S] 32)) := (Ch.refl _ _).alloc _
  have pc := wopt_any p B l S _ hA (by omega) (by have := M.form_le (2 * S.size); omega)
  have ne := h.ne
  have lt := h.lt
  have PC := hid pc
  have O1 := hid o1
  have HX := hid hX
  have BX := hid bx
  obtain ⟨k0, k1, k2⟩ := cells3w bx
  clear pc o1 hX bx h hA
  go_enter Tryz.func9, Tryz.ntmps9
  go_wp2_with fail
  have hg1 : w.heap.size < (w.alloc (.cells #[.int .u8 K, .int .u64 N, .string S] 32)).heap.size := by simp
  generalize w.alloc (.cells #[.int .u8 K, .int .u64 N, .string S] 32) = W at *
  refine PC.out.mono ?_
  rintro e w2 ⟨rfl, h2, c2⟩
  have hX : WX w2 q (bs l) := c2.other HX.out (fun e => ne e.symm) (by decide)
  have bx2 := c2.other BX.out (by omega) (by decide)
  have o2 : Old p q B W w2 := wu_old c2
  have dc := xwol_any q (bs l) true S _ hX (by rw [bs_size]; omega) (by omega)
  have DC := hid dc
  have O2 := hid (O1.out.trans o2)
  have H2 := hid h2
  obtain ⟨k0, k1, k2⟩ := cells3w bx2
  clear dc o2 hX bx2 c2 h2
  go_wp2_with fail
  refine DC.out.mono ?_
  rintro e w3 ⟨rfl, h3, c3⟩
  have o3 : Old p q B w2 w3 := wx_old c3
  have O3 := hid (O2.out.trans o3)
  have HW : Hid (WW p q B (l ++ ol true S) w3) := WW.doc ne lt (by have h := H2.out; first | exact h | (unfold tx; rw [← List.append_assoc]; exact h) | (unfold ol; rw [if_pos rfl, ← List.append_assoc]; exact h) | (unfold ol; rw [if_neg (by decide)]; exact h)) c3 (by first | exact h3 | (rw [bs_bl]; exact h3) | (rw [show nb 1 V = [V] from by show [] ++ [V % 256] = [V]; rw [Nat.mod_eq_of_lt hV]; rfl]; exact h3))
  clear o3 h3 c3 k0 k1 k2
  go_wp2_with fail
  go_ret
  exact ⟨rfl, HW.out, O3.out⟩
set_option maxHeartbeats 1000000 in
set_option maxRecDepth 20000 in
theorem write11 (p q B K N : Nat) (S : ByteArray) (l : List Nat) (w : World) (h : WW p q B l w) (hk : (K : Int) % 14 = 11) (hN : N < 18446744073709551616) (hl : l.length ≤ 10000000000000) (hS : S.size ≤ 1000000000) :
    Calls Tryz.prog 9 #[.pointer (some ⟨p, 0, none⟩), .pointer (some ⟨q, 0, none⟩), .agg #[.int .u8 K, .int .u64 N, .string S]] w fun e w' => e = .returned (.bool true) ∧ WW p q B (l ++ ol false S) w' ∧ Old p q B w w' := by
  have _ := hN
  have _ := hS
  have bx : (w.alloc (.cells #[.int .u8 K, .int .u64 N, .string S] 32)).heap[w.heap.size]? = some (.cells #[.int .u8 K, .int .u64 N, .string S] 32 (0, 0)) := heap_new _ _
  have hA : Wr (w.alloc (.cells #[.int .u8 K, .int .u64 N, .string S] 32)) p B l := h.a.alloc _
  have hX : WX (w.alloc (.cells #[.int .u8 K, .int .u64 N, .string S] 32)) q (bs l) := heap_alloc_at h.x
  have hp := h.a.lt
  have hq := h.x.lt
  have o1 : Old p q B w (w.alloc (.cells #[.int .u8 K, .int .u64 N, .string S] 32)) := (Ch.refl _ _).alloc _
  have pc := wnull_any p B l S _ hA (by omega)
  have ne := h.ne
  have lt := h.lt
  have PC := hid pc
  have O1 := hid o1
  have HX := hid hX
  have BX := hid bx
  obtain ⟨k0, k1, k2⟩ := cells3w bx
  clear pc o1 hX bx h hA
  go_enter Tryz.func9, Tryz.ntmps9
  go_wp2_with fail
  have hg1 : w.heap.size < (w.alloc (.cells #[.int .u8 K, .int .u64 N, .string S] 32)).heap.size := by simp
  generalize w.alloc (.cells #[.int .u8 K, .int .u64 N, .string S] 32) = W at *
  refine PC.out.mono ?_
  rintro e w2 ⟨rfl, h2, c2⟩
  have hX : WX w2 q (bs l) := c2.other HX.out (fun e => ne e.symm) (by decide)
  have bx2 := c2.other BX.out (by omega) (by decide)
  have o2 : Old p q B W w2 := wu_old c2
  have dc := xwol_any q (bs l) false S _ hX (by rw [bs_size]; omega) (by omega)
  have DC := hid dc
  have O2 := hid (O1.out.trans o2)
  have H2 := hid h2
  obtain ⟨k0, k1, k2⟩ := cells3w bx2
  clear dc o2 hX bx2 c2 h2
  go_wp2_with fail
  refine DC.out.mono ?_
  rintro e w3 ⟨rfl, h3, c3⟩
  have o3 : Old p q B w2 w3 := wx_old c3
  have O3 := hid (O2.out.trans o3)
  have HW : Hid (WW p q B (l ++ ol false S) w3) := WW.doc ne lt (by have h := H2.out; first | exact h | (unfold tx; rw [← List.append_assoc]; exact h) | (unfold ol; rw [if_pos rfl, ← List.append_assoc]; exact h) | (unfold ol; rw [if_neg (by decide)]; exact h)) c3 (by first | exact h3 | (rw [bs_bl]; exact h3) | (rw [show nb 1 V = [V] from by show [] ++ [V % 256] = [V]; rw [Nat.mod_eq_of_lt hV]; rfl]; exact h3))
  clear o3 h3 c3 k0 k1 k2
  go_wp2_with fail
  go_ret
  exact ⟨rfl, HW.out, O3.out⟩
end Go.Proofs.YtpfaioncaolmjaaGreat
namespace Go.Proofs.YtpfaioncaolmjaaGreat
open Go.RowKit
theorem own_lenw {w : World} {B n size : Nat} {e : TypeId} {v : Value} {l : List Value} (h : w.ownsRow B e size v n l) : ∃ a cap, v = .slice a n cap := by
  rcases h.2 with ⟨rfl, rfl⟩ | ⟨g, cap, cur, rfl, _⟩
  · exact ⟨_, _, rfl⟩
  · exact ⟨_, _, rfl⟩
/-- The first i of four bytes are written over. -/
def ovr (l : List Nat) (A v i : Nat) : List Nat := l.take A ++ ((nb 4 v).take i ++ l.drop (A + i))
theorem ovr_len {l : List Nat} {A v i : Nat} (hA : A + 4 ≤ l.length) (hi : i ≤ 4) : (ovr l A v i).length = l.length := by
  unfold ovr
  rw [List.length_append, List.length_append, List.length_take, List.length_take, List.length_drop, nb_len]
  omega
theorem ovr_zero (l : List Nat) (A v : Nat) : ovr l A v 0 = l := by
  unfold ovr
  rw [List.take_zero, List.nil_append, Nat.add_zero, List.take_append_drop]
theorem nb4_at (v : Nat) : ∀ i, i < 4 → (nb 4 v)[i]? = some (v / 256 ^ (3 - i) % 256)
  | 0, _ => by rw [nb_cons]; rfl
  | 1, _ => by rw [nb_cons, nb_cons]; rfl
  | 2, _ => by rw [nb_cons, nb_cons, nb_cons]; rfl
  | 3, _ => by rw [nb_cons, nb_cons, nb_cons, nb_cons]; rfl
  | n + 4, h => by omega
theorem ovr_set {l : List Nat} {A v i : Nat} (hA : A + 4 ≤ l.length) (hi : i < 4) : (ovr l A v i).set (A + i) (v / 256 ^ (3 - i) % 256) = ovr l A v (i + 1) := by
  unfold ovr
  have h1 : (l.take A).length = A := by rw [List.length_take]; omega
  have h2 : ((nb 4 v).take i).length = i := by rw [List.length_take, nb_len]; omega
  rw [List.set_append_right _ _ (by omega), h1, Nat.add_sub_cancel_left, List.set_append_right _ _ (by omega), h2, Nat.sub_self]
  have h3 : l.drop (A + i) = l[A + i]'(by omega) :: l.drop (A + i + 1) := List.drop_eq_getElem_cons (by omega)
  have h4 : (nb 4 v).take (i + 1) = (nb 4 v).take i ++ [v / 256 ^ (3 - i) % 256] := by
    rw [List.take_add_one, nb4_at v i hi]
    rfl
  rw [h3, List.set_cons_zero, h4, List.append_assoc]
  rfl
theorem ovr_byte {l : List Nat} {A v i : Nat} (h : ∀ b ∈ l, b < 256) : ∀ b ∈ ovr l A v i, b < 256 := fun b hb => by
  unfold ovr at hb
  rcases List.mem_append.1 hb with hb | hb
  · exact h b (List.mem_of_mem_take hb)
  · rcases List.mem_append.1 hb with hb | hb
    · exact nb_byte 4 v b (List.mem_of_mem_take hb)
    · exact h b (List.mem_of_mem_drop hb)
set_option maxHeartbeats 2000000 in
set_option maxRecDepth 20000 in
theorem over_no (p B : Nat) (l : List Nat) (at' : Int) (v : Nat) (w : World) (h : Wr w p B l) (hl : l.length ≤ 140737488355000) (hn : ¬ (0 ≤ at' ∧ at' ≤ (l.length : Int) - 4)) :
    Calls Tryz.prog 76 #[.pointer (some ⟨p, 0, none⟩), .int .i64 at', .int .u32 v] w fun e w' => e = .returned (.bool false) ∧ w' = w := by
  obtain ⟨a, n, cap, T, g, ho, hp, hB, hb⟩ := h
  have c0 : w.cell? ⟨p, 0, none⟩ = some (.int .i64 l.length) := (cell_of g).trans rfl
  have CA := hid (fun x (c : x.cell? ⟨p, 0, none⟩ = some (.int .i64 l.length)) => at_any p l.length x c)
  have hw : IntKind.i64.wrap ((l.length : Int) - 4) = (l.length : Int) - 4 := wrap_in (by omega) (by omega)
  clear g ho hb
  by_cases h0 : at' < 0
  · have d0 : decide (at' < 0) = true := decide_eq_true h0
    go_enter Tryz.func76, Tryz.ntmps76
    go_wp2_with fail
    go_ret
    exact ⟨rfl, rfl⟩
  · have d0 : decide (at' < 0) = false := decide_eq_false h0
    have h1 : (l.length : Int) - 4 < at' := by omega
    have d1 : decide ((l.length : Int) - 4 < at') = true := decide_eq_true h1
    go_enter Tryz.func76, Tryz.ntmps76
    go_wp2_with fail
    refine (CA.out _ c0).mono ?_
    rintro e w2 ⟨rfl, rfl⟩
    go_wp2_with fail
    go_ret
    exact ⟨rfl, rfl⟩
set_option maxHeartbeats 4000000 in
set_option maxRecDepth 20000 in
theorem over_yes (p B : Nat) (l : List Nat) (A v : Nat) (w : World) (h : Wr w p B l) (hl : l.length ≤ 140737488355000) (hA : A + 4 ≤ l.length) :
    Calls Tryz.prog 76 #[.pointer (some ⟨p, 0, none⟩), .int .i64 A, .int .u32 v] w fun e w' => e = .returned (.bool true) ∧ Wr w' p B (ovr l A v 4) ∧ Ch (WU p B w) w w' := by
  obtain ⟨a, n, cap, T, g, ho, hp, hB, hb⟩ := h
  obtain ⟨a', cap', e0⟩ := own_lenw ho
  injection e0 with e1 e2 e3
  subst e1 e2 e3
  obtain ⟨r, rfl, hBr⟩ : ∃ r, a = some ⟨r, 0, none⟩ ∧ B ≤ r := by
    rcases id ho.2 with ⟨_, h3⟩ | ⟨r, cap2, cur, e, hb2, _⟩
    · omega
    · injection e with e1 _ _
      exact ⟨r, e1, hb2⟩
  have c0 : w.cell? ⟨p, 0, none⟩ = some (.int .i64 l.length) := (cell_of g).trans rfl
  have CA := hid (fun x (c : x.cell? ⟨p, 0, none⟩ = some (.int .i64 l.length)) => at_any p l.length x c)
  have hw : IntKind.i64.wrap ((l.length : Int) - 4) = (l.length : Int) - 4 := wrap_in (by omega) (by omega)
  have d0 : decide ((A : Int) < 0) = false := decide_eq_false (by omega)
  have h1 : ¬ (l.length : Int) - 4 < (A : Int) := by omega
  have d1 : decide ((l.length : Int) - 4 < (A : Int)) = false := decide_eq_false h1
  have HG := hid g
  have HO : Hid (w.ownsRow B 5 1 (.slice (some ⟨r, 0, none⟩) l.length cap) l.length (bc (ovr l A v 0))) := by show World.ownsRow _ _ _ _ _ _ _; rw [ovr_zero]; exact ho
  have HBY := hid hb
  have HA := hid hA
  have HL := hid hl
  have HC0 : Hid (Ch (WU p B w) w w) := Ch.refl _ _
  have HPB := hid hp
  have HBr := hid hBr
  have HBw := hid hB
  clear g ho hb hA hl
  go_enter Tryz.func76, Tryz.ntmps76
  go_wp2_with fail
  refine (CA.out _ c0).mono ?_
  rintro e w2 ⟨rfl, hw2⟩
  rw [hw2]
  clear hw2 w2
  go_wp2_with fail
  clear c0 hw d0 h1 d1 CA
  go_loopg [19] 4 (fun k i wr => ∃ m : Nat, m + k = 4 ∧ i = .int .i64 m ∧ Hid (wr.heap[p]? = some (.cells #[.int .i64 l.length, .slice (some ⟨r, 0, none⟩) l.length cap] T (0, 0))) ∧ Hid (wr.ownsRow B 5 1 (.slice (some ⟨r, 0, none⟩) l.length cap) l.length (bc (ovr l A v m))) ∧ Hid (Ch (WU p B w) w wr))
  case atStart => exact ⟨0, by omega, rfl, HG, HO, HC0⟩
  case round =>
    clear HG HO HC0
    obtain ⟨m, hk, rfl, HG, HO, HC⟩ := hrel
    by_cases hlt : m < 4
    · obtain ⟨k, rfl⟩ : ∃ k, gk = k + 1 := ⟨gk - 1, by omega⟩
      have hA := HA.out
      have hl := HL.out
      obtain ⟨K, hK⟩ : ∃ K, K = A + m := ⟨_, rfl⟩
      obtain ⟨J, hJ⟩ : ∃ J, J = 3 - m := ⟨_, rfl⟩
      have hKI : (A : Int) + (m : Int) = (K : Int) := by omega
      have hJI : (3 : Int) - (m : Int) = (J : Int) := by omega
      have hJ4 : J ≤ 3 := by omega
      have hK0 : (0 : Int) ≤ (K : Int) := by omega
      have hK1 : (K : Int) < (l.length : Int) := by omega
      have hwK : IntKind.i64.wrap (K : Int) = (K : Int) := wrap_in (by omega) (by omega)
      have hwJ : IntKind.i64.wrap (J : Int) = (J : Int) := wrap_in (by omega) (by omega)
      have hw8 : IntKind.i64.wrap (8 * (J : Int)) = 8 * (J : Int) := wrap_in (by omega) (by omega)
      have h80 : ¬ 8 * (J : Int) < 0 := by omega
      have hby := byte_at v J
      have hbv : (v : Int) / 2 ^ (8 * J) % 256 = ((v / 256 ^ J % 256 : Nat) : Int) := by rw [p8 J, Int.natCast_emod, Int.natCast_ediv]; rfl
      have hst := HO.out.stored K (.int .u8 (v / 256 ^ J % 256 : Nat))
      have HO2 : Hid ((wr.setCell ⟨r, K, none⟩ (.int .u8 (v / 256 ^ J % 256 : Nat))).ownsRow B 5 1 (.slice (some ⟨r, 0, none⟩) l.length cap) l.length (bc (ovr l A v (m + 1)))) := by
        have h := hst.1
        rw [bc_set, hK, hJ, ovr_set hA hlt, ← hK, ← hJ] at h
        exact h
      have hrl := (HO.out.lt r rfl)
      have HC2 : Hid (Ch (WU p B w) w (wr.setCell ⟨r, K, none⟩ (.int .u8 (v / 256 ^ J % 256 : Nat)))) := HC.out.tu (chU (v := .slice (some ⟨r, 0, none⟩) l.length cap) hst.2 HO.out)
      have HG2 : Hid ((wr.setCell ⟨r, K, none⟩ (.int .u8 (v / 256 ^ J % 256 : Nat))).heap[p]? = some (.cells #[.int .i64 l.length, .slice (some ⟨r, 0, none⟩) l.length cap] T (0, 0))) := heap_set_far HG.out (by have h1 := HPB.out; have h2 := HBr.out; show p ≠ r; omega)
      have c1 : wr.cell? ⟨p, 1, none⟩ = some (.slice (some ⟨r, 0, none⟩) l.length cap) := (cell_of HG.out).trans rfl
      have hlen : (bc (ovr l A v m)).length = l.length := by rw [bc_len]; exact ovr_len hA (by omega)
      obtain ⟨y, hy⟩ : ∃ y, (bc (ovr l A v m))[K]? = some y := ⟨_, List.getElem?_eq_getElem (by omega)⟩
      have cy : wr.cell? ⟨r, K, none⟩ = some y := by rw [HO.out.cellAt K (by omega)]; exact hy
      have fy := HO.out.frozenAt K
      have HKm := hid hK
      clear hst hrl hlen hy hA hl hJ HO HC HG hK
      generalize hQ : v / 256 ^ J % 256 = Q at *
      clear hQ
      go_wp2_with fail
      go_region
      all_goals
        go_wp2_with fail
        go_roundg k
        case measure => omega
        case rel => exact ⟨m + 1, by omega, by go_num, by first | exact HG2 | exact hid HG2.out, by first | exact HO2 | (show World.ownsRow (World.drew _) _ _ _ _ _ _; exact HO2.out), by first | exact HC2 | exact HC2.out.drew⟩
    · have hm4 : m = 4 := by omega
      subst hm4
      have HW : Hid (Wr wr p B (ovr l A v 4)) := by
        have hlen : (ovr l A v 4).length = l.length := ovr_len HA.out (by omega)
        refine ⟨some ⟨r, 0, none⟩, l.length, cap, T, ?_, ?_, HPB.out, Nat.le_trans HBw.out HC.out.size, ovr_byte HBY.out⟩
        · rw [hlen]; exact HG.out
        · rw [hlen]; exact HO.out
      clear HG HO
      go_wp2_with fail
      go_ret
      exact ⟨rfl, HW.out, HC.out⟩
end Go.Proofs.YtpfaioncaolmjaaGreat
namespace Go.Proofs.YtpfaioncaolmjaaGreat
open Go.RowKit
set_option maxHeartbeats 1000000 in
set_option maxRecDepth 20000 in
theorem xput_no (q : Nat) (s : ByteArray) (at' : Int) (v : Nat) (w : World) (h : WX w q s) (hs : s.size ≤ 9223372036854775000) (hn : ¬ (0 ≤ at' ∧ at' ≤ (s.size : Int) - 4)) :
    Calls Tryz.prog 48 #[.pointer (some ⟨q, 0, none⟩), .int .i64 at', .int .u32 v] w fun e w' => e = .returned (.bool false) ∧ w' = w := by
  have c0 := h.c0
  have hw : IntKind.i64.wrap ((s.size : Int) - 4) = (s.size : Int) - 4 := wrap_in (by omega) (by omega)
  by_cases h0 : at' < 0
  · have d0 : decide (at' < 0) = true := decide_eq_true h0
    go_enter Tryz.func48, Tryz.ntmps48
    go_wp2_with fail
    go_ret
    exact ⟨rfl, rfl⟩
  · have d0 : decide (at' < 0) = false := decide_eq_false h0
    by_cases h4 : s.size < 4
    · have d4 : decide ((s.size : Int) < 4) = true := decide_eq_true (by omega)
      go_enter Tryz.func48, Tryz.ntmps48
      go_wp2_with fail
      go_ret
      exact ⟨rfl, rfl⟩
    · have d4 : decide ((s.size : Int) < 4) = false := decide_eq_false (by omega)
      have h1 : (s.size : Int) - 4 < at' := by omega
      have d1 : decide ((s.size : Int) - 4 < at') = true := decide_eq_true h1
      go_enter Tryz.func48, Tryz.ntmps48
      go_wp2_with fail
      go_ret
      exact ⟨rfl, rfl⟩
set_option maxHeartbeats 1000000 in
set_option maxRecDepth 20000 in
theorem xput_yes (q : Nat) (s : ByteArray) (A v : Nat) (w : World) (h : WX w q s) (hs : s.size ≤ 9223372036854775000) (hA : A + 4 ≤ s.size) (hv : v < 4294967296) :
    Calls Tryz.prog 48 #[.pointer (some ⟨q, 0, none⟩), .int .i64 A, .int .u32 v] w fun e w' => e = .returned (.bool true) ∧ WX w' q (s.extract 0 A ++ bs (nb 4 v) ++ s.extract (A + 4) s.size) ∧ Ch (fun i => i = q) w w' := by
  have hz : (bs (nb 4 v)).size = 4 := by rw [bs_size]; exact nb_len _ _
  obtain ⟨K, hK⟩ : ∃ K, K = A + 4 := ⟨_, rfl⟩
  rw [← hK]
  have hx1 : (s.extract 0 A).size = A := by rw [ByteArray.size_extract]; omega
  have hx2 : (s.extract K s.size).size = s.size - K := by rw [ByteArray.size_extract]; omega
  have hKI : (A : Int) + 4 = (K : Int) := by omega
  have hwK : IntKind.i64.wrap (K : Int) = (K : Int) := wrap_in (by omega) (by omega)
  have hw : IntKind.i64.wrap ((s.size : Int) - 4) = (s.size : Int) - 4 := wrap_in (by omega) (by omega)
  have a0 : (0 : Int) ≤ (A : Int) := by omega
  have a1 : (A : Int) ≤ (s.size : Int) := by omega
  have a2 : (K : Int) ≤ (s.size : Int) := by omega
  have a3 : (0 : Int) ≤ (K : Int) := by omega
  have d0 : decide ((A : Int) < 0) = false := decide_eq_false (by omega)
  have d4 : decide ((s.size : Int) < 4) = false := decide_eq_false (by omega)
  have h1 : ¬ (s.size : Int) - 4 < (A : Int) := by omega
  have d1 : decide ((s.size : Int) - 4 < (A : Int)) = false := decide_eq_false h1
  have hmn : min A s.size = A := by omega
  have C := hid (fun x => xnumber_any v 4 x (by omega) (by omega))
  have H := hid h
  have c0 := h.c0
  have f0 := froz_of (i := 0) h
  have hlt := h.lt
  have hwv : IntKind.u64.wrap (v : Int) = v := by rw [IntKind.wrap_u64]; omega
  generalize bs (nb 4 v) = F at *
  have e1 : ¬ 9223372036854775807 < (s.extract 0 A).size + F.size := by omega
  have e2 : ¬ 9223372036854775807 < (s.extract 0 A ++ F).size + (s.extract K s.size).size := by rw [ByteArray.size_append]; omega
  have e3 : ¬ 9223372036854775807 < A + F.size := by omega
  have e4 : ¬ 9223372036854775807 < A + F.size + (s.size - K) := by omega
  have C1 : Hid (∀ x, Below w.heap.size w x → Calls Tryz.prog 82 #[.int .u64 v, .int .i64 4] x fun e w' => e = .returned (.string F) ∧ Hid (Below w.heap.size w w') ∧ Hid (WX w' q s) ∧ w'.cell? ⟨q, 0, none⟩ = some (.string s) ∧ w'.frozen? ⟨q, 0, none⟩ = false) := by
    intro x hx
    refine (C.out x).mono ?_
    rintro e w' ⟨rfl, hb⟩
    have hb' := bel_next hx (Nat.le_refl _) hb
    have h' := H.out.below hb'
    exact ⟨rfl, hb', h', h'.c0, froz_of h'⟩
  have b1 : Below w.heap.size w w.drew := (Below.refl _ _).drew
  clear C h hs hA hK hv hz hx1 hx2
  go_enter Tryz.func48, Tryz.ntmps48
  go_wp2_with fail
  go_region_with ((go_at_call 82; refine (C1.out w.drew b1).mono ?_; rintro e w' ⟨rfl, hb', hx', cc', ff'⟩))
  all_goals
    go_wp2_with fail
    go_ret
    exact ⟨rfl, heap_set hx'.out, (Ch.of_below hb'.out).setCell _ _ (fun _ => rfl)⟩
end Go.Proofs.YtpfaioncaolmjaaGreat
namespace Go.Proofs.YtpfaioncaolmjaaGreat
open Go.RowKit
theorem dl_exw (s : ByteArray) (a b : Nat) : (s.extract a b).data.toList = (s.data.toList.drop a).take (b - a) := by
  rw [ByteArray.data_extract, Array.toList_extract, List.extract_eq_take_drop]
theorem ovr_bs {l : List Nat} {A v : Nat} (_ : A + 4 ≤ l.length) : (bs l).extract 0 A ++ bs (nb 4 v) ++ (bs l).extract (A + 4) (bs l).size = bs (ovr l A v 4) := by
  have h4 : (nb 4 v).take 4 = nb 4 v := List.take_of_length_le (by rw [nb_len]; omega)
  unfold ovr
  rw [h4, bs_app, bs_app, ByteArray.append_assoc]
  have h1 : (bs l).extract 0 A = bs (l.take A) := by
    have e : ((bs l).extract 0 A).data.toList = (bs (l.take A)).data.toList := by
      rw [dl_exw]
      show ((l.map UInt8.ofNat).toArray.toList.drop 0).take (A - 0) = ((l.take A).map UInt8.ofNat).toArray.toList
      simp [List.map_take]
    have : ((bs l).extract 0 A).data = (bs (l.take A)).data := Array.ext' e
    cases h : (bs l).extract 0 A
    cases h2 : bs (l.take A)
    rw [h, h2] at this
    simp only at this
    rw [this]
  have h2 : (bs l).extract (A + 4) (bs l).size = bs (l.drop (A + 4)) := by
    have e : ((bs l).extract (A + 4) (bs l).size).data.toList = (bs (l.drop (A + 4))).data.toList := by
      rw [dl_exw, bs_size]
      show ((l.map UInt8.ofNat).toArray.toList.drop (A + 4)).take (l.length - (A + 4)) = ((l.drop (A + 4)).map UInt8.ofNat).toArray.toList
      simp [List.map_drop, List.take_of_length_le]
    have : ((bs l).extract (A + 4) (bs l).size).data = (bs (l.drop (A + 4))).data := Array.ext' e
    cases h : (bs l).extract (A + 4) (bs l).size
    cases h3 : bs (l.drop (A + 4))
    rw [h, h3] at this
    simp only at this
    rw [this]
  rw [h1, h2]
theorem put_no (p B : Nat) (l : List Nat) (at' : Int) (v : Nat) (w : World) (h : Wr w p B l) (hl : l.length ≤ 140737488355000) (hn : ¬ (0 ≤ at' ∧ at' ≤ (l.length : Int) - 4)) :
    Calls Tryz.prog 24 #[.pointer (some ⟨p, 0, none⟩), .int .i64 at', .int .u32 v] w fun e w' => e = .returned (.bool false) ∧ w' = w := by
  have C := hid (over_no p B l at' v w h hl hn)
  go_enter Tryz.func24, Tryz.ntmps24
  go_wp2_with (first
    | (go_at_call 49; refine (target_some p _).mono ?_; rintro e w' ⟨rfl, rfl⟩)
    | (go_at_call 76; refine C.out.mono ?_; rintro e w' ⟨rfl, rfl⟩))
  go_ret
  exact ⟨rfl, rfl⟩
theorem put_yes (p B : Nat) (l : List Nat) (A v : Nat) (w : World) (h : Wr w p B l) (hl : l.length ≤ 140737488355000) (hA : A + 4 ≤ l.length) :
    Calls Tryz.prog 24 #[.pointer (some ⟨p, 0, none⟩), .int .i64 A, .int .u32 v] w fun e w' => e = .returned (.bool true) ∧ Wr w' p B (ovr l A v 4) ∧ Ch (WU p B w) w w' := by
  have C := hid (over_yes p B l A v w h hl hA)
  go_enter Tryz.func24, Tryz.ntmps24
  go_wp2_with (first
    | (go_at_call 49; refine (target_some p _).mono ?_; rintro e w' ⟨rfl, rfl⟩)
    | (go_at_call 76; refine C.out.mono ?_; rintro e w' ⟨rfl, h1, h2⟩))
  go_ret
  exact ⟨rfl, h1, h2⟩
set_option maxHeartbeats 1000000 in
set_option maxRecDepth 20000 in
theorem write12 (p q B K N : Nat) (S : ByteArray) (l : List Nat) (w : World) (h : WW p q B l w) (hk : (K : Int) % 14 = 12) (hl : l.length ≤ 10000000000000) (hS : S.size ≤ 1000000000) :
    Calls Tryz.prog 9 #[.pointer (some ⟨p, 0, none⟩), .pointer (some ⟨q, 0, none⟩), .agg #[.int .u8 K, .int .u64 N, .string S]] w fun e w' => e = .returned (.bool true) ∧ WW p q B (if 0 ≤ IntKind.i64.wrap (N : Int) ∧ IntKind.i64.wrap (N : Int) ≤ (l.length : Int) - 4 then ovr l (IntKind.i64.wrap (N : Int)).toNat S.size 4 else l) w' ∧ Old p q B w w' := by
  have hv : S.size < 4294967296 := by omega
  have hcv : IntKind.u32.wrap (S.size : Int) = (S.size : Int) := by rw [IntKind.wrap_u32]; omega
  obtain ⟨at', hat⟩ : ∃ at', IntKind.i64.wrap (N : Int) = at' := ⟨_, rfl⟩
  have bx : (w.alloc (.cells #[.int .u8 K, .int .u64 N, .string S] 32)).heap[w.heap.size]? = some (.cells #[.int .u8 K, .int .u64 N, .string S] 32 (0, 0)) := heap_new _ _
  have bx2 : ((w.alloc (.cells #[.int .u8 K, .int .u64 N, .string S] 32)).drew).heap[w.heap.size]? = some (.cells #[.int .u8 K, .int .u64 N, .string S] 32 (0, 0)) := heap_new _ _
  have hA : Wr ((w.alloc (.cells #[.int .u8 K, .int .u64 N, .string S] 32)).drew) p B l := (h.a.alloc _).below (Below.refl _ _).drew
  have hX : WX ((w.alloc (.cells #[.int .u8 K, .int .u64 N, .string S] 32)).drew) q (bs l) := heap_alloc_at h.x
  have hp := h.a.lt
  have hq := h.x.lt
  have o1 : Old p q B w ((w.alloc (.cells #[.int .u8 K, .int .u64 N, .string S] 32)).drew) := ((Ch.refl _ _).alloc _).drew
  have hg1 : w.heap.size < ((w.alloc (.cells #[.int .u8 K, .int .u64 N, .string S] 32)).drew).heap.size := by simp
  have ne := h.ne
  have lt := h.lt
  rw [hat]
  by_cases hin : 0 ≤ at' ∧ at' ≤ (l.length : Int) - 4
  · rw [if_pos hin]
    obtain ⟨A, rfl⟩ : ∃ A : Nat, at' = (A : Int) := ⟨at'.toNat, by omega⟩
    rw [Int.toNat_natCast]
    have hA4 : A + 4 ≤ l.length := by omega
    have PC := hid (put_yes p B l A S.size _ hA (by omega) hA4)
    have DC : Hid (∀ w2, Wr w2 p B (ovr l A S.size 4) → Ch (WU p B ((w.alloc (.cells #[.int .u8 K, .int .u64 N, .string S] 32)).drew)) ((w.alloc (.cells #[.int .u8 K, .int .u64 N, .string S] 32)).drew) w2 → Calls Tryz.prog 48 #[.pointer (some ⟨q, 0, none⟩), .int .i64 A, .int .u32 S.size] w2 fun e w3 => e = .returned (.bool true) ∧ WW p q B (ovr l A S.size 4) w3 ∧ Old p q B w w3 ∧ w3.cell? ⟨w.heap.size, 2, none⟩ = some (.string S)) := fun w2 h2 c2 => by
      have hX2 : WX w2 q (bs l) := c2.other hX (fun e => ne e.symm) (by decide)
      have dc := xput_yes q (bs l) A S.size w2 hX2 (by rw [bs_size]; omega) (by rw [bs_size]; omega) hv
      rw [ovr_bs hA4] at dc
      have bxx := c2.other bx2 (by omega) (by decide)
      refine dc.mono ?_
      rintro e w3 ⟨rfl, h3, c3⟩
      exact ⟨rfl, ⟨h2.ch c3 ne (fun i hi e => by omega), h3, ne, lt⟩, (o1.trans (wu_old c2)).trans (wx_old c3), (cells3w ((c3.block w.heap.size (lt_of_heap bxx) (by omega)).trans bxx)).2.2⟩
    have CB : Hid (∀ w2, Ch (WU p B ((w.alloc (.cells #[.int .u8 K, .int .u64 N, .string S] 32)).drew)) ((w.alloc (.cells #[.int .u8 K, .int .u64 N, .string S] 32)).drew) w2 → w2.cell? ⟨w.heap.size, 2, none⟩ = some (.string S)) := fun w2 c2 => (cells3w (c2.other bx2 (by omega) (by decide))).2.2
    obtain ⟨k0, k1, k2⟩ := cells3w bx
    clear o1 hX bx bx2 h hA hin
    go_enter Tryz.func9, Tryz.ntmps9
    go_wp2_with fail
    generalize w.alloc (.cells #[.int .u8 K, .int .u64 N, .string S] 32) = W at *
    go_region_held3 (fun z => z.cell? ⟨w.heap.size, 2, none⟩ = some (.string S)) ((first | assumption | go_keep)) ((first | (go_at_call 24; refine PC.out.mono ?_; rintro e w2 ⟨rfl, h2, c2⟩; have n2 := CB.out w2 c2) | (go_at_call 48; refine (DC.out w2 h2 c2).mono ?_; rintro e w3 ⟨rfl, h3, o3, n3⟩)))
    go_wp2_with fail
    go_ret
    exact ⟨rfl, h3, o3⟩
  · rw [if_neg hin]
    have PC := hid (put_no p B l at' S.size _ hA (by omega) hin)
    have DC := hid (xput_no q (bs l) at' S.size _ hX (by rw [bs_size]; omega) (by rw [bs_size]; exact hin))
    have O1 := hid o1
    have HW : Hid (WW p q B l ((w.alloc (.cells #[.int .u8 K, .int .u64 N, .string S] 32)).drew)) := ⟨hA, hX, ne, lt⟩
    obtain ⟨k0, k1, k2⟩ := cells3w bx
    clear o1 hX bx bx2 h hA hin
    go_enter Tryz.func9, Tryz.ntmps9
    go_wp2_with fail
    generalize w.alloc (.cells #[.int .u8 K, .int .u64 N, .string S] 32) = W at *
    go_region_held3 (fun z => z.cell? ⟨w.heap.size, 2, none⟩ = some (.string S)) ((first | assumption | go_keep)) ((first | (go_at_call 24; refine PC.out.mono ?_; rintro e w2 ⟨rfl, rfl⟩) | (go_at_call 48; refine DC.out.mono ?_; rintro e w3 ⟨rfl, rfl⟩)))
    go_wp2_with fail
    go_ret
    exact ⟨rfl, HW.out, O1.out⟩
set_option maxHeartbeats 1000000 in
set_option maxRecDepth 20000 in
theorem write13 (p q B K N : Nat) (S : ByteArray) (l : List Nat) (w : World) (h : WW p q B l w) (hk : (K : Int) % 14 = 13) (hl : l.length ≤ 10000000000000) (hS : S.size ≤ 1000000000) :
    Calls Tryz.prog 9 #[.pointer (some ⟨p, 0, none⟩), .pointer (some ⟨q, 0, none⟩), .agg #[.int .u8 K, .int .u64 N, .string S]] w fun e w' => e = .returned (.bool true) ∧ WW p q B (if 0 ≤ IntKind.i64.wrap (N : Int) ∧ IntKind.i64.wrap (N : Int) ≤ (l.length : Int) - 4 then ovr l (IntKind.i64.wrap (N : Int)).toNat S.size 4 else l) w' ∧ Old p q B w w' := by
  have hv : S.size < 4294967296 := by omega
  have hcv : IntKind.u32.wrap (S.size : Int) = (S.size : Int) := by rw [IntKind.wrap_u32]; omega
  obtain ⟨at', hat⟩ : ∃ at', IntKind.i64.wrap (N : Int) = at' := ⟨_, rfl⟩
  have bx : (w.alloc (.cells #[.int .u8 K, .int .u64 N, .string S] 32)).heap[w.heap.size]? = some (.cells #[.int .u8 K, .int .u64 N, .string S] 32 (0, 0)) := heap_new _ _
  have bx2 : ((w.alloc (.cells #[.int .u8 K, .int .u64 N, .string S] 32)).drew).heap[w.heap.size]? = some (.cells #[.int .u8 K, .int .u64 N, .string S] 32 (0, 0)) := heap_new _ _
  have hA : Wr ((w.alloc (.cells #[.int .u8 K, .int .u64 N, .string S] 32)).drew) p B l := (h.a.alloc _).below (Below.refl _ _).drew
  have hX : WX ((w.alloc (.cells #[.int .u8 K, .int .u64 N, .string S] 32)).drew) q (bs l) := heap_alloc_at h.x
  have hp := h.a.lt
  have hq := h.x.lt
  have o1 : Old p q B w ((w.alloc (.cells #[.int .u8 K, .int .u64 N, .string S] 32)).drew) := ((Ch.refl _ _).alloc _).drew
  have hg1 : w.heap.size < ((w.alloc (.cells #[.int .u8 K, .int .u64 N, .string S] 32)).drew).heap.size := by simp
  have ne := h.ne
  have lt := h.lt
  rw [hat]
  by_cases hin : 0 ≤ at' ∧ at' ≤ (l.length : Int) - 4
  · rw [if_pos hin]
    obtain ⟨A, rfl⟩ : ∃ A : Nat, at' = (A : Int) := ⟨at'.toNat, by omega⟩
    rw [Int.toNat_natCast]
    have hA4 : A + 4 ≤ l.length := by omega
    have PC := hid (put_yes p B l A S.size _ hA (by omega) hA4)
    have DC : Hid (∀ w2, Wr w2 p B (ovr l A S.size 4) → Ch (WU p B ((w.alloc (.cells #[.int .u8 K, .int .u64 N, .string S] 32)).drew)) ((w.alloc (.cells #[.int .u8 K, .int .u64 N, .string S] 32)).drew) w2 → Calls Tryz.prog 48 #[.pointer (some ⟨q, 0, none⟩), .int .i64 A, .int .u32 S.size] w2 fun e w3 => e = .returned (.bool true) ∧ WW p q B (ovr l A S.size 4) w3 ∧ Old p q B w w3 ∧ w3.cell? ⟨w.heap.size, 2, none⟩ = some (.string S)) := fun w2 h2 c2 => by
      have hX2 : WX w2 q (bs l) := c2.other hX (fun e => ne e.symm) (by decide)
      have dc := xput_yes q (bs l) A S.size w2 hX2 (by rw [bs_size]; omega) (by rw [bs_size]; omega) hv
      rw [ovr_bs hA4] at dc
      have bxx := c2.other bx2 (by omega) (by decide)
      refine dc.mono ?_
      rintro e w3 ⟨rfl, h3, c3⟩
      exact ⟨rfl, ⟨h2.ch c3 ne (fun i hi e => by omega), h3, ne, lt⟩, (o1.trans (wu_old c2)).trans (wx_old c3), (cells3w ((c3.block w.heap.size (lt_of_heap bxx) (by omega)).trans bxx)).2.2⟩
    have CB : Hid (∀ w2, Ch (WU p B ((w.alloc (.cells #[.int .u8 K, .int .u64 N, .string S] 32)).drew)) ((w.alloc (.cells #[.int .u8 K, .int .u64 N, .string S] 32)).drew) w2 → w2.cell? ⟨w.heap.size, 2, none⟩ = some (.string S)) := fun w2 c2 => (cells3w (c2.other bx2 (by omega) (by decide))).2.2
    obtain ⟨k0, k1, k2⟩ := cells3w bx
    clear o1 hX bx bx2 h hA hin
    go_enter Tryz.func9, Tryz.ntmps9
    go_wp2_with fail
    generalize w.alloc (.cells #[.int .u8 K, .int .u64 N, .string S] 32) = W at *
    go_region_held3 (fun z => z.cell? ⟨w.heap.size, 2, none⟩ = some (.string S)) ((first | assumption | go_keep)) ((first | (go_at_call 24; refine PC.out.mono ?_; rintro e w2 ⟨rfl, h2, c2⟩; have n2 := CB.out w2 c2) | (go_at_call 48; refine (DC.out w2 h2 c2).mono ?_; rintro e w3 ⟨rfl, h3, o3, n3⟩)))
    go_wp2_with fail
    go_ret
    exact ⟨rfl, h3, o3⟩
  · rw [if_neg hin]
    have PC := hid (put_no p B l at' S.size _ hA (by omega) hin)
    have DC := hid (xput_no q (bs l) at' S.size _ hX (by rw [bs_size]; omega) (by rw [bs_size]; exact hin))
    have O1 := hid o1
    have HW : Hid (WW p q B l ((w.alloc (.cells #[.int .u8 K, .int .u64 N, .string S] 32)).drew)) := ⟨hA, hX, ne, lt⟩
    obtain ⟨k0, k1, k2⟩ := cells3w bx
    clear o1 hX bx bx2 h hA hin
    go_enter Tryz.func9, Tryz.ntmps9
    go_wp2_with fail
    generalize w.alloc (.cells #[.int .u8 K, .int .u64 N, .string S] 32) = W at *
    go_region_held3 (fun z => z.cell? ⟨w.heap.size, 2, none⟩ = some (.string S)) ((first | assumption | go_keep)) ((first | (go_at_call 24; refine PC.out.mono ?_; rintro e w2 ⟨rfl, rfl⟩) | (go_at_call 48; refine DC.out.mono ?_; rintro e w3 ⟨rfl, rfl⟩)))
    go_wp2_with fail
    go_ret
    exact ⟨rfl, HW.out, O1.out⟩
/-- What one call makes of what is written. -/
theorem write_any (K N : Nat) (S : ByteArray) (l : List Nat) (hK : K < 256) (hN : N < 18446744073709551616) (hl : l.length ≤ 10000000000000) (hS : S.size ≤ 1000000000) :
    ∃ l' : List Nat, l'.length ≤ l.length + 20 + S.size ∧ ∀ p q B w, WW p q B l w → Calls Tryz.prog 9 #[.pointer (some ⟨p, 0, none⟩), .pointer (some ⟨q, 0, none⟩), .agg #[.int .u8 K, .int .u64 N, .string S]] w fun e w' => e = .returned (.bool true) ∧ WW p q B l' w' ∧ Old p q B w w' := by
  have _ := hK
  have hb := bl_len S
  have hm : K % 14 < 14 := Nat.mod_lt _ (by omega)
  have hf := fun v => M.form_le v
  have hn := fun n v => nb_len n v
  rcases (show K % 14 = 0 ∨ K % 14 = 1 ∨ K % 14 = 2 ∨ K % 14 = 3 ∨ K % 14 = 4 ∨ K % 14 = 5 ∨ K % 14 = 6 ∨ K % 14 = 7 ∨ K % 14 = 8 ∨ K % 14 = 9 ∨ K % 14 = 10 ∨ K % 14 = 11 ∨ K % 14 = 12 ∨ K % 14 = 13 by omega) with h | h | h | h | h | h | h | h | h | h | h | h | h | h
  · exact ⟨_, by rw [List.length_append, nb_len]; omega, fun p q B w hw => write0 p q B K N S l w hw (by omega) hN hl hS⟩
  · exact ⟨_, by rw [List.length_append, nb_len]; omega, fun p q B w hw => write1 p q B K N S l w hw (by omega) hN hl hS⟩
  · exact ⟨_, by rw [List.length_append, nb_len]; omega, fun p q B w hw => write2 p q B K N S l w hw (by omega) hN hl hS⟩
  · exact ⟨_, by rw [List.length_append, nb_len]; omega, fun p q B w hw => write3 p q B K N S l w hw (by omega) hN hl hS⟩
  · exact ⟨_, by rw [List.length_append, nb_len]; omega, fun p q B w hw => write4 p q B K N S l w hw (by omega) hN hl hS⟩
  · exact ⟨_, by rw [List.length_append, nb_len]; omega, fun p q B w hw => write5 p q B K N S l w hw (by omega) hN hl hS⟩
  · exact ⟨_, by rw [List.length_append]; exact Nat.le_trans (Nat.add_le_add_left (hf _) _) (by omega), fun p q B w hw => write6 p q B K N S l w hw (by omega) hN hl hS⟩
  · exact ⟨_, by rw [List.length_append]; exact Nat.le_trans (Nat.add_le_add_left (hf _) _) (by omega), fun p q B w hw => write7 p q B K N S l w hw (by omega) hN hl hS⟩
  · exact ⟨_, by rw [List.length_append]; omega, fun p q B w hw => write8 p q B K N S l w hw (by omega) hN hl hS⟩
  · exact ⟨_, by unfold tx; rw [List.length_append, List.length_append]; have := hf S.size; omega, fun p q B w hw => write9 p q B K N S l w hw (by omega) hN hl hS⟩
  · exact ⟨_, by unfold ol; rw [if_pos rfl, List.length_append, List.length_append]; have := hf (2 * S.size); omega, fun p q B w hw => write10 p q B K N S l w hw (by omega) hN hl hS⟩
  · exact ⟨_, by unfold ol; rw [if_neg (by decide), List.length_append]; show _ + 1 ≤ _; omega, fun p q B w hw => write11 p q B K N S l w hw (by omega) hN hl hS⟩
  · refine ⟨_, ?_, fun p q B w hw => write12 p q B K N S l w hw (by omega) hl hS⟩
    split
    · rename_i hc
      rw [ovr_len (by omega) (by omega)]
      omega
    · omega
  · refine ⟨_, ?_, fun p q B w hw => write13 p q B K N S l w hw (by omega) hl hS⟩
    split
    · rename_i hc
      rw [ovr_len (by omega) (by omega)]
      omega
    · omega
end Go.Proofs.YtpfaioncaolmjaaGreat
