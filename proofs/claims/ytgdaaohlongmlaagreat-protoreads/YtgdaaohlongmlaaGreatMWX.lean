/- Texts of the proof, put together: WX, WX2, WX3, WX4, WX5, WX6. -/
import Derived.Test.YtgdaaohlongmlaaGreatSz
import Derived.Test.YtgdaaohlongmlaaGreatVref
import Derived.Deep.LoopGhost
import Derived.Deep.OwnRows
import Derived.Deep.RegionLaw
namespace Go.Proofs.YtgdaaohlongmlaaGreat
open Go.RowKit
/-- The document's writer: what is written. -/
def WX (w : World) (p : Nat) (s : ByteArray) : Prop := w.heap[p]? = some (.cells #[.string s] 101 (0, 0))
def LaysX (p : Nat) (s : ByteArray) (w : World) (e : Ending) (w' : World) : Prop := e = .returned (.tuple #[]) ∧ WX w' p s ∧ Ch (fun i => i = p) w w'
theorem WX.c0 {w : World} {p : Nat} {s : ByteArray} (h : WX w p s) : w.cell? ⟨p, 0, none⟩ = some (.string s) := (cell_of h).trans rfl
theorem WX.lt {w : World} {p : Nat} {s : ByteArray} (h : WX w p s) : p < w.heap.size := lt_of_heap h
theorem WX.below {w w' : World} {p : Nat} {s : ByteArray} (h : WX w p s) (hb : Below w.heap.size w w') : WX w' p s := (hb.block p h.lt).trans h
theorem xnewwriter_any (w : World) :
    Calls Tryz.prog 23 #[] w fun e w' => e = .returned (.pointer (some ⟨w.heap.size, 0, none⟩)) ∧ w' = w.alloc (.cells #[.string ⟨#[]⟩] 101) := by
  go_enter Tryz.func23, Tryz.ntmps23
  go_wp2
  go_ret
  exact ⟨rfl, rfl⟩
theorem xwbytes_any (p : Nat) (s : ByteArray) (w : World) (h : WX w p s) :
    Calls Tryz.prog 27 #[.pointer (some ⟨p, 0, none⟩)] w fun e w' => e = .returned (.string s) ∧ w' = w := by
  have c0 := h.c0
  go_enter Tryz.func27, Tryz.ntmps27
  go_wp2
  go_ret
  exact ⟨rfl, rfl⟩
theorem xwraw_any (p : Nat) (s t : ByteArray) (w : World) (h : WX w p s) (hl : s.size + t.size ≤ 9223372036854775807) :
    Calls Tryz.prog 63 #[.pointer (some ⟨p, 0, none⟩), .string t] w (LaysX p (s ++ t) w) := by
  have c0 := h.c0
  have f0 := froz_of (i := 0) h
  have hc : ¬ 9223372036854775807 < s.size + t.size := by omega
  have H := hid h
  clear h hl
  go_enter Tryz.func63, Tryz.ntmps63
  go_wp2
  go_end0
  exact ⟨rfl, heap_set H.out, (Ch.refl _ _).setCell _ _ (fun _ => rfl)⟩
end Go.Proofs.YtgdaaohlongmlaaGreat
namespace Go.Proofs.YtgdaaohlongmlaaGreat
open Go.RowKit
theorem bs_app (l m : List Nat) : bs (l ++ m) = bs l ++ bs m := by
  unfold bs
  apply ByteArray.ext
  rw [ByteArray.data_append]
  simp
theorem bs_tx (t : ByteArray) : bs (tx t) = bs (M.form t.size) ++ t := by unfold tx; rw [bs_app, bs_bl]
theorem bs_ol (t : ByteArray) : bs (ol true t) = bs (M.form (2 * t.size)) ++ t := by unfold ol; rw [if_pos rfl, bs_app, bs_bl]
end Go.Proofs.YtgdaaohlongmlaaGreat
namespace Go.Proofs.YtgdaaohlongmlaaGreat
open Go.RowKit
theorem one_row {w : World} {g V : Nat} (h : w.heap[g]? = some (.cells #[.int .u8 V] 5 (0, 0))) : w.ownsRow g 5 1 (.slice (some ⟨g, 0, none⟩) 1 1) 1 (bc [V]) :=
  ⟨rfl, Or.inr ⟨g, 1, _, rfl, Nat.le_refl _, h, Nat.le_refl _, by unfold maxLen; omega, rfl, rfl⟩⟩
set_option maxHeartbeats 1000000 in
set_option maxRecDepth 20000 in
theorem xnumber1_any (V : Nat) (w : World) (hV : V < 256) :
    Calls Tryz.prog 61 #[.int .u64 V, .int .i64 1] w fun e w' => e = .returned (.string (bs [V])) ∧ Below w.heap.size w w' := by
  have e0 : madeCells #[Value.int .u8 0] 1 = #[Value.int .u8 0] := by kernel_rfl
  have hmk : (Instr.makeSlice 52 (.int .i64 1) (.int .i64 1)).run Tryz.prog w = .ok (.slice (some ⟨w.heap.size, 0, none⟩) 1 1) (w.alloc (.cells #[.int .u8 0] 5)) := by
    rw [← e0]
    exact Go.run_make_row' (P := Tryz.prog) 52 5 (.int .u8 0) 1 Tryz.underBytes Tryz.info5 rfl .i64 .i64 1 (by omega) (by omega) w
  clear e0
  have hw : IntKind.u8.wrap ((V : Int) % 256) = V := by rw [IntKind.wrap_u8]; omega
  have hm : (V : Int) % 256 = V := by omega
  go_enter Tryz.func61, Tryz.ntmps61
  go_wp2_with fail
  have g0 : (w.alloc (.cells #[.int .u8 0] 5)).heap[w.heap.size]? = some (.cells #[.int .u8 0] 5 (0, 0)) := heap_new _ _
  have b0 : Below w.heap.size w (w.alloc (.cells #[.int .u8 0] 5)) := (Below.refl _ w).alloc (Nat.le_refl _) _
  clear hmk
  generalize w.alloc (.cells #[.int .u8 0] 5) = W at *
  go_loopg [0, 6] 1 (fun k x i wr => (k = 1 ∧ i = .int .i64 0 ∧ x = .int .u64 V ∧ wr.heap[w.heap.size]? = some (.cells #[.int .u8 0] 5 (0, 0)) ∧ Below w.heap.size w wr) ∨ (k = 0 ∧ i = .int .i64 (-1) ∧ x = .int .u64 ((V : Int) / 256) ∧ wr.heap[w.heap.size]? = some (.cells #[.int .u8 V] 5 (0, 0)) ∧ Below w.heap.size w wr))
  case atStart => exact Or.inl ⟨rfl, by first | rfl | go_num, rfl, g0, b0⟩
  case round =>
    clear g0 b0
    rcases hrel with ⟨rfl, rfl, rfl, hg, hb⟩ | ⟨rfl, rfl, rfl, hg, hb⟩
    · have c0 : wr.cell? ⟨w.heap.size, 0, none⟩ = some (.int .u8 0) := (cell_of hg).trans rfl
      have f0 := froz_of (i := 0) hg
      have HG := hid hg
      have HB := hid hb
      clear hg hb
      go_wp2_with fail
      go_roundg 0
      case measure => omega
      case rel => exact Or.inr ⟨rfl, by first | rfl | go_num, by first | rfl | go_num, heap_set HG.out, HB.out.setCell (Nat.le_refl _) _⟩
    · have hcv := conv_own (l := [V]) (by intro b hb; rw [List.mem_singleton] at hb; omega) (one_row hg)
      have HB := hid hb
      clear hg hb
      go_wp2_with fail
      go_ret
      exact ⟨rfl, HB.out⟩
end Go.Proofs.YtgdaaohlongmlaaGreat
namespace Go.Proofs.YtgdaaohlongmlaaGreat
open Go.RowKit
set_option maxHeartbeats 400000 in
set_option maxRecDepth 20000 in
theorem xwu8_any (p : Nat) (s : ByteArray) (V : Nat) (w : World) (h : WX w p s) (hV : V < 256) (hl : s.size ≤ 9223372036854775000) :
    Calls Tryz.prog 24 #[.pointer (some ⟨p, 0, none⟩), .int .u8 V] w (LaysX p (s ++ bs [V]) w) := by
  have hz : (bs [V]).size = 1 := bs_size _
  have hc : ¬ 9223372036854775807 < s.size + (bs [V]).size := by omega
  have C := hid (fun x => xnumber1_any V x hV)
  have H := hid h
  have c0 := h.c0
  have f0 := froz_of (i := 0) h
  have hlt := h.lt
  have hw : IntKind.u64.wrap (V : Int) = V := by rw [IntKind.wrap_u64]; omega
  clear h hl hz
  generalize bs [V] = F at *
  have C1 : Hid (∀ x, Below w.heap.size w x → Calls Tryz.prog 61 #[.int .u64 V, .int .i64 1] x fun e w' => e = .returned (.string F) ∧ Hid (Below w.heap.size w w') ∧ Hid (WX w' p s) ∧ w'.cell? ⟨p, 0, none⟩ = some (.string s) ∧ w'.frozen? ⟨p, 0, none⟩ = false) := by
    intro x hx
    refine (C.out x).mono ?_
    rintro e w' ⟨rfl, hb⟩
    have hb' := bel_next hx (Nat.le_refl _) hb
    have h' := H.out.below hb'
    exact ⟨rfl, hb', h', h'.c0, froz_of h'⟩
  have b1 : Below w.heap.size w w.drew := (Below.refl _ _).drew
  clear C
  go_enter Tryz.func24, Tryz.ntmps24
  go_wp2_with fail
  go_region_with ((go_at_call 61; refine (C1.out w.drew b1).mono ?_; rintro e w' ⟨rfl, hb', hx', cc', ff'⟩))
  all_goals
    go_wp2_with fail
    go_end0
    exact ⟨rfl, heap_set hx'.out, (Ch.of_below hb'.out).setCell _ _ (fun _ => rfl)⟩
end Go.Proofs.YtgdaaohlongmlaaGreat
namespace Go.Proofs.YtgdaaohlongmlaaGreat
open Go.RowKit
theorem nb_cons : ∀ (m V : Nat), nb (m + 1) V = (V / 256 ^ m % 256) :: nb m V
  | 0, V => by simp [nb]
  | m + 1, V => by
    show nb (m + 1) (V / 256) ++ [V % 256] = _
    rw [nb_cons m (V / 256)]
    show (V / 256 / 256 ^ m % 256) :: (nb m (V / 256) ++ [V % 256]) = _ :: (nb m (V / 256) ++ [V % 256])
    rw [Nat.div_div_eq_div_mul, ← Nat.pow_succ']
theorem made1 (x : Value) (n : Nat) : (madeCells #[x] n).toList = List.replicate n x := by
  apply List.ext_getElem
  · simp [madeCells]
  · intro i h1 h2
    simp [madeCells, Nat.mod_one]
theorem set_rep (j : Nat) (L : List Nat) (b : Nat) : (List.replicate (j + 1) 0 ++ L).set j b = List.replicate j 0 ++ (b :: L) := by
  rw [List.replicate_succ', List.append_assoc, List.set_append_right _ _ (by simp)]
  simp
theorem bc_set (l : List Nat) (j b : Nat) : (bc l).set j (.int .u8 b) = bc (l.set j b) := by
  unfold bc
  rw [List.map_set]
set_option maxHeartbeats 1000000 in
set_option maxRecDepth 20000 in
theorem xnumber_any (V n : Nat) (w : World) (hV : V < 18446744073709551616) (hn : n ≤ 8) :
    Calls Tryz.prog 61 #[.int .u64 V, .int .i64 n] w fun e w' => e = .returned (.string (bs (nb n V))) ∧ Below w.heap.size w w' := by
  have hmk : (Instr.makeSlice 52 (.int .i64 n) (.int .i64 n)).run Tryz.prog w = .ok (.slice (some ⟨w.heap.size, 0, none⟩) n n) (w.alloc (.cells (madeCells #[.int .u8 0] n) 5)) :=
    Go.run_make_row' (P := Tryz.prog) 52 5 (.int .u8 0) 1 Tryz.underBytes Tryz.info5 rfl .i64 .i64 n (by omega) (by omega) w
  have g0 : (w.alloc (.cells (madeCells #[.int .u8 0] n) 5)).heap[w.heap.size]? = some (.cells (madeCells #[.int .u8 0] n) 5 (0, 0)) := heap_new _ _
  have b0 : Below w.heap.size w (w.alloc (.cells (madeCells #[.int .u8 0] n) 5)) := (Below.refl _ w).alloc (Nat.le_refl _) _
  have o0 : (w.alloc (.cells (madeCells #[.int .u8 0] n) 5)).ownsRow w.heap.size 5 1 (.slice (some ⟨w.heap.size, 0, none⟩) n n) n (bc (List.replicate n 0 ++ nb 0 V)) :=
    ⟨by rw [bc_len]; simp [nb], Or.inr ⟨w.heap.size, n, _, rfl, Nat.le_refl _, g0, Nat.le_refl _, by unfold maxLen; omega, by simp [madeCells], by
      rw [List.take_of_length_le (by simp [madeCells]), made1]
      simp [nb, bc]⟩⟩
  have HO0 := hid o0
  have HB0 := hid b0
  clear g0 o0 b0
  go_enter Tryz.func61, Tryz.ntmps61
  go_wp2_with fail
  clear hmk
  generalize w.alloc (.cells (madeCells #[.int .u8 0] n) 5) = W at *
  go_loopg [0, 6] n (fun k x i wr => k ≤ n ∧ i = .int .i64 ((k : Int) - 1) ∧ x = .int .u64 (V / 256 ^ (n - k) : Nat) ∧ Hid (wr.ownsRow w.heap.size 5 1 (.slice (some ⟨w.heap.size, 0, none⟩) n n) n (bc (List.replicate k 0 ++ nb (n - k) V))) ∧ Hid (Below w.heap.size w wr))
  case atStart => exact ⟨Nat.le_refl _, by first | rfl | go_num, by rw [Nat.sub_self, Nat.pow_zero, Nat.div_one], by show World.ownsRow _ _ _ _ _ _ _; rw [Nat.sub_self]; exact HO0.out, HB0⟩
  case round =>
    clear HO0 HB0
    obtain ⟨hk, rfl, rfl, HO, HB⟩ := hrel
    by_cases hlt : 0 < gk
    · obtain ⟨j, rfl⟩ : ∃ j, gk = j + 1 := ⟨gk - 1, by omega⟩
      have e1 : ((j + 1 : Nat) : Int) - 1 = j := by omega
      rw [e1]
      clear e1
      obtain ⟨X, hX⟩ : ∃ X, V / 256 ^ (n - (j + 1)) = X := ⟨_, rfl⟩
      have hX2 : V / 256 ^ (n - j) = X / 256 := by
        rw [← hX, Nat.div_div_eq_div_mul, ← Nat.pow_succ, show (n - (j + 1)).succ = n - j by omega]
      rw [hX]
      have hst := HO.out.stored j (.int .u8 (X % 256 : Nat))
      have hO2 : Hid ((wr.setCell ⟨w.heap.size, j, none⟩ (.int .u8 (X % 256 : Nat))).ownsRow w.heap.size 5 1 (.slice (some ⟨w.heap.size, 0, none⟩) n n) n (bc (List.replicate j 0 ++ nb (n - j) V))) := by
        have h := hst.1
        rw [bc_set, set_rep, ← hX, ← nb_cons, show n - (j + 1) + 1 = n - j by omega, hX] at h
        exact h
      have HB2 : Hid (Below w.heap.size w (wr.setCell ⟨w.heap.size, j, none⟩ (.int .u8 (X % 256 : Nat)))) := HB.out.setCell (Nat.le_refl _) _
      have hl : (bc (List.replicate (j + 1) 0 ++ nb (n - (j + 1)) V)).length = n := by rw [bc_len]; simp [nb_len]; omega
      obtain ⟨y, hy⟩ : ∃ y, (bc (List.replicate (j + 1) 0 ++ nb (n - (j + 1)) V))[j]? = some y := ⟨_, List.getElem?_eq_getElem (by omega)⟩
      have hc : wr.cell? ⟨w.heap.size, j, none⟩ = some y := by rw [HO.out.cellAt j (by omega)]; exact hy
      have hf := HO.out.frozenAt j
      have hw : IntKind.u8.wrap ((X : Int) % 256) = ((X % 256 : Nat) : Int) := by rw [IntKind.wrap_u8]; omega
      have hwd : (X : Int) / 256 = ((X / 256 : Nat) : Int) := by omega
      have hXV : X ≤ V := by rw [← hX]; exact Nat.div_le_self _ _
      have hwr : IntKind.u64.wrap ((X / 256 : Nat) : Int) = ((X / 256 : Nat) : Int) := by rw [IntKind.wrap_u64]; omega
      have j0 : (0 : Int) ≤ (j : Int) := by omega
      have j1 : (j : Int) < (n : Int) := by omega
      have HX2 := hid hX2
      generalize hQ : X % 256 = Q at *
      generalize hR : X / 256 = R at *
      clear hst hl hy hX hX2 hQ hR HO HB hXV
      go_wp2_with fail
      go_roundg j
      case measure => omega
      case rel => exact ⟨by omega, by first | rfl | go_num, by rw [HX2.out], hO2, HB2⟩
    · have hm0 : gk = 0 := by omega
      subst hm0
      have ho := HO.out
      rw [Nat.sub_zero, List.replicate_zero, List.nil_append] at ho
      have hcv := conv_own (l := nb n V) (nb_byte n V) ho
      have hneg : ¬ (0 : Int) ≤ ((0 : Nat) : Int) - 1 := by omega
      clear ho
      go_wp2_with fail
      go_ret
      exact ⟨rfl, HB.out⟩
end Go.Proofs.YtgdaaohlongmlaaGreat
namespace Go.Proofs.YtgdaaohlongmlaaGreat
open Go.RowKit
set_option maxHeartbeats 400000 in
set_option maxRecDepth 20000 in
theorem xwu32_any (p : Nat) (s : ByteArray) (V : Nat) (w : World) (h : WX w p s) (hV : V < 4294967296) (hl : s.size ≤ 9223372036854775000) :
    Calls Tryz.prog 62 #[.pointer (some ⟨p, 0, none⟩), .int .u32 V] w (LaysX p (s ++ bs (nb 4 V)) w) := by
  have hz : (bs (nb 4 V)).size = 4 := by rw [bs_size]; exact nb_len _ _
  have hc : ¬ 9223372036854775807 < s.size + (bs (nb 4 V)).size := by omega
  have C := hid (fun x => xnumber_any V 4 x (by omega) (by omega))
  have H := hid h
  have c0 := h.c0
  have f0 := froz_of (i := 0) h
  have hlt := h.lt
  have hw : IntKind.u64.wrap (V : Int) = V := by rw [IntKind.wrap_u64]; omega
  clear h hl hz
  generalize bs (nb 4 V) = F at *
  have C1 : Hid (∀ x, Below w.heap.size w x → Calls Tryz.prog 61 #[.int .u64 V, .int .i64 4] x fun e w' => e = .returned (.string F) ∧ Hid (Below w.heap.size w w') ∧ Hid (WX w' p s) ∧ w'.cell? ⟨p, 0, none⟩ = some (.string s) ∧ w'.frozen? ⟨p, 0, none⟩ = false) := by
    intro x hx
    refine (C.out x).mono ?_
    rintro e w' ⟨rfl, hb⟩
    have hb' := bel_next hx (Nat.le_refl _) hb
    have h' := H.out.below hb'
    exact ⟨rfl, hb', h', h'.c0, froz_of h'⟩
  have b1 : Below w.heap.size w w.drew := (Below.refl _ _).drew
  clear C
  go_enter Tryz.func62, Tryz.ntmps62
  go_wp2_with fail
  go_region_with ((go_at_call 61; refine (C1.out w.drew b1).mono ?_; rintro e w' ⟨rfl, hb', hx', cc', ff'⟩))
  all_goals
    go_wp2_with fail
    go_end0
    exact ⟨rfl, heap_set hx'.out, (Ch.of_below hb'.out).setCell _ _ (fun _ => rfl)⟩
set_option maxHeartbeats 400000 in
set_option maxRecDepth 20000 in
theorem xwu64_any (p : Nat) (s : ByteArray) (V : Nat) (w : World) (h : WX w p s) (hV : V < 18446744073709551616) (hl : s.size ≤ 9223372036854775000) :
    Calls Tryz.prog 64 #[.pointer (some ⟨p, 0, none⟩), .int .u64 V] w (LaysX p (s ++ bs (nb 8 V)) w) := by
  have hz : (bs (nb 8 V)).size = 8 := by rw [bs_size]; exact nb_len _ _
  have hc : ¬ 9223372036854775807 < s.size + (bs (nb 8 V)).size := by omega
  have C := hid (fun x => xnumber_any V 8 x (by omega) (by omega))
  have H := hid h
  have c0 := h.c0
  have f0 := froz_of (i := 0) h
  have hlt := h.lt
  have hw : IntKind.u64.wrap (V : Int) = V := by rw [IntKind.wrap_u64]; omega
  clear h hl hz
  generalize bs (nb 8 V) = F at *
  have C1 : Hid (∀ x, Below w.heap.size w x → Calls Tryz.prog 61 #[.int .u64 V, .int .i64 8] x fun e w' => e = .returned (.string F) ∧ Hid (Below w.heap.size w w') ∧ Hid (WX w' p s) ∧ w'.cell? ⟨p, 0, none⟩ = some (.string s) ∧ w'.frozen? ⟨p, 0, none⟩ = false) := by
    intro x hx
    refine (C.out x).mono ?_
    rintro e w' ⟨rfl, hb⟩
    have hb' := bel_next hx (Nat.le_refl _) hb
    have h' := H.out.below hb'
    exact ⟨rfl, hb', h', h'.c0, froz_of h'⟩
  have b1 : Below w.heap.size w w.drew := (Below.refl _ _).drew
  clear C
  go_enter Tryz.func64, Tryz.ntmps64
  go_wp2_with fail
  go_region_with ((go_at_call 61; refine (C1.out w.drew b1).mono ?_; rintro e w' ⟨rfl, hb', hx', cc', ff'⟩))
  all_goals
    go_wp2_with fail
    go_end0
    exact ⟨rfl, heap_set hx'.out, (Ch.of_below hb'.out).setCell _ _ (fun _ => rfl)⟩
set_option maxHeartbeats 400000 in
set_option maxRecDepth 20000 in
theorem xwi32_any (p : Nat) (s : ByteArray) (v : Int) (w : World) (h : WX w p s) (hl : s.size ≤ 9223372036854775000) :
    Calls Tryz.prog 31 #[.pointer (some ⟨p, 0, none⟩), .int .i32 v] w (LaysX p (s ++ bs (nb 4 (v % 4294967296).toNat)) w) := by
  have C := hid (xwu32_any p s (v % 4294967296).toNat w h (by omega) hl)
  have hw : IntKind.u32.wrap v = ((v % 4294967296).toNat : Int) := by rw [IntKind.wrap_u32]; omega
  generalize (v % 4294967296).toNat = V at *
  go_enter Tryz.func31, Tryz.ntmps31
  go_wp2_with fail
  refine C.out.mono ?_
  rintro e w' ⟨rfl, hx, hc⟩
  have HX := hid hx
  have HC := hid hc
  clear hx hc
  go_wp2_with fail
  go_end0
  exact ⟨rfl, HX.out, HC.out⟩
set_option maxHeartbeats 400000 in
set_option maxRecDepth 20000 in
theorem xwi64_any (p : Nat) (s : ByteArray) (v : Int) (w : World) (h : WX w p s) (hl : s.size ≤ 9223372036854775000) :
    Calls Tryz.prog 26 #[.pointer (some ⟨p, 0, none⟩), .int .i64 v] w (LaysX p (s ++ bs (nb 8 (v % 18446744073709551616).toNat)) w) := by
  have C := hid (xwu64_any p s (v % 18446744073709551616).toNat w h (by omega) hl)
  have hw : IntKind.u64.wrap v = ((v % 18446744073709551616).toNat : Int) := by rw [IntKind.wrap_u64]; omega
  generalize (v % 18446744073709551616).toNat = V at *
  go_enter Tryz.func26, Tryz.ntmps26
  go_wp2_with fail
  refine C.out.mono ?_
  rintro e w' ⟨rfl, hx, hc⟩
  have HX := hid hx
  have HC := hid hc
  clear hx hc
  go_wp2_with fail
  go_end0
  exact ⟨rfl, HX.out, HC.out⟩
end Go.Proofs.YtgdaaohlongmlaaGreat
