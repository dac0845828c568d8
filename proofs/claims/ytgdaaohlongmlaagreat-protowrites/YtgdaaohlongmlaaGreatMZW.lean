/- Texts of the proof, put together: Zw1, Zw2, Zw3, Zw4, Zwa. -/
import Derived.Test.YtgdaaohlongmlaaGreatMPS
import Derived.Test.YtgdaaohlongmlaaGreatMWX
namespace Go.Proofs.YtgdaaohlongmlaaGreat
open Go.RowKit
theorem norm_ws (l m : List Nat) : bs l ++ bs m = bs (l ++ m) := (bs_app l m).symm
theorem zu8_any (p : Nat) (L : List Nat) (V : Nat) (w : World) (h : WX w p (bs L)) (hV : V < 256) (hl : L.length ≤ 2000000000) :
    Calls Tryz.prog 24 #[.pointer (some ⟨p, 0, none⟩), .int .u8 V] w (LaysX p (bs (L ++ nb 1 V)) w) := by
  have C := xwu8_any p (bs L) V w h hV (by rw [size_bs]; omega)
  rw [norm_ws, show [V] = nb 1 V by simp [nb]; omega] at C
  exact C
theorem zu32_any (p : Nat) (L : List Nat) (V : Nat) (w : World) (h : WX w p (bs L)) (hV : V < 4294967296) (hl : L.length ≤ 2000000000) :
    Calls Tryz.prog 62 #[.pointer (some ⟨p, 0, none⟩), .int .u32 V] w (LaysX p (bs (L ++ nb 4 V)) w) := by
  have C := xwu32_any p (bs L) V w h hV (by rw [size_bs]; omega)
  rw [norm_ws] at C
  exact C
theorem zi32_any (p : Nat) (L : List Nat) (v : Int) (w : World) (h : WX w p (bs L)) (h0 : 0 ≤ v) (h1 : v ≤ 2147483647) (hl : L.length ≤ 2000000000) :
    Calls Tryz.prog 31 #[.pointer (some ⟨p, 0, none⟩), .int .i32 v] w (LaysX p (bs (L ++ nb 4 v.toNat)) w) := by
  have C := xwi32_any p (bs L) v w h (by rw [size_bs]; omega)
  rw [norm_ws, show v % 4294967296 = v by omega] at C
  exact C
theorem zi64_any (p : Nat) (L : List Nat) (v : Int) (w : World) (h : WX w p (bs L)) (hl : L.length ≤ 2000000000) :
    Calls Tryz.prog 26 #[.pointer (some ⟨p, 0, none⟩), .int .i64 v] w (LaysX p (bs (L ++ nb 8 (un v))) w) := by
  have C := xwi64_any p (bs L) v w h (by rw [size_bs]; omega)
  rw [norm_ws] at C
  exact C
theorem zraw_any (p : Nat) (L : List Nat) (t : ByteArray) (w : World) (h : WX w p (bs L)) (hl : L.length + t.size ≤ 9223372036854775807) :
    Calls Tryz.prog 63 #[.pointer (some ⟨p, 0, none⟩), .string t] w (LaysX p (bs (L ++ bl t)) w) := by
  have C := xwraw_any p (bs L) t w h (by rw [size_bs]; exact hl)
  rw [show bs L ++ t = bs (L ++ bl t) by rw [bs_app, bs_bl]] at C
  exact C
theorem LaysX.tr {p : Nat} {a b c : World} (h : Ch (fun i => i = p) a b) (k : Ch (fun i => i = p) b c) : Ch (fun i => i = p) a c := h.trans k
set_option maxHeartbeats 1000000 in
theorem zdata_any (p : Nat) (L : List Nat) (t : ByteArray) (w : World) (h : WX w p (bs L)) (ht : t.size ≤ 1073741824) (hl : L.length ≤ 1000) :
    Calls Tryz.prog 25 #[.pointer (some ⟨p, 0, none⟩), .string t] w (LaysX p (bs (L ++ (nb 4 t.size ++ bl t))) w) := by
  have hw : IntKind.u32.wrap (t.size : Int) = t.size := by rw [IntKind.wrap_u32]; omega
  have C := hid (zu32_any p L t.size w h (by omega) (by omega))
  have C2 := hid (fun w1 h1 => zraw_any p (L ++ nb 4 t.size) t w1 h1 (by rw [List.length_append, nb_len]; omega))
  clear h
  go_enter Tryz.func25, Tryz.ntmps25
  go_wp2_with fail
  refine C.out.mono ?_
  rintro e w1 ⟨rfl, h1, hc1⟩
  go_wp2_with fail
  refine (C2.out w1 h1).mono ?_
  rintro e w2 ⟨rfl, h2, hc2⟩
  go_wp2_with fail
  go_end0
  rw [List.append_assoc] at h2
  exact ⟨rfl, h2, hc1.trans hc2⟩
theorem xknown_yes (v : Int) (w : World) (h : 1 ≤ v ∧ v ≤ 6) :
    Calls Tryz.prog 22 #[.int .i64 v] w fun e w' => e = .returned (.bool true) ∧ w' = w := by
  obtain ⟨h1, h2⟩ := h
  go_enter Tryz.func22, Tryz.ntmps22
  go_wp2
  go_ret
  exact ⟨rfl, rfl⟩
theorem xknown_no (v : Int) (w : World) (h : ¬ (1 ≤ v ∧ v ≤ 6)) :
    Calls Tryz.prog 22 #[.int .i64 v] w fun e w' => e = .returned (.bool false) ∧ w' = w := by
  by_cases h1 : 1 ≤ v
  · have h2 : ¬ v ≤ 6 := fun h3 => h ⟨h1, h3⟩
    go_enter Tryz.func22, Tryz.ntmps22
    go_wp2
    go_ret
    exact ⟨rfl, rfl⟩
  · go_enter Tryz.func22, Tryz.ntmps22
    go_wp2
    go_ret
    exact ⟨rfl, rfl⟩
end Go.Proofs.YtgdaaohlongmlaaGreat
namespace Go.Proofs.YtgdaaohlongmlaaGreat
open Go.RowKit
set_option maxHeartbeats 1000000 in
set_option maxRecDepth 20000 in
theorem zask_1 (d : ByteArray) (o t m : Int) (w : World) (hd : d.size ≤ 16777216) :
    Calls Tryz.prog 7 #[.agg #[.int .i64 1, .string d, .int .i64 o, .int .i64 t, .int .i64 m]] w fun e w' => e = .returned (.tuple #[.string (bs (([] ++ nb 1 1) ++ (nb 4 d.size ++ bl d))), .int .i64 0]) ∧ Below w.heap.size w w' := by
  have hdl : ¬ (16777216 : Int) < (d.size : Int) := by omega
  have g1 : (w.alloc (.cells #[.int .i64 1, .string d, .int .i64 o, .int .i64 t, .int .i64 m] 24)).heap[w.heap.size]? = some (.cells #[.int .i64 1, .string d, .int .i64 o, .int .i64 t, .int .i64 m] 24 (0, 0)) := heap_new _ _
  have b1 : Below w.heap.size w (w.alloc (.cells #[.int .i64 1, .string d, .int .i64 o, .int .i64 t, .int .i64 m] 24)) := (Below.refl _ _).alloc (Nat.le_refl _) _
  go_enter Tryz.func7, Tryz.ntmps7
  go_wp2_with fail
  generalize w.alloc (.cells #[.int .i64 1, .string d, .int .i64 o, .int .i64 t, .int .i64 m] 24) = w1 at *
  refine (xknown_yes _ w1 (by omega)).mono ?_
  rintro e w1 ⟨rfl, rfl⟩
  have c0 : w1.cell? ⟨w.heap.size, 0, none⟩ = some (.int .i64 1) := (cell_of g1).trans rfl
  have c1 : w1.cell? ⟨w.heap.size, 1, none⟩ = some (.string d) := (cell_of g1).trans rfl
  have c2 : w1.cell? ⟨w.heap.size, 2, none⟩ = some (.int .i64 o) := (cell_of g1).trans rfl
  have c3 : w1.cell? ⟨w.heap.size, 3, none⟩ = some (.int .i64 t) := (cell_of g1).trans rfl
  have c4 : w1.cell? ⟨w.heap.size, 4, none⟩ = some (.int .i64 m) := (cell_of g1).trans rfl
  have hlt := lt_of_heap g1
  have G1 := hid g1
  have B1 := hid b1
  clear g1 b1
  go_wp2_with fail
  refine (xnewwriter_any w1).mono ?_
  rintro e w2 ⟨rfl, rfl⟩
  have h2 : WX (w1.alloc (.cells #[.string ⟨#[]⟩] 101)) w1.heap.size (bs []) := heap_new _ _
  have g2 : (w1.alloc (.cells #[.string ⟨#[]⟩] 101)).heap[w.heap.size]? = some (.cells #[.int .i64 1, .string d, .int .i64 o, .int .i64 t, .int .i64 m] 24 (0, 0)) := heap_alloc_at G1.out
  have b2 : Below w.heap.size w (w1.alloc (.cells #[.string ⟨#[]⟩] 101)) := B1.out.alloc B1.out.size _
  have hne : w.heap.size ≠ w1.heap.size ∧ w.heap.size ≤ w1.heap.size := by omega
  clear G1 B1 hlt
  clear c0 c1 c2 c3 c4
  have G2 := hid g2
  have B2 := hid b2
  have H2 := hid h2
  clear g2 b2 h2
  have c0 : (w1.alloc (.cells #[.string ⟨#[]⟩] 101)).cell? ⟨w.heap.size, 0, none⟩ = some (.int .i64 1) := (cell_of G2.out).trans rfl
  have c1 : (w1.alloc (.cells #[.string ⟨#[]⟩] 101)).cell? ⟨w.heap.size, 1, none⟩ = some (.string d) := (cell_of G2.out).trans rfl
  have c2 : (w1.alloc (.cells #[.string ⟨#[]⟩] 101)).cell? ⟨w.heap.size, 2, none⟩ = some (.int .i64 o) := (cell_of G2.out).trans rfl
  have c3 : (w1.alloc (.cells #[.string ⟨#[]⟩] 101)).cell? ⟨w.heap.size, 3, none⟩ = some (.int .i64 t) := (cell_of G2.out).trans rfl
  have c4 : (w1.alloc (.cells #[.string ⟨#[]⟩] 101)).cell? ⟨w.heap.size, 4, none⟩ = some (.int .i64 m) := (cell_of G2.out).trans rfl
  go_wp2_with fail
  generalize (w1.alloc (.cells #[.string ⟨#[]⟩] 101)) = w2 at *
  generalize w1.heap.size = p at *
  refine (zu8_any p [] 1 w2 H2.out (by omega) (by simp)).mono ?_
  rintro e w3 ⟨rfl, h3, hc3⟩
  have g3 : w3.heap[w.heap.size]? = _ := (hc3.block _ (lt_of_heap G2.out) hne.1).trans G2.out
  have b3 : Below w.heap.size w w3 := B2.out.trans (hc3.below B2.out.size (fun i hi h => by omega))
  clear hc3 G2 B2 H2
  clear c0 c1 c2 c3 c4
  have G3 := hid g3
  have B3 := hid b3
  have H3 := hid h3
  clear g3 b3 h3
  have c0 : w3.cell? ⟨w.heap.size, 0, none⟩ = some (.int .i64 1) := (cell_of G3.out).trans rfl
  have c1 : w3.cell? ⟨w.heap.size, 1, none⟩ = some (.string d) := (cell_of G3.out).trans rfl
  have c2 : w3.cell? ⟨w.heap.size, 2, none⟩ = some (.int .i64 o) := (cell_of G3.out).trans rfl
  have c3 : w3.cell? ⟨w.heap.size, 3, none⟩ = some (.int .i64 t) := (cell_of G3.out).trans rfl
  have c4 : w3.cell? ⟨w.heap.size, 4, none⟩ = some (.int .i64 m) := (cell_of G3.out).trans rfl
  go_wp2_with fail
  refine (zdata_any p ([] ++ nb 1 1) d w3 H3.out (by omega) (by simp [nb_len])).mono ?_
  rintro e w4 ⟨rfl, h4, hc4⟩
  have g4 : w4.heap[w.heap.size]? = _ := (hc4.block _ (lt_of_heap G3.out) hne.1).trans G3.out
  have b4 : Below w.heap.size w w4 := B3.out.trans (hc4.below B3.out.size (fun i hi h => by omega))
  clear hc4 G3 B3 H3
  clear c0 c1 c2 c3 c4
  have G4 := hid g4
  have B4 := hid b4
  have H4 := hid h4
  clear g4 b4 h4
  have c0 : w4.cell? ⟨w.heap.size, 0, none⟩ = some (.int .i64 1) := (cell_of G4.out).trans rfl
  have c1 : w4.cell? ⟨w.heap.size, 1, none⟩ = some (.string d) := (cell_of G4.out).trans rfl
  have c2 : w4.cell? ⟨w.heap.size, 2, none⟩ = some (.int .i64 o) := (cell_of G4.out).trans rfl
  have c3 : w4.cell? ⟨w.heap.size, 3, none⟩ = some (.int .i64 t) := (cell_of G4.out).trans rfl
  have c4 : w4.cell? ⟨w.heap.size, 4, none⟩ = some (.int .i64 m) := (cell_of G4.out).trans rfl
  go_wp2_with fail
  refine (xwbytes_any p _ w4 H4.out).mono ?_
  rintro e w5 ⟨rfl, rfl⟩
  go_wp2_with fail
  go_ret2
  exact ⟨rfl, B4.out⟩
set_option maxHeartbeats 1000000 in
set_option maxRecDepth 20000 in
theorem zask_2 (d : ByteArray) (o t m : Int) (w : World) :
    Calls Tryz.prog 7 #[.agg #[.int .i64 2, .string d, .int .i64 o, .int .i64 t, .int .i64 m]] w fun e w' => e = .returned (.tuple #[.string (bs ((([] ++ nb 1 2) ++ nb 8 (un o)) ++ nb 8 (un m))), .int .i64 0]) ∧ Below w.heap.size w w' := by
  have g1 : (w.alloc (.cells #[.int .i64 2, .string d, .int .i64 o, .int .i64 t, .int .i64 m] 24)).heap[w.heap.size]? = some (.cells #[.int .i64 2, .string d, .int .i64 o, .int .i64 t, .int .i64 m] 24 (0, 0)) := heap_new _ _
  have b1 : Below w.heap.size w (w.alloc (.cells #[.int .i64 2, .string d, .int .i64 o, .int .i64 t, .int .i64 m] 24)) := (Below.refl _ _).alloc (Nat.le_refl _) _
  go_enter Tryz.func7, Tryz.ntmps7
  go_wp2_with fail
  generalize w.alloc (.cells #[.int .i64 2, .string d, .int .i64 o, .int .i64 t, .int .i64 m] 24) = w1 at *
  refine (xknown_yes _ w1 (by omega)).mono ?_
  rintro e w1 ⟨rfl, rfl⟩
  have c0 : w1.cell? ⟨w.heap.size, 0, none⟩ = some (.int .i64 2) := (cell_of g1).trans rfl
  have c1 : w1.cell? ⟨w.heap.size, 1, none⟩ = some (.string d) := (cell_of g1).trans rfl
  have c2 : w1.cell? ⟨w.heap.size, 2, none⟩ = some (.int .i64 o) := (cell_of g1).trans rfl
  have c3 : w1.cell? ⟨w.heap.size, 3, none⟩ = some (.int .i64 t) := (cell_of g1).trans rfl
  have c4 : w1.cell? ⟨w.heap.size, 4, none⟩ = some (.int .i64 m) := (cell_of g1).trans rfl
  have hlt := lt_of_heap g1
  have G1 := hid g1
  have B1 := hid b1
  clear g1 b1
  go_wp2_with fail
  refine (xnewwriter_any w1).mono ?_
  rintro e w2 ⟨rfl, rfl⟩
  have h2 : WX (w1.alloc (.cells #[.string ⟨#[]⟩] 101)) w1.heap.size (bs []) := heap_new _ _
  have g2 : (w1.alloc (.cells #[.string ⟨#[]⟩] 101)).heap[w.heap.size]? = some (.cells #[.int .i64 2, .string d, .int .i64 o, .int .i64 t, .int .i64 m] 24 (0, 0)) := heap_alloc_at G1.out
  have b2 : Below w.heap.size w (w1.alloc (.cells #[.string ⟨#[]⟩] 101)) := B1.out.alloc B1.out.size _
  have hne : w.heap.size ≠ w1.heap.size ∧ w.heap.size ≤ w1.heap.size := by omega
  clear G1 B1 hlt
  clear c0 c1 c2 c3 c4
  have G2 := hid g2
  have B2 := hid b2
  have H2 := hid h2
  clear g2 b2 h2
  have c0 : (w1.alloc (.cells #[.string ⟨#[]⟩] 101)).cell? ⟨w.heap.size, 0, none⟩ = some (.int .i64 2) := (cell_of G2.out).trans rfl
  have c1 : (w1.alloc (.cells #[.string ⟨#[]⟩] 101)).cell? ⟨w.heap.size, 1, none⟩ = some (.string d) := (cell_of G2.out).trans rfl
  have c2 : (w1.alloc (.cells #[.string ⟨#[]⟩] 101)).cell? ⟨w.heap.size, 2, none⟩ = some (.int .i64 o) := (cell_of G2.out).trans rfl
  have c3 : (w1.alloc (.cells #[.string ⟨#[]⟩] 101)).cell? ⟨w.heap.size, 3, none⟩ = some (.int .i64 t) := (cell_of G2.out).trans rfl
  have c4 : (w1.alloc (.cells #[.string ⟨#[]⟩] 101)).cell? ⟨w.heap.size, 4, none⟩ = some (.int .i64 m) := (cell_of G2.out).trans rfl
  go_wp2_with fail
  generalize (w1.alloc (.cells #[.string ⟨#[]⟩] 101)) = w2 at *
  generalize w1.heap.size = p at *
  refine (zu8_any p [] 2 w2 H2.out (by omega) (by simp)).mono ?_
  rintro e w3 ⟨rfl, h3, hc3⟩
  have g3 : w3.heap[w.heap.size]? = _ := (hc3.block _ (lt_of_heap G2.out) hne.1).trans G2.out
  have b3 : Below w.heap.size w w3 := B2.out.trans (hc3.below B2.out.size (fun i hi h => by omega))
  clear hc3 G2 B2 H2
  clear c0 c1 c2 c3 c4
  have G3 := hid g3
  have B3 := hid b3
  have H3 := hid h3
  clear g3 b3 h3
  have c0 : w3.cell? ⟨w.heap.size, 0, none⟩ = some (.int .i64 2) := (cell_of G3.out).trans rfl
  have c1 : w3.cell? ⟨w.heap.size, 1, none⟩ = some (.string d) := (cell_of G3.out).trans rfl
  have c2 : w3.cell? ⟨w.heap.size, 2, none⟩ = some (.int .i64 o) := (cell_of G3.out).trans rfl
  have c3 : w3.cell? ⟨w.heap.size, 3, none⟩ = some (.int .i64 t) := (cell_of G3.out).trans rfl
  have c4 : w3.cell? ⟨w.heap.size, 4, none⟩ = some (.int .i64 m) := (cell_of G3.out).trans rfl
  go_wp2_with fail
  refine (zi64_any p ([] ++ nb 1 2) o w3 H3.out (by simp [nb_len])).mono ?_
  rintro e w4 ⟨rfl, h4, hc4⟩
  have g4 : w4.heap[w.heap.size]? = _ := (hc4.block _ (lt_of_heap G3.out) hne.1).trans G3.out
  have b4 : Below w.heap.size w w4 := B3.out.trans (hc4.below B3.out.size (fun i hi h => by omega))
  clear hc4 G3 B3 H3
  clear c0 c1 c2 c3 c4
  have G4 := hid g4
  have B4 := hid b4
  have H4 := hid h4
  clear g4 b4 h4
  have c0 : w4.cell? ⟨w.heap.size, 0, none⟩ = some (.int .i64 2) := (cell_of G4.out).trans rfl
  have c1 : w4.cell? ⟨w.heap.size, 1, none⟩ = some (.string d) := (cell_of G4.out).trans rfl
  have c2 : w4.cell? ⟨w.heap.size, 2, none⟩ = some (.int .i64 o) := (cell_of G4.out).trans rfl
  have c3 : w4.cell? ⟨w.heap.size, 3, none⟩ = some (.int .i64 t) := (cell_of G4.out).trans rfl
  have c4 : w4.cell? ⟨w.heap.size, 4, none⟩ = some (.int .i64 m) := (cell_of G4.out).trans rfl
  go_wp2_with fail
  refine (zi64_any p (([] ++ nb 1 2) ++ nb 8 (un o)) m w4 H4.out (by simp [nb_len])).mono ?_
  rintro e w5 ⟨rfl, h5, hc5⟩
  have g5 : w5.heap[w.heap.size]? = _ := (hc5.block _ (lt_of_heap G4.out) hne.1).trans G4.out
  have b5 : Below w.heap.size w w5 := B4.out.trans (hc5.below B4.out.size (fun i hi h => by omega))
  clear hc5 G4 B4 H4
  clear c0 c1 c2 c3 c4
  have G5 := hid g5
  have B5 := hid b5
  have H5 := hid h5
  clear g5 b5 h5
  have c0 : w5.cell? ⟨w.heap.size, 0, none⟩ = some (.int .i64 2) := (cell_of G5.out).trans rfl
  have c1 : w5.cell? ⟨w.heap.size, 1, none⟩ = some (.string d) := (cell_of G5.out).trans rfl
  have c2 : w5.cell? ⟨w.heap.size, 2, none⟩ = some (.int .i64 o) := (cell_of G5.out).trans rfl
  have c3 : w5.cell? ⟨w.heap.size, 3, none⟩ = some (.int .i64 t) := (cell_of G5.out).trans rfl
  have c4 : w5.cell? ⟨w.heap.size, 4, none⟩ = some (.int .i64 m) := (cell_of G5.out).trans rfl
  go_wp2_with fail
  refine (xwbytes_any p _ w5 H5.out).mono ?_
  rintro e w6 ⟨rfl, rfl⟩
  go_wp2_with fail
  go_ret2
  exact ⟨rfl, B5.out⟩
set_option maxHeartbeats 1000000 in
set_option maxRecDepth 20000 in
theorem zask_3 (d : ByteArray) (o t m : Int) (w : World) :
    Calls Tryz.prog 7 #[.agg #[.int .i64 3, .string d, .int .i64 o, .int .i64 t, .int .i64 m]] w fun e w' => e = .returned (.tuple #[.string (bs (([] ++ nb 1 3) ++ nb 8 (un t))), .int .i64 0]) ∧ Below w.heap.size w w' := by
  have g1 : (w.alloc (.cells #[.int .i64 3, .string d, .int .i64 o, .int .i64 t, .int .i64 m] 24)).heap[w.heap.size]? = some (.cells #[.int .i64 3, .string d, .int .i64 o, .int .i64 t, .int .i64 m] 24 (0, 0)) := heap_new _ _
  have b1 : Below w.heap.size w (w.alloc (.cells #[.int .i64 3, .string d, .int .i64 o, .int .i64 t, .int .i64 m] 24)) := (Below.refl _ _).alloc (Nat.le_refl _) _
  go_enter Tryz.func7, Tryz.ntmps7
  go_wp2_with fail
  generalize w.alloc (.cells #[.int .i64 3, .string d, .int .i64 o, .int .i64 t, .int .i64 m] 24) = w1 at *
  refine (xknown_yes _ w1 (by omega)).mono ?_
  rintro e w1 ⟨rfl, rfl⟩
  have c0 : w1.cell? ⟨w.heap.size, 0, none⟩ = some (.int .i64 3) := (cell_of g1).trans rfl
  have c1 : w1.cell? ⟨w.heap.size, 1, none⟩ = some (.string d) := (cell_of g1).trans rfl
  have c2 : w1.cell? ⟨w.heap.size, 2, none⟩ = some (.int .i64 o) := (cell_of g1).trans rfl
  have c3 : w1.cell? ⟨w.heap.size, 3, none⟩ = some (.int .i64 t) := (cell_of g1).trans rfl
  have c4 : w1.cell? ⟨w.heap.size, 4, none⟩ = some (.int .i64 m) := (cell_of g1).trans rfl
  have hlt := lt_of_heap g1
  have G1 := hid g1
  have B1 := hid b1
  clear g1 b1
  go_wp2_with fail
  refine (xnewwriter_any w1).mono ?_
  rintro e w2 ⟨rfl, rfl⟩
  have h2 : WX (w1.alloc (.cells #[.string ⟨#[]⟩] 101)) w1.heap.size (bs []) := heap_new _ _
  have g2 : (w1.alloc (.cells #[.string ⟨#[]⟩] 101)).heap[w.heap.size]? = some (.cells #[.int .i64 3, .string d, .int .i64 o, .int .i64 t, .int .i64 m] 24 (0, 0)) := heap_alloc_at G1.out
  have b2 : Below w.heap.size w (w1.alloc (.cells #[.string ⟨#[]⟩] 101)) := B1.out.alloc B1.out.size _
  have hne : w.heap.size ≠ w1.heap.size ∧ w.heap.size ≤ w1.heap.size := by omega
  clear G1 B1 hlt
  clear c0 c1 c2 c3 c4
  have G2 := hid g2
  have B2 := hid b2
  have H2 := hid h2
  clear g2 b2 h2
  have c0 : (w1.alloc (.cells #[.string ⟨#[]⟩] 101)).cell? ⟨w.heap.size, 0, none⟩ = some (.int .i64 3) := (cell_of G2.out).trans rfl
  have c1 : (w1.alloc (.cells #[.string ⟨#[]⟩] 101)).cell? ⟨w.heap.size, 1, none⟩ = some (.string d) := (cell_of G2.out).trans rfl
  have c2 : (w1.alloc (.cells #[.string ⟨#[]⟩] 101)).cell? ⟨w.heap.size, 2, none⟩ = some (.int .i64 o) := (cell_of G2.out).trans rfl
  have c3 : (w1.alloc (.cells #[.string ⟨#[]⟩] 101)).cell? ⟨w.heap.size, 3, none⟩ = some (.int .i64 t) := (cell_of G2.out).trans rfl
  have c4 : (w1.alloc (.cells #[.string ⟨#[]⟩] 101)).cell? ⟨w.heap.size, 4, none⟩ = some (.int .i64 m) := (cell_of G2.out).trans rfl
  go_wp2_with fail
  generalize (w1.alloc (.cells #[.string ⟨#[]⟩] 101)) = w2 at *
  generalize w1.heap.size = p at *
  refine (zu8_any p [] 3 w2 H2.out (by omega) (by simp)).mono ?_
  rintro e w3 ⟨rfl, h3, hc3⟩
  have g3 : w3.heap[w.heap.size]? = _ := (hc3.block _ (lt_of_heap G2.out) hne.1).trans G2.out
  have b3 : Below w.heap.size w w3 := B2.out.trans (hc3.below B2.out.size (fun i hi h => by omega))
  clear hc3 G2 B2 H2
  clear c0 c1 c2 c3 c4
  have G3 := hid g3
  have B3 := hid b3
  have H3 := hid h3
  clear g3 b3 h3
  have c0 : w3.cell? ⟨w.heap.size, 0, none⟩ = some (.int .i64 3) := (cell_of G3.out).trans rfl
  have c1 : w3.cell? ⟨w.heap.size, 1, none⟩ = some (.string d) := (cell_of G3.out).trans rfl
  have c2 : w3.cell? ⟨w.heap.size, 2, none⟩ = some (.int .i64 o) := (cell_of G3.out).trans rfl
  have c3 : w3.cell? ⟨w.heap.size, 3, none⟩ = some (.int .i64 t) := (cell_of G3.out).trans rfl
  have c4 : w3.cell? ⟨w.heap.size, 4, none⟩ = some (.int .i64 m) := (cell_of G3.out).trans rfl
  go_wp2_with fail
  refine (zi64_any p ([] ++ nb 1 3) t w3 H3.out (by simp [nb_len])).mono ?_
  rintro e w4 ⟨rfl, h4, hc4⟩
  have g4 : w4.heap[w.heap.size]? = _ := (hc4.block _ (lt_of_heap G3.out) hne.1).trans G3.out
  have b4 : Below w.heap.size w w4 := B3.out.trans (hc4.below B3.out.size (fun i hi h => by omega))
  clear hc4 G3 B3 H3
  clear c0 c1 c2 c3 c4
  have G4 := hid g4
  have B4 := hid b4
  have H4 := hid h4
  clear g4 b4 h4
  have c0 : w4.cell? ⟨w.heap.size, 0, none⟩ = some (.int .i64 3) := (cell_of G4.out).trans rfl
  have c1 : w4.cell? ⟨w.heap.size, 1, none⟩ = some (.string d) := (cell_of G4.out).trans rfl
  have c2 : w4.cell? ⟨w.heap.size, 2, none⟩ = some (.int .i64 o) := (cell_of G4.out).trans rfl
  have c3 : w4.cell? ⟨w.heap.size, 3, none⟩ = some (.int .i64 t) := (cell_of G4.out).trans rfl
  have c4 : w4.cell? ⟨w.heap.size, 4, none⟩ = some (.int .i64 m) := (cell_of G4.out).trans rfl
  go_wp2_with fail
  refine (xwbytes_any p _ w4 H4.out).mono ?_
  rintro e w5 ⟨rfl, rfl⟩
  go_wp2_with fail
  go_ret2
  exact ⟨rfl, B4.out⟩
set_option maxHeartbeats 1000000 in
set_option maxRecDepth 20000 in
theorem zask_4 (d : ByteArray) (o t m : Int) (w : World) :
    Calls Tryz.prog 7 #[.agg #[.int .i64 4, .string d, .int .i64 o, .int .i64 t, .int .i64 m]] w fun e w' => e = .returned (.tuple #[.string (bs ([] ++ nb 1 4)), .int .i64 0]) ∧ Below w.heap.size w w' := by
  have g1 : (w.alloc (.cells #[.int .i64 4, .string d, .int .i64 o, .int .i64 t, .int .i64 m] 24)).heap[w.heap.size]? = some (.cells #[.int .i64 4, .string d, .int .i64 o, .int .i64 t, .int .i64 m] 24 (0, 0)) := heap_new _ _
  have b1 : Below w.heap.size w (w.alloc (.cells #[.int .i64 4, .string d, .int .i64 o, .int .i64 t, .int .i64 m] 24)) := (Below.refl _ _).alloc (Nat.le_refl _) _
  go_enter Tryz.func7, Tryz.ntmps7
  go_wp2_with fail
  generalize w.alloc (.cells #[.int .i64 4, .string d, .int .i64 o, .int .i64 t, .int .i64 m] 24) = w1 at *
  refine (xknown_yes _ w1 (by omega)).mono ?_
  rintro e w1 ⟨rfl, rfl⟩
  have c0 : w1.cell? ⟨w.heap.size, 0, none⟩ = some (.int .i64 4) := (cell_of g1).trans rfl
  have c1 : w1.cell? ⟨w.heap.size, 1, none⟩ = some (.string d) := (cell_of g1).trans rfl
  have c2 : w1.cell? ⟨w.heap.size, 2, none⟩ = some (.int .i64 o) := (cell_of g1).trans rfl
  have c3 : w1.cell? ⟨w.heap.size, 3, none⟩ = some (.int .i64 t) := (cell_of g1).trans rfl
  have c4 : w1.cell? ⟨w.heap.size, 4, none⟩ = some (.int .i64 m) := (cell_of g1).trans rfl
  have hlt := lt_of_heap g1
  have G1 := hid g1
  have B1 := hid b1
  clear g1 b1
  go_wp2_with fail
  refine (xnewwriter_any w1).mono ?_
  rintro e w2 ⟨rfl, rfl⟩
  have h2 : WX (w1.alloc (.cells #[.string ⟨#[]⟩] 101)) w1.heap.size (bs []) := heap_new _ _
  have g2 : (w1.alloc (.cells #[.string ⟨#[]⟩] 101)).heap[w.heap.size]? = some (.cells #[.int .i64 4, .string d, .int .i64 o, .int .i64 t, .int .i64 m] 24 (0, 0)) := heap_alloc_at G1.out
  have b2 : Below w.heap.size w (w1.alloc (.cells #[.string ⟨#[]⟩] 101)) := B1.out.alloc B1.out.size _
  have hne : w.heap.size ≠ w1.heap.size ∧ w.heap.size ≤ w1.heap.size := by omega
  clear G1 B1 hlt
  clear c0 c1 c2 c3 c4
  have G2 := hid g2
  have B2 := hid b2
  have H2 := hid h2
  clear g2 b2 h2
  have c0 : (w1.alloc (.cells #[.string ⟨#[]⟩] 101)).cell? ⟨w.heap.size, 0, none⟩ = some (.int .i64 4) := (cell_of G2.out).trans rfl
  have c1 : (w1.alloc (.cells #[.string ⟨#[]⟩] 101)).cell? ⟨w.heap.size, 1, none⟩ = some (.string d) := (cell_of G2.out).trans rfl
  have c2 : (w1.alloc (.cells #[.string ⟨#[]⟩] 101)).cell? ⟨w.heap.size, 2, none⟩ = some (.int .i64 o) := (cell_of G2.out).trans rfl
  have c3 : (w1.alloc (.cells #[.string ⟨#[]⟩] 101)).cell? ⟨w.heap.size, 3, none⟩ = some (.int .i64 t) := (cell_of G2.out).trans rfl
  have c4 : (w1.alloc (.cells #[.string ⟨#[]⟩] 101)).cell? ⟨w.heap.size, 4, none⟩ = some (.int .i64 m) := (cell_of G2.out).trans rfl
  go_wp2_with fail
  generalize (w1.alloc (.cells #[.string ⟨#[]⟩] 101)) = w2 at *
  generalize w1.heap.size = p at *
  refine (zu8_any p [] 4 w2 H2.out (by omega) (by simp)).mono ?_
  rintro e w3 ⟨rfl, h3, hc3⟩
  have g3 : w3.heap[w.heap.size]? = _ := (hc3.block _ (lt_of_heap G2.out) hne.1).trans G2.out
  have b3 : Below w.heap.size w w3 := B2.out.trans (hc3.below B2.out.size (fun i hi h => by omega))
  clear hc3 G2 B2 H2
  clear c0 c1 c2 c3 c4
  have G3 := hid g3
  have B3 := hid b3
  have H3 := hid h3
  clear g3 b3 h3
  have c0 : w3.cell? ⟨w.heap.size, 0, none⟩ = some (.int .i64 4) := (cell_of G3.out).trans rfl
  have c1 : w3.cell? ⟨w.heap.size, 1, none⟩ = some (.string d) := (cell_of G3.out).trans rfl
  have c2 : w3.cell? ⟨w.heap.size, 2, none⟩ = some (.int .i64 o) := (cell_of G3.out).trans rfl
  have c3 : w3.cell? ⟨w.heap.size, 3, none⟩ = some (.int .i64 t) := (cell_of G3.out).trans rfl
  have c4 : w3.cell? ⟨w.heap.size, 4, none⟩ = some (.int .i64 m) := (cell_of G3.out).trans rfl
  go_wp2_with fail
  refine (xwbytes_any p _ w3 H3.out).mono ?_
  rintro e w4 ⟨rfl, rfl⟩
  go_wp2_with fail
  go_ret2
  exact ⟨rfl, B3.out⟩
set_option maxHeartbeats 1000000 in
set_option maxRecDepth 20000 in
theorem zask_5 (d : ByteArray) (o t m : Int) (w : World) :
    Calls Tryz.prog 7 #[.agg #[.int .i64 5, .string d, .int .i64 o, .int .i64 t, .int .i64 m]] w fun e w' => e = .returned (.tuple #[.string (bs (([] ++ nb 1 5) ++ nb 8 (un o))), .int .i64 0]) ∧ Below w.heap.size w w' := by
  have g1 : (w.alloc (.cells #[.int .i64 5, .string d, .int .i64 o, .int .i64 t, .int .i64 m] 24)).heap[w.heap.size]? = some (.cells #[.int .i64 5, .string d, .int .i64 o, .int .i64 t, .int .i64 m] 24 (0, 0)) := heap_new _ _
  have b1 : Below w.heap.size w (w.alloc (.cells #[.int .i64 5, .string d, .int .i64 o, .int .i64 t, .int .i64 m] 24)) := (Below.refl _ _).alloc (Nat.le_refl _) _
  go_enter Tryz.func7, Tryz.ntmps7
  go_wp2_with fail
  generalize w.alloc (.cells #[.int .i64 5, .string d, .int .i64 o, .int .i64 t, .int .i64 m] 24) = w1 at *
  refine (xknown_yes _ w1 (by omega)).mono ?_
  rintro e w1 ⟨rfl, rfl⟩
  have c0 : w1.cell? ⟨w.heap.size, 0, none⟩ = some (.int .i64 5) := (cell_of g1).trans rfl
  have c1 : w1.cell? ⟨w.heap.size, 1, none⟩ = some (.string d) := (cell_of g1).trans rfl
  have c2 : w1.cell? ⟨w.heap.size, 2, none⟩ = some (.int .i64 o) := (cell_of g1).trans rfl
  have c3 : w1.cell? ⟨w.heap.size, 3, none⟩ = some (.int .i64 t) := (cell_of g1).trans rfl
  have c4 : w1.cell? ⟨w.heap.size, 4, none⟩ = some (.int .i64 m) := (cell_of g1).trans rfl
  have hlt := lt_of_heap g1
  have G1 := hid g1
  have B1 := hid b1
  clear g1 b1
  go_wp2_with fail
  refine (xnewwriter_any w1).mono ?_
  rintro e w2 ⟨rfl, rfl⟩
  have h2 : WX (w1.alloc (.cells #[.string ⟨#[]⟩] 101)) w1.heap.size (bs []) := heap_new _ _
  have g2 : (w1.alloc (.cells #[.string ⟨#[]⟩] 101)).heap[w.heap.size]? = some (.cells #[.int .i64 5, .string d, .int .i64 o, .int .i64 t, .int .i64 m] 24 (0, 0)) := heap_alloc_at G1.out
  have b2 : Below w.heap.size w (w1.alloc (.cells #[.string ⟨#[]⟩] 101)) := B1.out.alloc B1.out.size _
  have hne : w.heap.size ≠ w1.heap.size ∧ w.heap.size ≤ w1.heap.size := by omega
  clear G1 B1 hlt
  clear c0 c1 c2 c3 c4
  have G2 := hid g2
  have B2 := hid b2
  have H2 := hid h2
  clear g2 b2 h2
  have c0 : (w1.alloc (.cells #[.string ⟨#[]⟩] 101)).cell? ⟨w.heap.size, 0, none⟩ = some (.int .i64 5) := (cell_of G2.out).trans rfl
  have c1 : (w1.alloc (.cells #[.string ⟨#[]⟩] 101)).cell? ⟨w.heap.size, 1, none⟩ = some (.string d) := (cell_of G2.out).trans rfl
  have c2 : (w1.alloc (.cells #[.string ⟨#[]⟩] 101)).cell? ⟨w.heap.size, 2, none⟩ = some (.int .i64 o) := (cell_of G2.out).trans rfl
  have c3 : (w1.alloc (.cells #[.string ⟨#[]⟩] 101)).cell? ⟨w.heap.size, 3, none⟩ = some (.int .i64 t) := (cell_of G2.out).trans rfl
  have c4 : (w1.alloc (.cells #[.string ⟨#[]⟩] 101)).cell? ⟨w.heap.size, 4, none⟩ = some (.int .i64 m) := (cell_of G2.out).trans rfl
  go_wp2_with fail
  generalize (w1.alloc (.cells #[.string ⟨#[]⟩] 101)) = w2 at *
  generalize w1.heap.size = p at *
  refine (zu8_any p [] 5 w2 H2.out (by omega) (by simp)).mono ?_
  rintro e w3 ⟨rfl, h3, hc3⟩
  have g3 : w3.heap[w.heap.size]? = _ := (hc3.block _ (lt_of_heap G2.out) hne.1).trans G2.out
  have b3 : Below w.heap.size w w3 := B2.out.trans (hc3.below B2.out.size (fun i hi h => by omega))
  clear hc3 G2 B2 H2
  clear c0 c1 c2 c3 c4
  have G3 := hid g3
  have B3 := hid b3
  have H3 := hid h3
  clear g3 b3 h3
  have c0 : w3.cell? ⟨w.heap.size, 0, none⟩ = some (.int .i64 5) := (cell_of G3.out).trans rfl
  have c1 : w3.cell? ⟨w.heap.size, 1, none⟩ = some (.string d) := (cell_of G3.out).trans rfl
  have c2 : w3.cell? ⟨w.heap.size, 2, none⟩ = some (.int .i64 o) := (cell_of G3.out).trans rfl
  have c3 : w3.cell? ⟨w.heap.size, 3, none⟩ = some (.int .i64 t) := (cell_of G3.out).trans rfl
  have c4 : w3.cell? ⟨w.heap.size, 4, none⟩ = some (.int .i64 m) := (cell_of G3.out).trans rfl
  go_wp2_with fail
  refine (zi64_any p ([] ++ nb 1 5) o w3 H3.out (by simp [nb_len])).mono ?_
  rintro e w4 ⟨rfl, h4, hc4⟩
  have g4 : w4.heap[w.heap.size]? = _ := (hc4.block _ (lt_of_heap G3.out) hne.1).trans G3.out
  have b4 : Below w.heap.size w w4 := B3.out.trans (hc4.below B3.out.size (fun i hi h => by omega))
  clear hc4 G3 B3 H3
  clear c0 c1 c2 c3 c4
  have G4 := hid g4
  have B4 := hid b4
  have H4 := hid h4
  clear g4 b4 h4
  have c0 : w4.cell? ⟨w.heap.size, 0, none⟩ = some (.int .i64 5) := (cell_of G4.out).trans rfl
  have c1 : w4.cell? ⟨w.heap.size, 1, none⟩ = some (.string d) := (cell_of G4.out).trans rfl
  have c2 : w4.cell? ⟨w.heap.size, 2, none⟩ = some (.int .i64 o) := (cell_of G4.out).trans rfl
  have c3 : w4.cell? ⟨w.heap.size, 3, none⟩ = some (.int .i64 t) := (cell_of G4.out).trans rfl
  have c4 : w4.cell? ⟨w.heap.size, 4, none⟩ = some (.int .i64 m) := (cell_of G4.out).trans rfl
  go_wp2_with fail
  refine (xwbytes_any p _ w4 H4.out).mono ?_
  rintro e w5 ⟨rfl, rfl⟩
  go_wp2_with fail
  go_ret2
  exact ⟨rfl, B4.out⟩
set_option maxHeartbeats 1000000 in
set_option maxRecDepth 20000 in
theorem zask_6 (d : ByteArray) (o t m : Int) (w : World) :
    Calls Tryz.prog 7 #[.agg #[.int .i64 6, .string d, .int .i64 o, .int .i64 t, .int .i64 m]] w fun e w' => e = .returned (.tuple #[.string (bs ([] ++ nb 1 6)), .int .i64 0]) ∧ Below w.heap.size w w' := by
  have g1 : (w.alloc (.cells #[.int .i64 6, .string d, .int .i64 o, .int .i64 t, .int .i64 m] 24)).heap[w.heap.size]? = some (.cells #[.int .i64 6, .string d, .int .i64 o, .int .i64 t, .int .i64 m] 24 (0, 0)) := heap_new _ _
  have b1 : Below w.heap.size w (w.alloc (.cells #[.int .i64 6, .string d, .int .i64 o, .int .i64 t, .int .i64 m] 24)) := (Below.refl _ _).alloc (Nat.le_refl _) _
  go_enter Tryz.func7, Tryz.ntmps7
  go_wp2_with fail
  generalize w.alloc (.cells #[.int .i64 6, .string d, .int .i64 o, .int .i64 t, .int .i64 m] 24) = w1 at *
  refine (xknown_yes _ w1 (by omega)).mono ?_
  rintro e w1 ⟨rfl, rfl⟩
  have c0 : w1.cell? ⟨w.heap.size, 0, none⟩ = some (.int .i64 6) := (cell_of g1).trans rfl
  have c1 : w1.cell? ⟨w.heap.size, 1, none⟩ = some (.string d) := (cell_of g1).trans rfl
  have c2 : w1.cell? ⟨w.heap.size, 2, none⟩ = some (.int .i64 o) := (cell_of g1).trans rfl
  have c3 : w1.cell? ⟨w.heap.size, 3, none⟩ = some (.int .i64 t) := (cell_of g1).trans rfl
  have c4 : w1.cell? ⟨w.heap.size, 4, none⟩ = some (.int .i64 m) := (cell_of g1).trans rfl
  have hlt := lt_of_heap g1
  have G1 := hid g1
  have B1 := hid b1
  clear g1 b1
  go_wp2_with fail
  refine (xnewwriter_any w1).mono ?_
  rintro e w2 ⟨rfl, rfl⟩
  have h2 : WX (w1.alloc (.cells #[.string ⟨#[]⟩] 101)) w1.heap.size (bs []) := heap_new _ _
  have g2 : (w1.alloc (.cells #[.string ⟨#[]⟩] 101)).heap[w.heap.size]? = some (.cells #[.int .i64 6, .string d, .int .i64 o, .int .i64 t, .int .i64 m] 24 (0, 0)) := heap_alloc_at G1.out
  have b2 : Below w.heap.size w (w1.alloc (.cells #[.string ⟨#[]⟩] 101)) := B1.out.alloc B1.out.size _
  have hne : w.heap.size ≠ w1.heap.size ∧ w.heap.size ≤ w1.heap.size := by omega
  clear G1 B1 hlt
  clear c0 c1 c2 c3 c4
  have G2 := hid g2
  have B2 := hid b2
  have H2 := hid h2
  clear g2 b2 h2
  have c0 : (w1.alloc (.cells #[.string ⟨#[]⟩] 101)).cell? ⟨w.heap.size, 0, none⟩ = some (.int .i64 6) := (cell_of G2.out).trans rfl
  have c1 : (w1.alloc (.cells #[.string ⟨#[]⟩] 101)).cell? ⟨w.heap.size, 1, none⟩ = some (.string d) := (cell_of G2.out).trans rfl
  have c2 : (w1.alloc (.cells #[.string ⟨#[]⟩] 101)).cell? ⟨w.heap.size, 2, none⟩ = some (.int .i64 o) := (cell_of G2.out).trans rfl
  have c3 : (w1.alloc (.cells #[.string ⟨#[]⟩] 101)).cell? ⟨w.heap.size, 3, none⟩ = some (.int .i64 t) := (cell_of G2.out).trans rfl
  have c4 : (w1.alloc (.cells #[.string ⟨#[]⟩] 101)).cell? ⟨w.heap.size, 4, none⟩ = some (.int .i64 m) := (cell_of G2.out).trans rfl
  go_wp2_with fail
  generalize (w1.alloc (.cells #[.string ⟨#[]⟩] 101)) = w2 at *
  generalize w1.heap.size = p at *
  refine (zu8_any p [] 6 w2 H2.out (by omega) (by simp)).mono ?_
  rintro e w3 ⟨rfl, h3, hc3⟩
  have g3 : w3.heap[w.heap.size]? = _ := (hc3.block _ (lt_of_heap G2.out) hne.1).trans G2.out
  have b3 : Below w.heap.size w w3 := B2.out.trans (hc3.below B2.out.size (fun i hi h => by omega))
  clear hc3 G2 B2 H2
  clear c0 c1 c2 c3 c4
  have G3 := hid g3
  have B3 := hid b3
  have H3 := hid h3
  clear g3 b3 h3
  have c0 : w3.cell? ⟨w.heap.size, 0, none⟩ = some (.int .i64 6) := (cell_of G3.out).trans rfl
  have c1 : w3.cell? ⟨w.heap.size, 1, none⟩ = some (.string d) := (cell_of G3.out).trans rfl
  have c2 : w3.cell? ⟨w.heap.size, 2, none⟩ = some (.int .i64 o) := (cell_of G3.out).trans rfl
  have c3 : w3.cell? ⟨w.heap.size, 3, none⟩ = some (.int .i64 t) := (cell_of G3.out).trans rfl
  have c4 : w3.cell? ⟨w.heap.size, 4, none⟩ = some (.int .i64 m) := (cell_of G3.out).trans rfl
  go_wp2_with fail
  refine (xwbytes_any p _ w3 H3.out).mono ?_
  rintro e w4 ⟨rfl, rfl⟩
  go_wp2_with fail
  go_ret2
  exact ⟨rfl, B3.out⟩
set_option maxHeartbeats 1000000 in
set_option maxRecDepth 20000 in
theorem zask_long (d : ByteArray) (o t m : Int) (w : World) (hd : 16777216 < d.size) :
    Calls Tryz.prog 7 #[.agg #[.int .i64 1, .string d, .int .i64 o, .int .i64 t, .int .i64 m]] w fun e w' => e = .returned (.tuple #[.string ⟨#[]⟩, .int .i64 21]) ∧ Below w.heap.size w w' := by
  have hdl : (16777216 : Int) < (d.size : Int) := by omega
  have g1 : (w.alloc (.cells #[.int .i64 1, .string d, .int .i64 o, .int .i64 t, .int .i64 m] 24)).heap[w.heap.size]? = some (.cells #[.int .i64 1, .string d, .int .i64 o, .int .i64 t, .int .i64 m] 24 (0, 0)) := heap_new _ _
  have b1 : Below w.heap.size w (w.alloc (.cells #[.int .i64 1, .string d, .int .i64 o, .int .i64 t, .int .i64 m] 24)) := (Below.refl _ _).alloc (Nat.le_refl _) _
  go_enter Tryz.func7, Tryz.ntmps7
  go_wp2_with fail
  generalize w.alloc (.cells #[.int .i64 1, .string d, .int .i64 o, .int .i64 t, .int .i64 m] 24) = w1 at *
  refine (xknown_yes _ w1 (by omega)).mono ?_
  rintro e w1 ⟨rfl, rfl⟩
  have c0 : w1.cell? ⟨w.heap.size, 0, none⟩ = some (.int .i64 1) := (cell_of g1).trans rfl
  have c1 : w1.cell? ⟨w.heap.size, 1, none⟩ = some (.string d) := (cell_of g1).trans rfl
  have c2 : w1.cell? ⟨w.heap.size, 2, none⟩ = some (.int .i64 o) := (cell_of g1).trans rfl
  have c3 : w1.cell? ⟨w.heap.size, 3, none⟩ = some (.int .i64 t) := (cell_of g1).trans rfl
  have c4 : w1.cell? ⟨w.heap.size, 4, none⟩ = some (.int .i64 m) := (cell_of g1).trans rfl
  have hlt := lt_of_heap g1
  have G1 := hid g1
  have B1 := hid b1
  clear g1 b1
  go_wp2_with fail
  refine (xnewwriter_any w1).mono ?_
  rintro e w2 ⟨rfl, rfl⟩
  have h2 : WX (w1.alloc (.cells #[.string ⟨#[]⟩] 101)) w1.heap.size (bs []) := heap_new _ _
  have g2 : (w1.alloc (.cells #[.string ⟨#[]⟩] 101)).heap[w.heap.size]? = some (.cells #[.int .i64 1, .string d, .int .i64 o, .int .i64 t, .int .i64 m] 24 (0, 0)) := heap_alloc_at G1.out
  have b2 : Below w.heap.size w (w1.alloc (.cells #[.string ⟨#[]⟩] 101)) := B1.out.alloc B1.out.size _
  have hne : w.heap.size ≠ w1.heap.size ∧ w.heap.size ≤ w1.heap.size := by omega
  clear G1 B1 hlt
  clear c0 c1 c2 c3 c4
  have G2 := hid g2
  have B2 := hid b2
  have H2 := hid h2
  clear g2 b2 h2
  have c0 : (w1.alloc (.cells #[.string ⟨#[]⟩] 101)).cell? ⟨w.heap.size, 0, none⟩ = some (.int .i64 1) := (cell_of G2.out).trans rfl
  have c1 : (w1.alloc (.cells #[.string ⟨#[]⟩] 101)).cell? ⟨w.heap.size, 1, none⟩ = some (.string d) := (cell_of G2.out).trans rfl
  have c2 : (w1.alloc (.cells #[.string ⟨#[]⟩] 101)).cell? ⟨w.heap.size, 2, none⟩ = some (.int .i64 o) := (cell_of G2.out).trans rfl
  have c3 : (w1.alloc (.cells #[.string ⟨#[]⟩] 101)).cell? ⟨w.heap.size, 3, none⟩ = some (.int .i64 t) := (cell_of G2.out).trans rfl
  have c4 : (w1.alloc (.cells #[.string ⟨#[]⟩] 101)).cell? ⟨w.heap.size, 4, none⟩ = some (.int .i64 m) := (cell_of G2.out).trans rfl
  go_wp2_with fail
  generalize (w1.alloc (.cells #[.string ⟨#[]⟩] 101)) = w2 at *
  generalize w1.heap.size = p at *
  refine (zu8_any p [] 1 w2 H2.out (by omega) (by simp)).mono ?_
  rintro e w3 ⟨rfl, h3, hc3⟩
  have g3 : w3.heap[w.heap.size]? = _ := (hc3.block _ (lt_of_heap G2.out) hne.1).trans G2.out
  have b3 : Below w.heap.size w w3 := B2.out.trans (hc3.below B2.out.size (fun i hi h => by omega))
  clear hc3 G2 B2 H2
  clear c0 c1 c2 c3 c4
  have G3 := hid g3
  have B3 := hid b3
  have H3 := hid h3
  clear g3 b3 h3
  have c0 : w3.cell? ⟨w.heap.size, 0, none⟩ = some (.int .i64 1) := (cell_of G3.out).trans rfl
  have c1 : w3.cell? ⟨w.heap.size, 1, none⟩ = some (.string d) := (cell_of G3.out).trans rfl
  have c2 : w3.cell? ⟨w.heap.size, 2, none⟩ = some (.int .i64 o) := (cell_of G3.out).trans rfl
  have c3 : w3.cell? ⟨w.heap.size, 3, none⟩ = some (.int .i64 t) := (cell_of G3.out).trans rfl
  have c4 : w3.cell? ⟨w.heap.size, 4, none⟩ = some (.int .i64 m) := (cell_of G3.out).trans rfl
  go_wp2_with fail
  go_ret2
  exact ⟨rfl, B3.out⟩
set_option maxHeartbeats 1000000 in
set_option maxRecDepth 20000 in
theorem zask_no (v : Int) (d : ByteArray) (o t m : Int) (w : World) (hv : ¬ (1 ≤ v ∧ v ≤ 6)) :
    Calls Tryz.prog 7 #[.agg #[.int .i64 v, .string d, .int .i64 o, .int .i64 t, .int .i64 m]] w fun e w' => e = .returned (.tuple #[.string ⟨#[]⟩, .int .i64 6]) ∧ Below w.heap.size w w' := by
  have g1 : (w.alloc (.cells #[.int .i64 v, .string d, .int .i64 o, .int .i64 t, .int .i64 m] 24)).heap[w.heap.size]? = some (.cells #[.int .i64 v, .string d, .int .i64 o, .int .i64 t, .int .i64 m] 24 (0, 0)) := heap_new _ _
  have b1 : Below w.heap.size w (w.alloc (.cells #[.int .i64 v, .string d, .int .i64 o, .int .i64 t, .int .i64 m] 24)) := (Below.refl _ _).alloc (Nat.le_refl _) _
  go_enter Tryz.func7, Tryz.ntmps7
  go_wp2_with fail
  generalize w.alloc (.cells #[.int .i64 v, .string d, .int .i64 o, .int .i64 t, .int .i64 m] 24) = w1 at *
  refine (xknown_no _ w1 (by omega)).mono ?_
  rintro e w1 ⟨rfl, rfl⟩
  have c0 : w1.cell? ⟨w.heap.size, 0, none⟩ = some (.int .i64 v) := (cell_of g1).trans rfl
  have c1 : w1.cell? ⟨w.heap.size, 1, none⟩ = some (.string d) := (cell_of g1).trans rfl
  have c2 : w1.cell? ⟨w.heap.size, 2, none⟩ = some (.int .i64 o) := (cell_of g1).trans rfl
  have c3 : w1.cell? ⟨w.heap.size, 3, none⟩ = some (.int .i64 t) := (cell_of g1).trans rfl
  have c4 : w1.cell? ⟨w.heap.size, 4, none⟩ = some (.int .i64 m) := (cell_of g1).trans rfl
  have hlt := lt_of_heap g1
  have G1 := hid g1
  have B1 := hid b1
  clear g1 b1
  go_wp2_with fail
  go_ret2
  exact ⟨rfl, B1.out⟩
end Go.Proofs.YtgdaaohlongmlaaGreat
namespace Go.Proofs.YtgdaaohlongmlaaGreat
open Go.RowKit
set_option maxHeartbeats 1000000 in
set_option maxRecDepth 20000 in
theorem zrep_1true (o n : Int) (d : ByteArray) (w : World) :
    Calls Tryz.prog 9 #[.agg #[.int .i64 1, .int .i64 0, .bool true, .int .i64 o, .int .i64 n, .string d]] w fun e w' => e = .returned (.tuple #[.string (bs (((([] ++ nb 1 1) ++ nb 4 (0 : Int).toNat) ++ nb 1 1) ++ nb 8 (un o))), .int .i64 0]) ∧ Below w.heap.size w w' := by
  have g1 : (w.alloc (.cells #[.int .i64 1, .int .i64 0, .bool true, .int .i64 o, .int .i64 n, .string d] 27)).heap[w.heap.size]? = some (.cells #[.int .i64 1, .int .i64 0, .bool true, .int .i64 o, .int .i64 n, .string d] 27 (0, 0)) := heap_new _ _
  have b1 : Below w.heap.size w (w.alloc (.cells #[.int .i64 1, .int .i64 0, .bool true, .int .i64 o, .int .i64 n, .string d] 27)) := (Below.refl _ _).alloc (Nat.le_refl _) _
  go_enter Tryz.func9, Tryz.ntmps9
  go_wp2_with fail
  generalize w.alloc (.cells #[.int .i64 1, .int .i64 0, .bool true, .int .i64 o, .int .i64 n, .string d] 27) = w1 at *
  refine (xknown_yes _ w1 (by omega)).mono ?_
  rintro e w1 ⟨rfl, rfl⟩
  have c0 : w1.cell? ⟨w.heap.size, 0, none⟩ = some (.int .i64 1) := (cell_of g1).trans rfl
  have c1 : w1.cell? ⟨w.heap.size, 1, none⟩ = some (.int .i64 0) := (cell_of g1).trans rfl
  have c2 : w1.cell? ⟨w.heap.size, 2, none⟩ = some (.bool true) := (cell_of g1).trans rfl
  have c3 : w1.cell? ⟨w.heap.size, 3, none⟩ = some (.int .i64 o) := (cell_of g1).trans rfl
  have c4 : w1.cell? ⟨w.heap.size, 4, none⟩ = some (.int .i64 n) := (cell_of g1).trans rfl
  have c5 : w1.cell? ⟨w.heap.size, 5, none⟩ = some (.string d) := (cell_of g1).trans rfl
  have hlt := lt_of_heap g1
  have G1 := hid g1
  have B1 := hid b1
  clear g1 b1
  go_wp2_with fail
  refine (xnewwriter_any w1).mono ?_
  rintro e w2 ⟨rfl, rfl⟩
  have h2 : WX (w1.alloc (.cells #[.string ⟨#[]⟩] 101)) w1.heap.size (bs []) := heap_new _ _
  have g2 : (w1.alloc (.cells #[.string ⟨#[]⟩] 101)).heap[w.heap.size]? = some (.cells #[.int .i64 1, .int .i64 0, .bool true, .int .i64 o, .int .i64 n, .string d] 27 (0, 0)) := heap_alloc_at G1.out
  have b2 : Below w.heap.size w (w1.alloc (.cells #[.string ⟨#[]⟩] 101)) := B1.out.alloc B1.out.size _
  have hne : w.heap.size ≠ w1.heap.size ∧ w.heap.size ≤ w1.heap.size := by omega
  clear G1 B1 hlt
  clear c0 c1 c2 c3 c4 c5
  have G2 := hid g2
  have B2 := hid b2
  have H2 := hid h2
  clear g2 b2 h2
  have c0 : (w1.alloc (.cells #[.string ⟨#[]⟩] 101)).cell? ⟨w.heap.size, 0, none⟩ = some (.int .i64 1) := (cell_of G2.out).trans rfl
  have c1 : (w1.alloc (.cells #[.string ⟨#[]⟩] 101)).cell? ⟨w.heap.size, 1, none⟩ = some (.int .i64 0) := (cell_of G2.out).trans rfl
  have c2 : (w1.alloc (.cells #[.string ⟨#[]⟩] 101)).cell? ⟨w.heap.size, 2, none⟩ = some (.bool true) := (cell_of G2.out).trans rfl
  have c3 : (w1.alloc (.cells #[.string ⟨#[]⟩] 101)).cell? ⟨w.heap.size, 3, none⟩ = some (.int .i64 o) := (cell_of G2.out).trans rfl
  have c4 : (w1.alloc (.cells #[.string ⟨#[]⟩] 101)).cell? ⟨w.heap.size, 4, none⟩ = some (.int .i64 n) := (cell_of G2.out).trans rfl
  have c5 : (w1.alloc (.cells #[.string ⟨#[]⟩] 101)).cell? ⟨w.heap.size, 5, none⟩ = some (.string d) := (cell_of G2.out).trans rfl
  go_wp2_with fail
  generalize (w1.alloc (.cells #[.string ⟨#[]⟩] 101)) = w2 at *
  generalize w1.heap.size = p at *
  refine (zu8_any p [] 1 w2 H2.out (by omega) (by simp)).mono ?_
  rintro e w3 ⟨rfl, h3, hc3⟩
  have g3 : w3.heap[w.heap.size]? = _ := (hc3.block _ (lt_of_heap G2.out) hne.1).trans G2.out
  have b3 : Below w.heap.size w w3 := B2.out.trans (hc3.below B2.out.size (fun i hi h => by omega))
  clear hc3 G2 B2 H2
  clear c0 c1 c2 c3 c4 c5
  have G3 := hid g3
  have B3 := hid b3
  have H3 := hid h3
  clear g3 b3 h3
  have c0 : w3.cell? ⟨w.heap.size, 0, none⟩ = some (.int .i64 1) := (cell_of G3.out).trans rfl
  have c1 : w3.cell? ⟨w.heap.size, 1, none⟩ = some (.int .i64 0) := (cell_of G3.out).trans rfl
  have c2 : w3.cell? ⟨w.heap.size, 2, none⟩ = some (.bool true) := (cell_of G3.out).trans rfl
  have c3 : w3.cell? ⟨w.heap.size, 3, none⟩ = some (.int .i64 o) := (cell_of G3.out).trans rfl
  have c4 : w3.cell? ⟨w.heap.size, 4, none⟩ = some (.int .i64 n) := (cell_of G3.out).trans rfl
  have c5 : w3.cell? ⟨w.heap.size, 5, none⟩ = some (.string d) := (cell_of G3.out).trans rfl
  go_wp2_with fail
  refine (zi32_any p ([] ++ nb 1 1) 0 w3 H3.out (by omega) (by omega) (by simp [nb_len])).mono ?_
  rintro e w4 ⟨rfl, h4, hc4⟩
  have g4 : w4.heap[w.heap.size]? = _ := (hc4.block _ (lt_of_heap G3.out) hne.1).trans G3.out
  have b4 : Below w.heap.size w w4 := B3.out.trans (hc4.below B3.out.size (fun i hi h => by omega))
  clear hc4 G3 B3 H3
  clear c0 c1 c2 c3 c4 c5
  have G4 := hid g4
  have B4 := hid b4
  have H4 := hid h4
  clear g4 b4 h4
  have c0 : w4.cell? ⟨w.heap.size, 0, none⟩ = some (.int .i64 1) := (cell_of G4.out).trans rfl
  have c1 : w4.cell? ⟨w.heap.size, 1, none⟩ = some (.int .i64 0) := (cell_of G4.out).trans rfl
  have c2 : w4.cell? ⟨w.heap.size, 2, none⟩ = some (.bool true) := (cell_of G4.out).trans rfl
  have c3 : w4.cell? ⟨w.heap.size, 3, none⟩ = some (.int .i64 o) := (cell_of G4.out).trans rfl
  have c4 : w4.cell? ⟨w.heap.size, 4, none⟩ = some (.int .i64 n) := (cell_of G4.out).trans rfl
  have c5 : w4.cell? ⟨w.heap.size, 5, none⟩ = some (.string d) := (cell_of G4.out).trans rfl
  go_wp2_with fail
  refine (zu8_any p (([] ++ nb 1 1) ++ nb 4 (0 : Int).toNat) 1 w4 H4.out (by omega) (by simp [nb_len])).mono ?_
  rintro e w5 ⟨rfl, h5, hc5⟩
  have g5 : w5.heap[w.heap.size]? = _ := (hc5.block _ (lt_of_heap G4.out) hne.1).trans G4.out
  have b5 : Below w.heap.size w w5 := B4.out.trans (hc5.below B4.out.size (fun i hi h => by omega))
  clear hc5 G4 B4 H4
  clear c0 c1 c2 c3 c4 c5
  have G5 := hid g5
  have B5 := hid b5
  have H5 := hid h5
  clear g5 b5 h5
  have c0 : w5.cell? ⟨w.heap.size, 0, none⟩ = some (.int .i64 1) := (cell_of G5.out).trans rfl
  have c1 : w5.cell? ⟨w.heap.size, 1, none⟩ = some (.int .i64 0) := (cell_of G5.out).trans rfl
  have c2 : w5.cell? ⟨w.heap.size, 2, none⟩ = some (.bool true) := (cell_of G5.out).trans rfl
  have c3 : w5.cell? ⟨w.heap.size, 3, none⟩ = some (.int .i64 o) := (cell_of G5.out).trans rfl
  have c4 : w5.cell? ⟨w.heap.size, 4, none⟩ = some (.int .i64 n) := (cell_of G5.out).trans rfl
  have c5 : w5.cell? ⟨w.heap.size, 5, none⟩ = some (.string d) := (cell_of G5.out).trans rfl
  go_wp2_with fail
  refine (zi64_any p ((([] ++ nb 1 1) ++ nb 4 (0 : Int).toNat) ++ nb 1 1) o w5 H5.out (by simp [nb_len])).mono ?_
  rintro e w6 ⟨rfl, h6, hc6⟩
  have g6 : w6.heap[w.heap.size]? = _ := (hc6.block _ (lt_of_heap G5.out) hne.1).trans G5.out
  have b6 : Below w.heap.size w w6 := B5.out.trans (hc6.below B5.out.size (fun i hi h => by omega))
  clear hc6 G5 B5 H5
  clear c0 c1 c2 c3 c4 c5
  have G6 := hid g6
  have B6 := hid b6
  have H6 := hid h6
  clear g6 b6 h6
  have c0 : w6.cell? ⟨w.heap.size, 0, none⟩ = some (.int .i64 1) := (cell_of G6.out).trans rfl
  have c1 : w6.cell? ⟨w.heap.size, 1, none⟩ = some (.int .i64 0) := (cell_of G6.out).trans rfl
  have c2 : w6.cell? ⟨w.heap.size, 2, none⟩ = some (.bool true) := (cell_of G6.out).trans rfl
  have c3 : w6.cell? ⟨w.heap.size, 3, none⟩ = some (.int .i64 o) := (cell_of G6.out).trans rfl
  have c4 : w6.cell? ⟨w.heap.size, 4, none⟩ = some (.int .i64 n) := (cell_of G6.out).trans rfl
  have c5 : w6.cell? ⟨w.heap.size, 5, none⟩ = some (.string d) := (cell_of G6.out).trans rfl
  go_wp2_with fail
  refine (xwbytes_any p _ w6 H6.out).mono ?_
  rintro e w7 ⟨rfl, rfl⟩
  go_wp2_with fail
  go_ret2
  exact ⟨rfl, B6.out⟩
set_option maxHeartbeats 1000000 in
set_option maxRecDepth 20000 in
theorem zrep_1false (o n : Int) (d : ByteArray) (w : World) :
    Calls Tryz.prog 9 #[.agg #[.int .i64 1, .int .i64 0, .bool false, .int .i64 o, .int .i64 n, .string d]] w fun e w' => e = .returned (.tuple #[.string (bs (((([] ++ nb 1 1) ++ nb 4 (0 : Int).toNat) ++ nb 1 0) ++ nb 8 (un o))), .int .i64 0]) ∧ Below w.heap.size w w' := by
  have g1 : (w.alloc (.cells #[.int .i64 1, .int .i64 0, .bool false, .int .i64 o, .int .i64 n, .string d] 27)).heap[w.heap.size]? = some (.cells #[.int .i64 1, .int .i64 0, .bool false, .int .i64 o, .int .i64 n, .string d] 27 (0, 0)) := heap_new _ _
  have b1 : Below w.heap.size w (w.alloc (.cells #[.int .i64 1, .int .i64 0, .bool false, .int .i64 o, .int .i64 n, .string d] 27)) := (Below.refl _ _).alloc (Nat.le_refl _) _
  go_enter Tryz.func9, Tryz.ntmps9
  go_wp2_with fail
  generalize w.alloc (.cells #[.int .i64 1, .int .i64 0, .bool false, .int .i64 o, .int .i64 n, .string d] 27) = w1 at *
  refine (xknown_yes _ w1 (by omega)).mono ?_
  rintro e w1 ⟨rfl, rfl⟩
  have c0 : w1.cell? ⟨w.heap.size, 0, none⟩ = some (.int .i64 1) := (cell_of g1).trans rfl
  have c1 : w1.cell? ⟨w.heap.size, 1, none⟩ = some (.int .i64 0) := (cell_of g1).trans rfl
  have c2 : w1.cell? ⟨w.heap.size, 2, none⟩ = some (.bool false) := (cell_of g1).trans rfl
  have c3 : w1.cell? ⟨w.heap.size, 3, none⟩ = some (.int .i64 o) := (cell_of g1).trans rfl
  have c4 : w1.cell? ⟨w.heap.size, 4, none⟩ = some (.int .i64 n) := (cell_of g1).trans rfl
  have c5 : w1.cell? ⟨w.heap.size, 5, none⟩ = some (.string d) := (cell_of g1).trans rfl
  have hlt := lt_of_heap g1
  have G1 := hid g1
  have B1 := hid b1
  clear g1 b1
  go_wp2_with fail
  refine (xnewwriter_any w1).mono ?_
  rintro e w2 ⟨rfl, rfl⟩
  have h2 : WX (w1.alloc (.cells #[.string ⟨#[]⟩] 101)) w1.heap.size (bs []) := heap_new _ _
  have g2 : (w1.alloc (.cells #[.string ⟨#[]⟩] 101)).heap[w.heap.size]? = some (.cells #[.int .i64 1, .int .i64 0, .bool false, .int .i64 o, .int .i64 n, .string d] 27 (0, 0)) := heap_alloc_at G1.out
  have b2 : Below w.heap.size w (w1.alloc (.cells #[.string ⟨#[]⟩] 101)) := B1.out.alloc B1.out.size _
  have hne : w.heap.size ≠ w1.heap.size ∧ w.heap.size ≤ w1.heap.size := by omega
  clear G1 B1 hlt
  clear c0 c1 c2 c3 c4 c5
  have G2 := hid g2
  have B2 := hid b2
  have H2 := hid h2
  clear g2 b2 h2
  have c0 : (w1.alloc (.cells #[.string ⟨#[]⟩] 101)).cell? ⟨w.heap.size, 0, none⟩ = some (.int .i64 1) := (cell_of G2.out).trans rfl
  have c1 : (w1.alloc (.cells #[.string ⟨#[]⟩] 101)).cell? ⟨w.heap.size, 1, none⟩ = some (.int .i64 0) := (cell_of G2.out).trans rfl
  have c2 : (w1.alloc (.cells #[.string ⟨#[]⟩] 101)).cell? ⟨w.heap.size, 2, none⟩ = some (.bool false) := (cell_of G2.out).trans rfl
  have c3 : (w1.alloc (.cells #[.string ⟨#[]⟩] 101)).cell? ⟨w.heap.size, 3, none⟩ = some (.int .i64 o) := (cell_of G2.out).trans rfl
  have c4 : (w1.alloc (.cells #[.string ⟨#[]⟩] 101)).cell? ⟨w.heap.size, 4, none⟩ = some (.int .i64 n) := (cell_of G2.out).trans rfl
  have c5 : (w1.alloc (.cells #[.string ⟨#[]⟩] 101)).cell? ⟨w.heap.size, 5, none⟩ = some (.string d) := (cell_of G2.out).trans rfl
  go_wp2_with fail
  generalize (w1.alloc (.cells #[.string ⟨#[]⟩] 101)) = w2 at *
  generalize w1.heap.size = p at *
  refine (zu8_any p [] 1 w2 H2.out (by omega) (by simp)).mono ?_
  rintro e w3 ⟨rfl, h3, hc3⟩
  have g3 : w3.heap[w.heap.size]? = _ := (hc3.block _ (lt_of_heap G2.out) hne.1).trans G2.out
  have b3 : Below w.heap.size w w3 := B2.out.trans (hc3.below B2.out.size (fun i hi h => by omega))
  clear hc3 G2 B2 H2
  clear c0 c1 c2 c3 c4 c5
  have G3 := hid g3
  have B3 := hid b3
  have H3 := hid h3
  clear g3 b3 h3
  have c0 : w3.cell? ⟨w.heap.size, 0, none⟩ = some (.int .i64 1) := (cell_of G3.out).trans rfl
  have c1 : w3.cell? ⟨w.heap.size, 1, none⟩ = some (.int .i64 0) := (cell_of G3.out).trans rfl
  have c2 : w3.cell? ⟨w.heap.size, 2, none⟩ = some (.bool false) := (cell_of G3.out).trans rfl
  have c3 : w3.cell? ⟨w.heap.size, 3, none⟩ = some (.int .i64 o) := (cell_of G3.out).trans rfl
  have c4 : w3.cell? ⟨w.heap.size, 4, none⟩ = some (.int .i64 n) := (cell_of G3.out).trans rfl
  have c5 : w3.cell? ⟨w.heap.size, 5, none⟩ = some (.string d) := (cell_of G3.out).trans rfl
  go_wp2_with fail
  refine (zi32_any p ([] ++ nb 1 1) 0 w3 H3.out (by omega) (by omega) (by simp [nb_len])).mono ?_
  rintro e w4 ⟨rfl, h4, hc4⟩
  have g4 : w4.heap[w.heap.size]? = _ := (hc4.block _ (lt_of_heap G3.out) hne.1).trans G3.out
  have b4 : Below w.heap.size w w4 := B3.out.trans (hc4.below B3.out.size (fun i hi h => by omega))
  clear hc4 G3 B3 H3
  clear c0 c1 c2 c3 c4 c5
  have G4 := hid g4
  have B4 := hid b4
  have H4 := hid h4
  clear g4 b4 h4
  have c0 : w4.cell? ⟨w.heap.size, 0, none⟩ = some (.int .i64 1) := (cell_of G4.out).trans rfl
  have c1 : w4.cell? ⟨w.heap.size, 1, none⟩ = some (.int .i64 0) := (cell_of G4.out).trans rfl
  have c2 : w4.cell? ⟨w.heap.size, 2, none⟩ = some (.bool false) := (cell_of G4.out).trans rfl
  have c3 : w4.cell? ⟨w.heap.size, 3, none⟩ = some (.int .i64 o) := (cell_of G4.out).trans rfl
  have c4 : w4.cell? ⟨w.heap.size, 4, none⟩ = some (.int .i64 n) := (cell_of G4.out).trans rfl
  have c5 : w4.cell? ⟨w.heap.size, 5, none⟩ = some (.string d) := (cell_of G4.out).trans rfl
  go_wp2_with fail
  refine (zu8_any p (([] ++ nb 1 1) ++ nb 4 (0 : Int).toNat) 0 w4 H4.out (by omega) (by simp [nb_len])).mono ?_
  rintro e w5 ⟨rfl, h5, hc5⟩
  have g5 : w5.heap[w.heap.size]? = _ := (hc5.block _ (lt_of_heap G4.out) hne.1).trans G4.out
  have b5 : Below w.heap.size w w5 := B4.out.trans (hc5.below B4.out.size (fun i hi h => by omega))
  clear hc5 G4 B4 H4
  clear c0 c1 c2 c3 c4 c5
  have G5 := hid g5
  have B5 := hid b5
  have H5 := hid h5
  clear g5 b5 h5
  have c0 : w5.cell? ⟨w.heap.size, 0, none⟩ = some (.int .i64 1) := (cell_of G5.out).trans rfl
  have c1 : w5.cell? ⟨w.heap.size, 1, none⟩ = some (.int .i64 0) := (cell_of G5.out).trans rfl
  have c2 : w5.cell? ⟨w.heap.size, 2, none⟩ = some (.bool false) := (cell_of G5.out).trans rfl
  have c3 : w5.cell? ⟨w.heap.size, 3, none⟩ = some (.int .i64 o) := (cell_of G5.out).trans rfl
  have c4 : w5.cell? ⟨w.heap.size, 4, none⟩ = some (.int .i64 n) := (cell_of G5.out).trans rfl
  have c5 : w5.cell? ⟨w.heap.size, 5, none⟩ = some (.string d) := (cell_of G5.out).trans rfl
  go_wp2_with fail
  refine (zi64_any p ((([] ++ nb 1 1) ++ nb 4 (0 : Int).toNat) ++ nb 1 0) o w5 H5.out (by simp [nb_len])).mono ?_
  rintro e w6 ⟨rfl, h6, hc6⟩
  have g6 : w6.heap[w.heap.size]? = _ := (hc6.block _ (lt_of_heap G5.out) hne.1).trans G5.out
  have b6 : Below w.heap.size w w6 := B5.out.trans (hc6.below B5.out.size (fun i hi h => by omega))
  clear hc6 G5 B5 H5
  clear c0 c1 c2 c3 c4 c5
  have G6 := hid g6
  have B6 := hid b6
  have H6 := hid h6
  clear g6 b6 h6
  have c0 : w6.cell? ⟨w.heap.size, 0, none⟩ = some (.int .i64 1) := (cell_of G6.out).trans rfl
  have c1 : w6.cell? ⟨w.heap.size, 1, none⟩ = some (.int .i64 0) := (cell_of G6.out).trans rfl
  have c2 : w6.cell? ⟨w.heap.size, 2, none⟩ = some (.bool false) := (cell_of G6.out).trans rfl
  have c3 : w6.cell? ⟨w.heap.size, 3, none⟩ = some (.int .i64 o) := (cell_of G6.out).trans rfl
  have c4 : w6.cell? ⟨w.heap.size, 4, none⟩ = some (.int .i64 n) := (cell_of G6.out).trans rfl
  have c5 : w6.cell? ⟨w.heap.size, 5, none⟩ = some (.string d) := (cell_of G6.out).trans rfl
  go_wp2_with fail
  refine (xwbytes_any p _ w6 H6.out).mono ?_
  rintro e w7 ⟨rfl, rfl⟩
  go_wp2_with fail
  go_ret2
  exact ⟨rfl, B6.out⟩
set_option maxHeartbeats 1000000 in
set_option maxRecDepth 20000 in
theorem zrep_2 (b : Bool) (o n : Int) (d : ByteArray) (w : World) (hd : d.size ≤ 1073741824) :
    Calls Tryz.prog 9 #[.agg #[.int .i64 2, .int .i64 0, .bool b, .int .i64 o, .int .i64 n, .string d]] w fun e w' => e = .returned (.tuple #[.string (bs (((([] ++ nb 1 2) ++ nb 4 (0 : Int).toNat) ++ nb 8 (un n)) ++ (nb 4 d.size ++ bl d))), .int .i64 0]) ∧ Below w.heap.size w w' := by
  have hdl : ¬ (1073741824 : Int) < (d.size : Int) := by omega
  have g1 : (w.alloc (.cells #[.int .i64 2, .int .i64 0, .bool b, .int .i64 o, .int .i64 n, .string d] 27)).heap[w.heap.size]? = some (.cells #[.int .i64 2, .int .i64 0, .bool b, .int .i64 o, .int .i64 n, .string d] 27 (0, 0)) := heap_new _ _
  have b1 : Below w.heap.size w (w.alloc (.cells #[.int .i64 2, .int .i64 0, .bool b, .int .i64 o, .int .i64 n, .string d] 27)) := (Below.refl _ _).alloc (Nat.le_refl _) _
  go_enter Tryz.func9, Tryz.ntmps9
  go_wp2_with fail
  generalize w.alloc (.cells #[.int .i64 2, .int .i64 0, .bool b, .int .i64 o, .int .i64 n, .string d] 27) = w1 at *
  refine (xknown_yes _ w1 (by omega)).mono ?_
  rintro e w1 ⟨rfl, rfl⟩
  have c0 : w1.cell? ⟨w.heap.size, 0, none⟩ = some (.int .i64 2) := (cell_of g1).trans rfl
  have c1 : w1.cell? ⟨w.heap.size, 1, none⟩ = some (.int .i64 0) := (cell_of g1).trans rfl
  have c2 : w1.cell? ⟨w.heap.size, 2, none⟩ = some (.bool b) := (cell_of g1).trans rfl
  have c3 : w1.cell? ⟨w.heap.size, 3, none⟩ = some (.int .i64 o) := (cell_of g1).trans rfl
  have c4 : w1.cell? ⟨w.heap.size, 4, none⟩ = some (.int .i64 n) := (cell_of g1).trans rfl
  have c5 : w1.cell? ⟨w.heap.size, 5, none⟩ = some (.string d) := (cell_of g1).trans rfl
  have hlt := lt_of_heap g1
  have G1 := hid g1
  have B1 := hid b1
  clear g1 b1
  go_wp2_with fail
  refine (xnewwriter_any w1).mono ?_
  rintro e w2 ⟨rfl, rfl⟩
  have h2 : WX (w1.alloc (.cells #[.string ⟨#[]⟩] 101)) w1.heap.size (bs []) := heap_new _ _
  have g2 : (w1.alloc (.cells #[.string ⟨#[]⟩] 101)).heap[w.heap.size]? = some (.cells #[.int .i64 2, .int .i64 0, .bool b, .int .i64 o, .int .i64 n, .string d] 27 (0, 0)) := heap_alloc_at G1.out
  have b2 : Below w.heap.size w (w1.alloc (.cells #[.string ⟨#[]⟩] 101)) := B1.out.alloc B1.out.size _
  have hne : w.heap.size ≠ w1.heap.size ∧ w.heap.size ≤ w1.heap.size := by omega
  clear G1 B1 hlt
  clear c0 c1 c2 c3 c4 c5
  have G2 := hid g2
  have B2 := hid b2
  have H2 := hid h2
  clear g2 b2 h2
  have c0 : (w1.alloc (.cells #[.string ⟨#[]⟩] 101)).cell? ⟨w.heap.size, 0, none⟩ = some (.int .i64 2) := (cell_of G2.out).trans rfl
  have c1 : (w1.alloc (.cells #[.string ⟨#[]⟩] 101)).cell? ⟨w.heap.size, 1, none⟩ = some (.int .i64 0) := (cell_of G2.out).trans rfl
  have c2 : (w1.alloc (.cells #[.string ⟨#[]⟩] 101)).cell? ⟨w.heap.size, 2, none⟩ = some (.bool b) := (cell_of G2.out).trans rfl
  have c3 : (w1.alloc (.cells #[.string ⟨#[]⟩] 101)).cell? ⟨w.heap.size, 3, none⟩ = some (.int .i64 o) := (cell_of G2.out).trans rfl
  have c4 : (w1.alloc (.cells #[.string ⟨#[]⟩] 101)).cell? ⟨w.heap.size, 4, none⟩ = some (.int .i64 n) := (cell_of G2.out).trans rfl
  have c5 : (w1.alloc (.cells #[.string ⟨#[]⟩] 101)).cell? ⟨w.heap.size, 5, none⟩ = some (.string d) := (cell_of G2.out).trans rfl
  go_wp2_with fail
  generalize (w1.alloc (.cells #[.string ⟨#[]⟩] 101)) = w2 at *
  generalize w1.heap.size = p at *
  refine (zu8_any p [] 2 w2 H2.out (by omega) (by simp)).mono ?_
  rintro e w3 ⟨rfl, h3, hc3⟩
  have g3 : w3.heap[w.heap.size]? = _ := (hc3.block _ (lt_of_heap G2.out) hne.1).trans G2.out
  have b3 : Below w.heap.size w w3 := B2.out.trans (hc3.below B2.out.size (fun i hi h => by omega))
  clear hc3 G2 B2 H2
  clear c0 c1 c2 c3 c4 c5
  have G3 := hid g3
  have B3 := hid b3
  have H3 := hid h3
  clear g3 b3 h3
  have c0 : w3.cell? ⟨w.heap.size, 0, none⟩ = some (.int .i64 2) := (cell_of G3.out).trans rfl
  have c1 : w3.cell? ⟨w.heap.size, 1, none⟩ = some (.int .i64 0) := (cell_of G3.out).trans rfl
  have c2 : w3.cell? ⟨w.heap.size, 2, none⟩ = some (.bool b) := (cell_of G3.out).trans rfl
  have c3 : w3.cell? ⟨w.heap.size, 3, none⟩ = some (.int .i64 o) := (cell_of G3.out).trans rfl
  have c4 : w3.cell? ⟨w.heap.size, 4, none⟩ = some (.int .i64 n) := (cell_of G3.out).trans rfl
  have c5 : w3.cell? ⟨w.heap.size, 5, none⟩ = some (.string d) := (cell_of G3.out).trans rfl
  go_wp2_with fail
  refine (zi32_any p ([] ++ nb 1 2) 0 w3 H3.out (by omega) (by omega) (by simp [nb_len])).mono ?_
  rintro e w4 ⟨rfl, h4, hc4⟩
  have g4 : w4.heap[w.heap.size]? = _ := (hc4.block _ (lt_of_heap G3.out) hne.1).trans G3.out
  have b4 : Below w.heap.size w w4 := B3.out.trans (hc4.below B3.out.size (fun i hi h => by omega))
  clear hc4 G3 B3 H3
  clear c0 c1 c2 c3 c4 c5
  have G4 := hid g4
  have B4 := hid b4
  have H4 := hid h4
  clear g4 b4 h4
  have c0 : w4.cell? ⟨w.heap.size, 0, none⟩ = some (.int .i64 2) := (cell_of G4.out).trans rfl
  have c1 : w4.cell? ⟨w.heap.size, 1, none⟩ = some (.int .i64 0) := (cell_of G4.out).trans rfl
  have c2 : w4.cell? ⟨w.heap.size, 2, none⟩ = some (.bool b) := (cell_of G4.out).trans rfl
  have c3 : w4.cell? ⟨w.heap.size, 3, none⟩ = some (.int .i64 o) := (cell_of G4.out).trans rfl
  have c4 : w4.cell? ⟨w.heap.size, 4, none⟩ = some (.int .i64 n) := (cell_of G4.out).trans rfl
  have c5 : w4.cell? ⟨w.heap.size, 5, none⟩ = some (.string d) := (cell_of G4.out).trans rfl
  go_wp2_with fail
  refine (zi64_any p (([] ++ nb 1 2) ++ nb 4 (0 : Int).toNat) n w4 H4.out (by simp [nb_len])).mono ?_
  rintro e w5 ⟨rfl, h5, hc5⟩
  have g5 : w5.heap[w.heap.size]? = _ := (hc5.block _ (lt_of_heap G4.out) hne.1).trans G4.out
  have b5 : Below w.heap.size w w5 := B4.out.trans (hc5.below B4.out.size (fun i hi h => by omega))
  clear hc5 G4 B4 H4
  clear c0 c1 c2 c3 c4 c5
  have G5 := hid g5
  have B5 := hid b5
  have H5 := hid h5
  clear g5 b5 h5
  have c0 : w5.cell? ⟨w.heap.size, 0, none⟩ = some (.int .i64 2) := (cell_of G5.out).trans rfl
  have c1 : w5.cell? ⟨w.heap.size, 1, none⟩ = some (.int .i64 0) := (cell_of G5.out).trans rfl
  have c2 : w5.cell? ⟨w.heap.size, 2, none⟩ = some (.bool b) := (cell_of G5.out).trans rfl
  have c3 : w5.cell? ⟨w.heap.size, 3, none⟩ = some (.int .i64 o) := (cell_of G5.out).trans rfl
  have c4 : w5.cell? ⟨w.heap.size, 4, none⟩ = some (.int .i64 n) := (cell_of G5.out).trans rfl
  have c5 : w5.cell? ⟨w.heap.size, 5, none⟩ = some (.string d) := (cell_of G5.out).trans rfl
  go_wp2_with fail
  refine (zdata_any p ((([] ++ nb 1 2) ++ nb 4 (0 : Int).toNat) ++ nb 8 (un n)) d w5 H5.out (by omega) (by simp [nb_len])).mono ?_
  rintro e w6 ⟨rfl, h6, hc6⟩
  have g6 : w6.heap[w.heap.size]? = _ := (hc6.block _ (lt_of_heap G5.out) hne.1).trans G5.out
  have b6 : Below w.heap.size w w6 := B5.out.trans (hc6.below B5.out.size (fun i hi h => by omega))
  clear hc6 G5 B5 H5
  clear c0 c1 c2 c3 c4 c5
  have G6 := hid g6
  have B6 := hid b6
  have H6 := hid h6
  clear g6 b6 h6
  have c0 : w6.cell? ⟨w.heap.size, 0, none⟩ = some (.int .i64 2) := (cell_of G6.out).trans rfl
  have c1 : w6.cell? ⟨w.heap.size, 1, none⟩ = some (.int .i64 0) := (cell_of G6.out).trans rfl
  have c2 : w6.cell? ⟨w.heap.size, 2, none⟩ = some (.bool b) := (cell_of G6.out).trans rfl
  have c3 : w6.cell? ⟨w.heap.size, 3, none⟩ = some (.int .i64 o) := (cell_of G6.out).trans rfl
  have c4 : w6.cell? ⟨w.heap.size, 4, none⟩ = some (.int .i64 n) := (cell_of G6.out).trans rfl
  have c5 : w6.cell? ⟨w.heap.size, 5, none⟩ = some (.string d) := (cell_of G6.out).trans rfl
  go_wp2_with fail
  refine (xwbytes_any p _ w6 H6.out).mono ?_
  rintro e w7 ⟨rfl, rfl⟩
  go_wp2_with fail
  go_ret2
  exact ⟨rfl, B6.out⟩
set_option maxHeartbeats 1000000 in
set_option maxRecDepth 20000 in
theorem zrep_3 (b : Bool) (o n : Int) (d : ByteArray) (w : World) :
    Calls Tryz.prog 9 #[.agg #[.int .i64 3, .int .i64 0, .bool b, .int .i64 o, .int .i64 n, .string d]] w fun e w' => e = .returned (.tuple #[.string (bs ((([] ++ nb 1 3) ++ nb 4 (0 : Int).toNat) ++ nb 8 (un o))), .int .i64 0]) ∧ Below w.heap.size w w' := by
  have g1 : (w.alloc (.cells #[.int .i64 3, .int .i64 0, .bool b, .int .i64 o, .int .i64 n, .string d] 27)).heap[w.heap.size]? = some (.cells #[.int .i64 3, .int .i64 0, .bool b, .int .i64 o, .int .i64 n, .string d] 27 (0, 0)) := heap_new _ _
  have b1 : Below w.heap.size w (w.alloc (.cells #[.int .i64 3, .int .i64 0, .bool b, .int .i64 o, .int .i64 n, .string d] 27)) := (Below.refl _ _).alloc (Nat.le_refl _) _
  go_enter Tryz.func9, Tryz.ntmps9
  go_wp2_with fail
  generalize w.alloc (.cells #[.int .i64 3, .int .i64 0, .bool b, .int .i64 o, .int .i64 n, .string d] 27) = w1 at *
  refine (xknown_yes _ w1 (by omega)).mono ?_
  rintro e w1 ⟨rfl, rfl⟩
  have c0 : w1.cell? ⟨w.heap.size, 0, none⟩ = some (.int .i64 3) := (cell_of g1).trans rfl
  have c1 : w1.cell? ⟨w.heap.size, 1, none⟩ = some (.int .i64 0) := (cell_of g1).trans rfl
  have c2 : w1.cell? ⟨w.heap.size, 2, none⟩ = some (.bool b) := (cell_of g1).trans rfl
  have c3 : w1.cell? ⟨w.heap.size, 3, none⟩ = some (.int .i64 o) := (cell_of g1).trans rfl
  have c4 : w1.cell? ⟨w.heap.size, 4, none⟩ = some (.int .i64 n) := (cell_of g1).trans rfl
  have c5 : w1.cell? ⟨w.heap.size, 5, none⟩ = some (.string d) := (cell_of g1).trans rfl
  have hlt := lt_of_heap g1
  have G1 := hid g1
  have B1 := hid b1
  clear g1 b1
  go_wp2_with fail
  refine (xnewwriter_any w1).mono ?_
  rintro e w2 ⟨rfl, rfl⟩
  have h2 : WX (w1.alloc (.cells #[.string ⟨#[]⟩] 101)) w1.heap.size (bs []) := heap_new _ _
  have g2 : (w1.alloc (.cells #[.string ⟨#[]⟩] 101)).heap[w.heap.size]? = some (.cells #[.int .i64 3, .int .i64 0, .bool b, .int .i64 o, .int .i64 n, .string d] 27 (0, 0)) := heap_alloc_at G1.out
  have b2 : Below w.heap.size w (w1.alloc (.cells #[.string ⟨#[]⟩] 101)) := B1.out.alloc B1.out.size _
  have hne : w.heap.size ≠ w1.heap.size ∧ w.heap.size ≤ w1.heap.size := by omega
  clear G1 B1 hlt
  clear c0 c1 c2 c3 c4 c5
  have G2 := hid g2
  have B2 := hid b2
  have H2 := hid h2
  clear g2 b2 h2
  have c0 : (w1.alloc (.cells #[.string ⟨#[]⟩] 101)).cell? ⟨w.heap.size, 0, none⟩ = some (.int .i64 3) := (cell_of G2.out).trans rfl
  have c1 : (w1.alloc (.cells #[.string ⟨#[]⟩] 101)).cell? ⟨w.heap.size, 1, none⟩ = some (.int .i64 0) := (cell_of G2.out).trans rfl
  have c2 : (w1.alloc (.cells #[.string ⟨#[]⟩] 101)).cell? ⟨w.heap.size, 2, none⟩ = some (.bool b) := (cell_of G2.out).trans rfl
  have c3 : (w1.alloc (.cells #[.string ⟨#[]⟩] 101)).cell? ⟨w.heap.size, 3, none⟩ = some (.int .i64 o) := (cell_of G2.out).trans rfl
  have c4 : (w1.alloc (.cells #[.string ⟨#[]⟩] 101)).cell? ⟨w.heap.size, 4, none⟩ = some (.int .i64 n) := (cell_of G2.out).trans rfl
  have c5 : (w1.alloc (.cells #[.string ⟨#[]⟩] 101)).cell? ⟨w.heap.size, 5, none⟩ = some (.string d) := (cell_of G2.out).trans rfl
  go_wp2_with fail
  generalize (w1.alloc (.cells #[.string ⟨#[]⟩] 101)) = w2 at *
  generalize w1.heap.size = p at *
  refine (zu8_any p [] 3 w2 H2.out (by omega) (by simp)).mono ?_
  rintro e w3 ⟨rfl, h3, hc3⟩
  have g3 : w3.heap[w.heap.size]? = _ := (hc3.block _ (lt_of_heap G2.out) hne.1).trans G2.out
  have b3 : Below w.heap.size w w3 := B2.out.trans (hc3.below B2.out.size (fun i hi h => by omega))
  clear hc3 G2 B2 H2
  clear c0 c1 c2 c3 c4 c5
  have G3 := hid g3
  have B3 := hid b3
  have H3 := hid h3
  clear g3 b3 h3
  have c0 : w3.cell? ⟨w.heap.size, 0, none⟩ = some (.int .i64 3) := (cell_of G3.out).trans rfl
  have c1 : w3.cell? ⟨w.heap.size, 1, none⟩ = some (.int .i64 0) := (cell_of G3.out).trans rfl
  have c2 : w3.cell? ⟨w.heap.size, 2, none⟩ = some (.bool b) := (cell_of G3.out).trans rfl
  have c3 : w3.cell? ⟨w.heap.size, 3, none⟩ = some (.int .i64 o) := (cell_of G3.out).trans rfl
  have c4 : w3.cell? ⟨w.heap.size, 4, none⟩ = some (.int .i64 n) := (cell_of G3.out).trans rfl
  have c5 : w3.cell? ⟨w.heap.size, 5, none⟩ = some (.string d) := (cell_of G3.out).trans rfl
  go_wp2_with fail
  refine (zi32_any p ([] ++ nb 1 3) 0 w3 H3.out (by omega) (by omega) (by simp [nb_len])).mono ?_
  rintro e w4 ⟨rfl, h4, hc4⟩
  have g4 : w4.heap[w.heap.size]? = _ := (hc4.block _ (lt_of_heap G3.out) hne.1).trans G3.out
  have b4 : Below w.heap.size w w4 := B3.out.trans (hc4.below B3.out.size (fun i hi h => by omega))
  clear hc4 G3 B3 H3
  clear c0 c1 c2 c3 c4 c5
  have G4 := hid g4
  have B4 := hid b4
  have H4 := hid h4
  clear g4 b4 h4
  have c0 : w4.cell? ⟨w.heap.size, 0, none⟩ = some (.int .i64 3) := (cell_of G4.out).trans rfl
  have c1 : w4.cell? ⟨w.heap.size, 1, none⟩ = some (.int .i64 0) := (cell_of G4.out).trans rfl
  have c2 : w4.cell? ⟨w.heap.size, 2, none⟩ = some (.bool b) := (cell_of G4.out).trans rfl
  have c3 : w4.cell? ⟨w.heap.size, 3, none⟩ = some (.int .i64 o) := (cell_of G4.out).trans rfl
  have c4 : w4.cell? ⟨w.heap.size, 4, none⟩ = some (.int .i64 n) := (cell_of G4.out).trans rfl
  have c5 : w4.cell? ⟨w.heap.size, 5, none⟩ = some (.string d) := (cell_of G4.out).trans rfl
  go_wp2_with fail
  refine (zi64_any p (([] ++ nb 1 3) ++ nb 4 (0 : Int).toNat) o w4 H4.out (by simp [nb_len])).mono ?_
  rintro e w5 ⟨rfl, h5, hc5⟩
  have g5 : w5.heap[w.heap.size]? = _ := (hc5.block _ (lt_of_heap G4.out) hne.1).trans G4.out
  have b5 : Below w.heap.size w w5 := B4.out.trans (hc5.below B4.out.size (fun i hi h => by omega))
  clear hc5 G4 B4 H4
  clear c0 c1 c2 c3 c4 c5
  have G5 := hid g5
  have B5 := hid b5
  have H5 := hid h5
  clear g5 b5 h5
  have c0 : w5.cell? ⟨w.heap.size, 0, none⟩ = some (.int .i64 3) := (cell_of G5.out).trans rfl
  have c1 : w5.cell? ⟨w.heap.size, 1, none⟩ = some (.int .i64 0) := (cell_of G5.out).trans rfl
  have c2 : w5.cell? ⟨w.heap.size, 2, none⟩ = some (.bool b) := (cell_of G5.out).trans rfl
  have c3 : w5.cell? ⟨w.heap.size, 3, none⟩ = some (.int .i64 o) := (cell_of G5.out).trans rfl
  have c4 : w5.cell? ⟨w.heap.size, 4, none⟩ = some (.int .i64 n) := (cell_of G5.out).trans rfl
  have c5 : w5.cell? ⟨w.heap.size, 5, none⟩ = some (.string d) := (cell_of G5.out).trans rfl
  go_wp2_with fail
  refine (xwbytes_any p _ w5 H5.out).mono ?_
  rintro e w6 ⟨rfl, rfl⟩
  go_wp2_with fail
  go_ret2
  exact ⟨rfl, B5.out⟩
set_option maxHeartbeats 1000000 in
set_option maxRecDepth 20000 in
theorem zrep_4 (b : Bool) (o n : Int) (d : ByteArray) (w : World) :
    Calls Tryz.prog 9 #[.agg #[.int .i64 4, .int .i64 0, .bool b, .int .i64 o, .int .i64 n, .string d]] w fun e w' => e = .returned (.tuple #[.string (bs ((([] ++ nb 1 4) ++ nb 4 (0 : Int).toNat) ++ nb 8 (un n))), .int .i64 0]) ∧ Below w.heap.size w w' := by
  have g1 : (w.alloc (.cells #[.int .i64 4, .int .i64 0, .bool b, .int .i64 o, .int .i64 n, .string d] 27)).heap[w.heap.size]? = some (.cells #[.int .i64 4, .int .i64 0, .bool b, .int .i64 o, .int .i64 n, .string d] 27 (0, 0)) := heap_new _ _
  have b1 : Below w.heap.size w (w.alloc (.cells #[.int .i64 4, .int .i64 0, .bool b, .int .i64 o, .int .i64 n, .string d] 27)) := (Below.refl _ _).alloc (Nat.le_refl _) _
  go_enter Tryz.func9, Tryz.ntmps9
  go_wp2_with fail
  generalize w.alloc (.cells #[.int .i64 4, .int .i64 0, .bool b, .int .i64 o, .int .i64 n, .string d] 27) = w1 at *
  refine (xknown_yes _ w1 (by omega)).mono ?_
  rintro e w1 ⟨rfl, rfl⟩
  have c0 : w1.cell? ⟨w.heap.size, 0, none⟩ = some (.int .i64 4) := (cell_of g1).trans rfl
  have c1 : w1.cell? ⟨w.heap.size, 1, none⟩ = some (.int .i64 0) := (cell_of g1).trans rfl
  have c2 : w1.cell? ⟨w.heap.size, 2, none⟩ = some (.bool b) := (cell_of g1).trans rfl
  have c3 : w1.cell? ⟨w.heap.size, 3, none⟩ = some (.int .i64 o) := (cell_of g1).trans rfl
  have c4 : w1.cell? ⟨w.heap.size, 4, none⟩ = some (.int .i64 n) := (cell_of g1).trans rfl
  have c5 : w1.cell? ⟨w.heap.size, 5, none⟩ = some (.string d) := (cell_of g1).trans rfl
  have hlt := lt_of_heap g1
  have G1 := hid g1
  have B1 := hid b1
  clear g1 b1
  go_wp2_with fail
  refine (xnewwriter_any w1).mono ?_
  rintro e w2 ⟨rfl, rfl⟩
  have h2 : WX (w1.alloc (.cells #[.string ⟨#[]⟩] 101)) w1.heap.size (bs []) := heap_new _ _
  have g2 : (w1.alloc (.cells #[.string ⟨#[]⟩] 101)).heap[w.heap.size]? = some (.cells #[.int .i64 4, .int .i64 0, .bool b, .int .i64 o, .int .i64 n, .string d] 27 (0, 0)) := heap_alloc_at G1.out
  have b2 : Below w.heap.size w (w1.alloc (.cells #[.string ⟨#[]⟩] 101)) := B1.out.alloc B1.out.size _
  have hne : w.heap.size ≠ w1.heap.size ∧ w.heap.size ≤ w1.heap.size := by omega
  clear G1 B1 hlt
  clear c0 c1 c2 c3 c4 c5
  have G2 := hid g2
  have B2 := hid b2
  have H2 := hid h2
  clear g2 b2 h2
  have c0 : (w1.alloc (.cells #[.string ⟨#[]⟩] 101)).cell? ⟨w.heap.size, 0, none⟩ = some (.int .i64 4) := (cell_of G2.out).trans rfl
  have c1 : (w1.alloc (.cells #[.string ⟨#[]⟩] 101)).cell? ⟨w.heap.size, 1, none⟩ = some (.int .i64 0) := (cell_of G2.out).trans rfl
  have c2 : (w1.alloc (.cells #[.string ⟨#[]⟩] 101)).cell? ⟨w.heap.size, 2, none⟩ = some (.bool b) := (cell_of G2.out).trans rfl
  have c3 : (w1.alloc (.cells #[.string ⟨#[]⟩] 101)).cell? ⟨w.heap.size, 3, none⟩ = some (.int .i64 o) := (cell_of G2.out).trans rfl
  have c4 : (w1.alloc (.cells #[.string ⟨#[]⟩] 101)).cell? ⟨w.heap.size, 4, none⟩ = some (.int .i64 n) := (cell_of G2.out).trans rfl
  have c5 : (w1.alloc (.cells #[.string ⟨#[]⟩] 101)).cell? ⟨w.heap.size, 5, none⟩ = some (.string d) := (cell_of G2.out).trans rfl
  go_wp2_with fail
  generalize (w1.alloc (.cells #[.string ⟨#[]⟩] 101)) = w2 at *
  generalize w1.heap.size = p at *
  refine (zu8_any p [] 4 w2 H2.out (by omega) (by simp)).mono ?_
  rintro e w3 ⟨rfl, h3, hc3⟩
  have g3 : w3.heap[w.heap.size]? = _ := (hc3.block _ (lt_of_heap G2.out) hne.1).trans G2.out
  have b3 : Below w.heap.size w w3 := B2.out.trans (hc3.below B2.out.size (fun i hi h => by omega))
  clear hc3 G2 B2 H2
  clear c0 c1 c2 c3 c4 c5
  have G3 := hid g3
  have B3 := hid b3
  have H3 := hid h3
  clear g3 b3 h3
  have c0 : w3.cell? ⟨w.heap.size, 0, none⟩ = some (.int .i64 4) := (cell_of G3.out).trans rfl
  have c1 : w3.cell? ⟨w.heap.size, 1, none⟩ = some (.int .i64 0) := (cell_of G3.out).trans rfl
  have c2 : w3.cell? ⟨w.heap.size, 2, none⟩ = some (.bool b) := (cell_of G3.out).trans rfl
  have c3 : w3.cell? ⟨w.heap.size, 3, none⟩ = some (.int .i64 o) := (cell_of G3.out).trans rfl
  have c4 : w3.cell? ⟨w.heap.size, 4, none⟩ = some (.int .i64 n) := (cell_of G3.out).trans rfl
  have c5 : w3.cell? ⟨w.heap.size, 5, none⟩ = some (.string d) := (cell_of G3.out).trans rfl
  go_wp2_with fail
  refine (zi32_any p ([] ++ nb 1 4) 0 w3 H3.out (by omega) (by omega) (by simp [nb_len])).mono ?_
  rintro e w4 ⟨rfl, h4, hc4⟩
  have g4 : w4.heap[w.heap.size]? = _ := (hc4.block _ (lt_of_heap G3.out) hne.1).trans G3.out
  have b4 : Below w.heap.size w w4 := B3.out.trans (hc4.below B3.out.size (fun i hi h => by omega))
  clear hc4 G3 B3 H3
  clear c0 c1 c2 c3 c4 c5
  have G4 := hid g4
  have B4 := hid b4
  have H4 := hid h4
  clear g4 b4 h4
  have c0 : w4.cell? ⟨w.heap.size, 0, none⟩ = some (.int .i64 4) := (cell_of G4.out).trans rfl
  have c1 : w4.cell? ⟨w.heap.size, 1, none⟩ = some (.int .i64 0) := (cell_of G4.out).trans rfl
  have c2 : w4.cell? ⟨w.heap.size, 2, none⟩ = some (.bool b) := (cell_of G4.out).trans rfl
  have c3 : w4.cell? ⟨w.heap.size, 3, none⟩ = some (.int .i64 o) := (cell_of G4.out).trans rfl
  have c4 : w4.cell? ⟨w.heap.size, 4, none⟩ = some (.int .i64 n) := (cell_of G4.out).trans rfl
  have c5 : w4.cell? ⟨w.heap.size, 5, none⟩ = some (.string d) := (cell_of G4.out).trans rfl
  go_wp2_with fail
  refine (zi64_any p (([] ++ nb 1 4) ++ nb 4 (0 : Int).toNat) n w4 H4.out (by simp [nb_len])).mono ?_
  rintro e w5 ⟨rfl, h5, hc5⟩
  have g5 : w5.heap[w.heap.size]? = _ := (hc5.block _ (lt_of_heap G4.out) hne.1).trans G4.out
  have b5 : Below w.heap.size w w5 := B4.out.trans (hc5.below B4.out.size (fun i hi h => by omega))
  clear hc5 G4 B4 H4
  clear c0 c1 c2 c3 c4 c5
  have G5 := hid g5
  have B5 := hid b5
  have H5 := hid h5
  clear g5 b5 h5
  have c0 : w5.cell? ⟨w.heap.size, 0, none⟩ = some (.int .i64 4) := (cell_of G5.out).trans rfl
  have c1 : w5.cell? ⟨w.heap.size, 1, none⟩ = some (.int .i64 0) := (cell_of G5.out).trans rfl
  have c2 : w5.cell? ⟨w.heap.size, 2, none⟩ = some (.bool b) := (cell_of G5.out).trans rfl
  have c3 : w5.cell? ⟨w.heap.size, 3, none⟩ = some (.int .i64 o) := (cell_of G5.out).trans rfl
  have c4 : w5.cell? ⟨w.heap.size, 4, none⟩ = some (.int .i64 n) := (cell_of G5.out).trans rfl
  have c5 : w5.cell? ⟨w.heap.size, 5, none⟩ = some (.string d) := (cell_of G5.out).trans rfl
  go_wp2_with fail
  refine (xwbytes_any p _ w5 H5.out).mono ?_
  rintro e w6 ⟨rfl, rfl⟩
  go_wp2_with fail
  go_ret2
  exact ⟨rfl, B5.out⟩
set_option maxHeartbeats 1000000 in
set_option maxRecDepth 20000 in
theorem zrep_5 (b : Bool) (o n : Int) (d : ByteArray) (w : World) :
    Calls Tryz.prog 9 #[.agg #[.int .i64 5, .int .i64 0, .bool b, .int .i64 o, .int .i64 n, .string d]] w fun e w' => e = .returned (.tuple #[.string (bs ((([] ++ nb 1 5) ++ nb 4 (0 : Int).toNat) ++ nb 8 (un o))), .int .i64 0]) ∧ Below w.heap.size w w' := by
  have g1 : (w.alloc (.cells #[.int .i64 5, .int .i64 0, .bool b, .int .i64 o, .int .i64 n, .string d] 27)).heap[w.heap.size]? = some (.cells #[.int .i64 5, .int .i64 0, .bool b, .int .i64 o, .int .i64 n, .string d] 27 (0, 0)) := heap_new _ _
  have b1 : Below w.heap.size w (w.alloc (.cells #[.int .i64 5, .int .i64 0, .bool b, .int .i64 o, .int .i64 n, .string d] 27)) := (Below.refl _ _).alloc (Nat.le_refl _) _
  go_enter Tryz.func9, Tryz.ntmps9
  go_wp2_with fail
  generalize w.alloc (.cells #[.int .i64 5, .int .i64 0, .bool b, .int .i64 o, .int .i64 n, .string d] 27) = w1 at *
  refine (xknown_yes _ w1 (by omega)).mono ?_
  rintro e w1 ⟨rfl, rfl⟩
  have c0 : w1.cell? ⟨w.heap.size, 0, none⟩ = some (.int .i64 5) := (cell_of g1).trans rfl
  have c1 : w1.cell? ⟨w.heap.size, 1, none⟩ = some (.int .i64 0) := (cell_of g1).trans rfl
  have c2 : w1.cell? ⟨w.heap.size, 2, none⟩ = some (.bool b) := (cell_of g1).trans rfl
  have c3 : w1.cell? ⟨w.heap.size, 3, none⟩ = some (.int .i64 o) := (cell_of g1).trans rfl
  have c4 : w1.cell? ⟨w.heap.size, 4, none⟩ = some (.int .i64 n) := (cell_of g1).trans rfl
  have c5 : w1.cell? ⟨w.heap.size, 5, none⟩ = some (.string d) := (cell_of g1).trans rfl
  have hlt := lt_of_heap g1
  have G1 := hid g1
  have B1 := hid b1
  clear g1 b1
  go_wp2_with fail
  refine (xnewwriter_any w1).mono ?_
  rintro e w2 ⟨rfl, rfl⟩
  have h2 : WX (w1.alloc (.cells #[.string ⟨#[]⟩] 101)) w1.heap.size (bs []) := heap_new _ _
  have g2 : (w1.alloc (.cells #[.string ⟨#[]⟩] 101)).heap[w.heap.size]? = some (.cells #[.int .i64 5, .int .i64 0, .bool b, .int .i64 o, .int .i64 n, .string d] 27 (0, 0)) := heap_alloc_at G1.out
  have b2 : Below w.heap.size w (w1.alloc (.cells #[.string ⟨#[]⟩] 101)) := B1.out.alloc B1.out.size _
  have hne : w.heap.size ≠ w1.heap.size ∧ w.heap.size ≤ w1.heap.size := by omega
  clear G1 B1 hlt
  clear c0 c1 c2 c3 c4 c5
  have G2 := hid g2
  have B2 := hid b2
  have H2 := hid h2
  clear g2 b2 h2
  have c0 : (w1.alloc (.cells #[.string ⟨#[]⟩] 101)).cell? ⟨w.heap.size, 0, none⟩ = some (.int .i64 5) := (cell_of G2.out).trans rfl
  have c1 : (w1.alloc (.cells #[.string ⟨#[]⟩] 101)).cell? ⟨w.heap.size, 1, none⟩ = some (.int .i64 0) := (cell_of G2.out).trans rfl
  have c2 : (w1.alloc (.cells #[.string ⟨#[]⟩] 101)).cell? ⟨w.heap.size, 2, none⟩ = some (.bool b) := (cell_of G2.out).trans rfl
  have c3 : (w1.alloc (.cells #[.string ⟨#[]⟩] 101)).cell? ⟨w.heap.size, 3, none⟩ = some (.int .i64 o) := (cell_of G2.out).trans rfl
  have c4 : (w1.alloc (.cells #[.string ⟨#[]⟩] 101)).cell? ⟨w.heap.size, 4, none⟩ = some (.int .i64 n) := (cell_of G2.out).trans rfl
  have c5 : (w1.alloc (.cells #[.string ⟨#[]⟩] 101)).cell? ⟨w.heap.size, 5, none⟩ = some (.string d) := (cell_of G2.out).trans rfl
  go_wp2_with fail
  generalize (w1.alloc (.cells #[.string ⟨#[]⟩] 101)) = w2 at *
  generalize w1.heap.size = p at *
  refine (zu8_any p [] 5 w2 H2.out (by omega) (by simp)).mono ?_
  rintro e w3 ⟨rfl, h3, hc3⟩
  have g3 : w3.heap[w.heap.size]? = _ := (hc3.block _ (lt_of_heap G2.out) hne.1).trans G2.out
  have b3 : Below w.heap.size w w3 := B2.out.trans (hc3.below B2.out.size (fun i hi h => by omega))
  clear hc3 G2 B2 H2
  clear c0 c1 c2 c3 c4 c5
  have G3 := hid g3
  have B3 := hid b3
  have H3 := hid h3
  clear g3 b3 h3
  have c0 : w3.cell? ⟨w.heap.size, 0, none⟩ = some (.int .i64 5) := (cell_of G3.out).trans rfl
  have c1 : w3.cell? ⟨w.heap.size, 1, none⟩ = some (.int .i64 0) := (cell_of G3.out).trans rfl
  have c2 : w3.cell? ⟨w.heap.size, 2, none⟩ = some (.bool b) := (cell_of G3.out).trans rfl
  have c3 : w3.cell? ⟨w.heap.size, 3, none⟩ = some (.int .i64 o) := (cell_of G3.out).trans rfl
  have c4 : w3.cell? ⟨w.heap.size, 4, none⟩ = some (.int .i64 n) := (cell_of G3.out).trans rfl
  have c5 : w3.cell? ⟨w.heap.size, 5, none⟩ = some (.string d) := (cell_of G3.out).trans rfl
  go_wp2_with fail
  refine (zi32_any p ([] ++ nb 1 5) 0 w3 H3.out (by omega) (by omega) (by simp [nb_len])).mono ?_
  rintro e w4 ⟨rfl, h4, hc4⟩
  have g4 : w4.heap[w.heap.size]? = _ := (hc4.block _ (lt_of_heap G3.out) hne.1).trans G3.out
  have b4 : Below w.heap.size w w4 := B3.out.trans (hc4.below B3.out.size (fun i hi h => by omega))
  clear hc4 G3 B3 H3
  clear c0 c1 c2 c3 c4 c5
  have G4 := hid g4
  have B4 := hid b4
  have H4 := hid h4
  clear g4 b4 h4
  have c0 : w4.cell? ⟨w.heap.size, 0, none⟩ = some (.int .i64 5) := (cell_of G4.out).trans rfl
  have c1 : w4.cell? ⟨w.heap.size, 1, none⟩ = some (.int .i64 0) := (cell_of G4.out).trans rfl
  have c2 : w4.cell? ⟨w.heap.size, 2, none⟩ = some (.bool b) := (cell_of G4.out).trans rfl
  have c3 : w4.cell? ⟨w.heap.size, 3, none⟩ = some (.int .i64 o) := (cell_of G4.out).trans rfl
  have c4 : w4.cell? ⟨w.heap.size, 4, none⟩ = some (.int .i64 n) := (cell_of G4.out).trans rfl
  have c5 : w4.cell? ⟨w.heap.size, 5, none⟩ = some (.string d) := (cell_of G4.out).trans rfl
  go_wp2_with fail
  refine (zi64_any p (([] ++ nb 1 5) ++ nb 4 (0 : Int).toNat) o w4 H4.out (by simp [nb_len])).mono ?_
  rintro e w5 ⟨rfl, h5, hc5⟩
  have g5 : w5.heap[w.heap.size]? = _ := (hc5.block _ (lt_of_heap G4.out) hne.1).trans G4.out
  have b5 : Below w.heap.size w w5 := B4.out.trans (hc5.below B4.out.size (fun i hi h => by omega))
  clear hc5 G4 B4 H4
  clear c0 c1 c2 c3 c4 c5
  have G5 := hid g5
  have B5 := hid b5
  have H5 := hid h5
  clear g5 b5 h5
  have c0 : w5.cell? ⟨w.heap.size, 0, none⟩ = some (.int .i64 5) := (cell_of G5.out).trans rfl
  have c1 : w5.cell? ⟨w.heap.size, 1, none⟩ = some (.int .i64 0) := (cell_of G5.out).trans rfl
  have c2 : w5.cell? ⟨w.heap.size, 2, none⟩ = some (.bool b) := (cell_of G5.out).trans rfl
  have c3 : w5.cell? ⟨w.heap.size, 3, none⟩ = some (.int .i64 o) := (cell_of G5.out).trans rfl
  have c4 : w5.cell? ⟨w.heap.size, 4, none⟩ = some (.int .i64 n) := (cell_of G5.out).trans rfl
  have c5 : w5.cell? ⟨w.heap.size, 5, none⟩ = some (.string d) := (cell_of G5.out).trans rfl
  go_wp2_with fail
  refine (xwbytes_any p _ w5 H5.out).mono ?_
  rintro e w6 ⟨rfl, rfl⟩
  go_wp2_with fail
  go_ret2
  exact ⟨rfl, B5.out⟩
set_option maxHeartbeats 1000000 in
set_option maxRecDepth 20000 in
theorem zrep_6 (b : Bool) (o n : Int) (d : ByteArray) (w : World) :
    Calls Tryz.prog 9 #[.agg #[.int .i64 6, .int .i64 0, .bool b, .int .i64 o, .int .i64 n, .string d]] w fun e w' => e = .returned (.tuple #[.string (bs (((([] ++ nb 1 6) ++ nb 4 (0 : Int).toNat) ++ nb 8 (un o)) ++ nb 8 (un n))), .int .i64 0]) ∧ Below w.heap.size w w' := by
  have g1 : (w.alloc (.cells #[.int .i64 6, .int .i64 0, .bool b, .int .i64 o, .int .i64 n, .string d] 27)).heap[w.heap.size]? = some (.cells #[.int .i64 6, .int .i64 0, .bool b, .int .i64 o, .int .i64 n, .string d] 27 (0, 0)) := heap_new _ _
  have b1 : Below w.heap.size w (w.alloc (.cells #[.int .i64 6, .int .i64 0, .bool b, .int .i64 o, .int .i64 n, .string d] 27)) := (Below.refl _ _).alloc (Nat.le_refl _) _
  go_enter Tryz.func9, Tryz.ntmps9
  go_wp2_with fail
  generalize w.alloc (.cells #[.int .i64 6, .int .i64 0, .bool b, .int .i64 o, .int .i64 n, .string d] 27) = w1 at *
  refine (xknown_yes _ w1 (by omega)).mono ?_
  rintro e w1 ⟨rfl, rfl⟩
  have c0 : w1.cell? ⟨w.heap.size, 0, none⟩ = some (.int .i64 6) := (cell_of g1).trans rfl
  have c1 : w1.cell? ⟨w.heap.size, 1, none⟩ = some (.int .i64 0) := (cell_of g1).trans rfl
  have c2 : w1.cell? ⟨w.heap.size, 2, none⟩ = some (.bool b) := (cell_of g1).trans rfl
  have c3 : w1.cell? ⟨w.heap.size, 3, none⟩ = some (.int .i64 o) := (cell_of g1).trans rfl
  have c4 : w1.cell? ⟨w.heap.size, 4, none⟩ = some (.int .i64 n) := (cell_of g1).trans rfl
  have c5 : w1.cell? ⟨w.heap.size, 5, none⟩ = some (.string d) := (cell_of g1).trans rfl
  have hlt := lt_of_heap g1
  have G1 := hid g1
  have B1 := hid b1
  clear g1 b1
  go_wp2_with fail
  refine (xnewwriter_any w1).mono ?_
  rintro e w2 ⟨rfl, rfl⟩
  have h2 : WX (w1.alloc (.cells #[.string ⟨#[]⟩] 101)) w1.heap.size (bs []) := heap_new _ _
  have g2 : (w1.alloc (.cells #[.string ⟨#[]⟩] 101)).heap[w.heap.size]? = some (.cells #[.int .i64 6, .int .i64 0, .bool b, .int .i64 o, .int .i64 n, .string d] 27 (0, 0)) := heap_alloc_at G1.out
  have b2 : Below w.heap.size w (w1.alloc (.cells #[.string ⟨#[]⟩] 101)) := B1.out.alloc B1.out.size _
  have hne : w.heap.size ≠ w1.heap.size ∧ w.heap.size ≤ w1.heap.size := by omega
  clear G1 B1 hlt
  clear c0 c1 c2 c3 c4 c5
  have G2 := hid g2
  have B2 := hid b2
  have H2 := hid h2
  clear g2 b2 h2
  have c0 : (w1.alloc (.cells #[.string ⟨#[]⟩] 101)).cell? ⟨w.heap.size, 0, none⟩ = some (.int .i64 6) := (cell_of G2.out).trans rfl
  have c1 : (w1.alloc (.cells #[.string ⟨#[]⟩] 101)).cell? ⟨w.heap.size, 1, none⟩ = some (.int .i64 0) := (cell_of G2.out).trans rfl
  have c2 : (w1.alloc (.cells #[.string ⟨#[]⟩] 101)).cell? ⟨w.heap.size, 2, none⟩ = some (.bool b) := (cell_of G2.out).trans rfl
  have c3 : (w1.alloc (.cells #[.string ⟨#[]⟩] 101)).cell? ⟨w.heap.size, 3, none⟩ = some (.int .i64 o) := (cell_of G2.out).trans rfl
  have c4 : (w1.alloc (.cells #[.string ⟨#[]⟩] 101)).cell? ⟨w.heap.size, 4, none⟩ = some (.int .i64 n) := (cell_of G2.out).trans rfl
  have c5 : (w1.alloc (.cells #[.string ⟨#[]⟩] 101)).cell? ⟨w.heap.size, 5, none⟩ = some (.string d) := (cell_of G2.out).trans rfl
  go_wp2_with fail
  generalize (w1.alloc (.cells #[.string ⟨#[]⟩] 101)) = w2 at *
  generalize w1.heap.size = p at *
  refine (zu8_any p [] 6 w2 H2.out (by omega) (by simp)).mono ?_
  rintro e w3 ⟨rfl, h3, hc3⟩
  have g3 : w3.heap[w.heap.size]? = _ := (hc3.block _ (lt_of_heap G2.out) hne.1).trans G2.out
  have b3 : Below w.heap.size w w3 := B2.out.trans (hc3.below B2.out.size (fun i hi h => by omega))
  clear hc3 G2 B2 H2
  clear c0 c1 c2 c3 c4 c5
  have G3 := hid g3
  have B3 := hid b3
  have H3 := hid h3
  clear g3 b3 h3
  have c0 : w3.cell? ⟨w.heap.size, 0, none⟩ = some (.int .i64 6) := (cell_of G3.out).trans rfl
  have c1 : w3.cell? ⟨w.heap.size, 1, none⟩ = some (.int .i64 0) := (cell_of G3.out).trans rfl
  have c2 : w3.cell? ⟨w.heap.size, 2, none⟩ = some (.bool b) := (cell_of G3.out).trans rfl
  have c3 : w3.cell? ⟨w.heap.size, 3, none⟩ = some (.int .i64 o) := (cell_of G3.out).trans rfl
  have c4 : w3.cell? ⟨w.heap.size, 4, none⟩ = some (.int .i64 n) := (cell_of G3.out).trans rfl
  have c5 : w3.cell? ⟨w.heap.size, 5, none⟩ = some (.string d) := (cell_of G3.out).trans rfl
  go_wp2_with fail
  refine (zi32_any p ([] ++ nb 1 6) 0 w3 H3.out (by omega) (by omega) (by simp [nb_len])).mono ?_
  rintro e w4 ⟨rfl, h4, hc4⟩
  have g4 : w4.heap[w.heap.size]? = _ := (hc4.block _ (lt_of_heap G3.out) hne.1).trans G3.out
  have b4 : Below w.heap.size w w4 := B3.out.trans (hc4.below B3.out.size (fun i hi h => by omega))
  clear hc4 G3 B3 H3
  clear c0 c1 c2 c3 c4 c5
  have G4 := hid g4
  have B4 := hid b4
  have H4 := hid h4
  clear g4 b4 h4
  have c0 : w4.cell? ⟨w.heap.size, 0, none⟩ = some (.int .i64 6) := (cell_of G4.out).trans rfl
  have c1 : w4.cell? ⟨w.heap.size, 1, none⟩ = some (.int .i64 0) := (cell_of G4.out).trans rfl
  have c2 : w4.cell? ⟨w.heap.size, 2, none⟩ = some (.bool b) := (cell_of G4.out).trans rfl
  have c3 : w4.cell? ⟨w.heap.size, 3, none⟩ = some (.int .i64 o) := (cell_of G4.out).trans rfl
  have c4 : w4.cell? ⟨w.heap.size, 4, none⟩ = some (.int .i64 n) := (cell_of G4.out).trans rfl
  have c5 : w4.cell? ⟨w.heap.size, 5, none⟩ = some (.string d) := (cell_of G4.out).trans rfl
  go_wp2_with fail
  refine (zi64_any p (([] ++ nb 1 6) ++ nb 4 (0 : Int).toNat) o w4 H4.out (by simp [nb_len])).mono ?_
  rintro e w5 ⟨rfl, h5, hc5⟩
  have g5 : w5.heap[w.heap.size]? = _ := (hc5.block _ (lt_of_heap G4.out) hne.1).trans G4.out
  have b5 : Below w.heap.size w w5 := B4.out.trans (hc5.below B4.out.size (fun i hi h => by omega))
  clear hc5 G4 B4 H4
  clear c0 c1 c2 c3 c4 c5
  have G5 := hid g5
  have B5 := hid b5
  have H5 := hid h5
  clear g5 b5 h5
  have c0 : w5.cell? ⟨w.heap.size, 0, none⟩ = some (.int .i64 6) := (cell_of G5.out).trans rfl
  have c1 : w5.cell? ⟨w.heap.size, 1, none⟩ = some (.int .i64 0) := (cell_of G5.out).trans rfl
  have c2 : w5.cell? ⟨w.heap.size, 2, none⟩ = some (.bool b) := (cell_of G5.out).trans rfl
  have c3 : w5.cell? ⟨w.heap.size, 3, none⟩ = some (.int .i64 o) := (cell_of G5.out).trans rfl
  have c4 : w5.cell? ⟨w.heap.size, 4, none⟩ = some (.int .i64 n) := (cell_of G5.out).trans rfl
  have c5 : w5.cell? ⟨w.heap.size, 5, none⟩ = some (.string d) := (cell_of G5.out).trans rfl
  go_wp2_with fail
  refine (zi64_any p ((([] ++ nb 1 6) ++ nb 4 (0 : Int).toNat) ++ nb 8 (un o)) n w5 H5.out (by simp [nb_len])).mono ?_
  rintro e w6 ⟨rfl, h6, hc6⟩
  have g6 : w6.heap[w.heap.size]? = _ := (hc6.block _ (lt_of_heap G5.out) hne.1).trans G5.out
  have b6 : Below w.heap.size w w6 := B5.out.trans (hc6.below B5.out.size (fun i hi h => by omega))
  clear hc6 G5 B5 H5
  clear c0 c1 c2 c3 c4 c5
  have G6 := hid g6
  have B6 := hid b6
  have H6 := hid h6
  clear g6 b6 h6
  have c0 : w6.cell? ⟨w.heap.size, 0, none⟩ = some (.int .i64 6) := (cell_of G6.out).trans rfl
  have c1 : w6.cell? ⟨w.heap.size, 1, none⟩ = some (.int .i64 0) := (cell_of G6.out).trans rfl
  have c2 : w6.cell? ⟨w.heap.size, 2, none⟩ = some (.bool b) := (cell_of G6.out).trans rfl
  have c3 : w6.cell? ⟨w.heap.size, 3, none⟩ = some (.int .i64 o) := (cell_of G6.out).trans rfl
  have c4 : w6.cell? ⟨w.heap.size, 4, none⟩ = some (.int .i64 n) := (cell_of G6.out).trans rfl
  have c5 : w6.cell? ⟨w.heap.size, 5, none⟩ = some (.string d) := (cell_of G6.out).trans rfl
  go_wp2_with fail
  refine (xwbytes_any p _ w6 H6.out).mono ?_
  rintro e w7 ⟨rfl, rfl⟩
  go_wp2_with fail
  go_ret2
  exact ⟨rfl, B6.out⟩
end Go.Proofs.YtgdaaohlongmlaaGreat
namespace Go.Proofs.YtgdaaohlongmlaaGreat
open Go.RowKit
set_option maxHeartbeats 1000000 in
set_option maxRecDepth 20000 in
theorem zrep_long (b : Bool) (o n : Int) (d : ByteArray) (w : World) (hd : 1073741824 < d.size) :
    Calls Tryz.prog 9 #[.agg #[.int .i64 2, .int .i64 0, .bool b, .int .i64 o, .int .i64 n, .string d]] w fun e w' => e = .returned (.tuple #[.string ⟨#[]⟩, .int .i64 21]) ∧ Below w.heap.size w w' := by
  have hdl : (1073741824 : Int) < (d.size : Int) := by omega
  have g1 : (w.alloc (.cells #[.int .i64 2, .int .i64 0, .bool b, .int .i64 o, .int .i64 n, .string d] 27)).heap[w.heap.size]? = some (.cells #[.int .i64 2, .int .i64 0, .bool b, .int .i64 o, .int .i64 n, .string d] 27 (0, 0)) := heap_new _ _
  have b1 : Below w.heap.size w (w.alloc (.cells #[.int .i64 2, .int .i64 0, .bool b, .int .i64 o, .int .i64 n, .string d] 27)) := (Below.refl _ _).alloc (Nat.le_refl _) _
  go_enter Tryz.func9, Tryz.ntmps9
  go_wp2_with fail
  generalize w.alloc (.cells #[.int .i64 2, .int .i64 0, .bool b, .int .i64 o, .int .i64 n, .string d] 27) = w1 at *
  refine (xknown_yes _ w1 (by omega)).mono ?_
  rintro e w1 ⟨rfl, rfl⟩
  have c0 : w1.cell? ⟨w.heap.size, 0, none⟩ = some (.int .i64 2) := (cell_of g1).trans rfl
  have c1 : w1.cell? ⟨w.heap.size, 1, none⟩ = some (.int .i64 0) := (cell_of g1).trans rfl
  have c2 : w1.cell? ⟨w.heap.size, 2, none⟩ = some (.bool b) := (cell_of g1).trans rfl
  have c3 : w1.cell? ⟨w.heap.size, 3, none⟩ = some (.int .i64 o) := (cell_of g1).trans rfl
  have c4 : w1.cell? ⟨w.heap.size, 4, none⟩ = some (.int .i64 n) := (cell_of g1).trans rfl
  have c5 : w1.cell? ⟨w.heap.size, 5, none⟩ = some (.string d) := (cell_of g1).trans rfl
  have hlt := lt_of_heap g1
  have G1 := hid g1
  have B1 := hid b1
  clear g1 b1
  go_wp2_with fail
  refine (xnewwriter_any w1).mono ?_
  rintro e w2 ⟨rfl, rfl⟩
  have h2 : WX (w1.alloc (.cells #[.string ⟨#[]⟩] 101)) w1.heap.size (bs []) := heap_new _ _
  have g2 : (w1.alloc (.cells #[.string ⟨#[]⟩] 101)).heap[w.heap.size]? = some (.cells #[.int .i64 2, .int .i64 0, .bool b, .int .i64 o, .int .i64 n, .string d] 27 (0, 0)) := heap_alloc_at G1.out
  have b2 : Below w.heap.size w (w1.alloc (.cells #[.string ⟨#[]⟩] 101)) := B1.out.alloc B1.out.size _
  have hne : w.heap.size ≠ w1.heap.size ∧ w.heap.size ≤ w1.heap.size := by omega
  clear G1 B1 hlt
  clear c0 c1 c2 c3 c4 c5
  have G2 := hid g2
  have B2 := hid b2
  have H2 := hid h2
  clear g2 b2 h2
  have c0 : (w1.alloc (.cells #[.string ⟨#[]⟩] 101)).cell? ⟨w.heap.size, 0, none⟩ = some (.int .i64 2) := (cell_of G2.out).trans rfl
  have c1 : (w1.alloc (.cells #[.string ⟨#[]⟩] 101)).cell? ⟨w.heap.size, 1, none⟩ = some (.int .i64 0) := (cell_of G2.out).trans rfl
  have c2 : (w1.alloc (.cells #[.string ⟨#[]⟩] 101)).cell? ⟨w.heap.size, 2, none⟩ = some (.bool b) := (cell_of G2.out).trans rfl
  have c3 : (w1.alloc (.cells #[.string ⟨#[]⟩] 101)).cell? ⟨w.heap.size, 3, none⟩ = some (.int .i64 o) := (cell_of G2.out).trans rfl
  have c4 : (w1.alloc (.cells #[.string ⟨#[]⟩] 101)).cell? ⟨w.heap.size, 4, none⟩ = some (.int .i64 n) := (cell_of G2.out).trans rfl
  have c5 : (w1.alloc (.cells #[.string ⟨#[]⟩] 101)).cell? ⟨w.heap.size, 5, none⟩ = some (.string d) := (cell_of G2.out).trans rfl
  go_wp2_with fail
  generalize (w1.alloc (.cells #[.string ⟨#[]⟩] 101)) = w2 at *
  generalize w1.heap.size = p at *
  refine (zu8_any p [] 2 w2 H2.out (by omega) (by simp)).mono ?_
  rintro e w3 ⟨rfl, h3, hc3⟩
  have g3 : w3.heap[w.heap.size]? = _ := (hc3.block _ (lt_of_heap G2.out) hne.1).trans G2.out
  have b3 : Below w.heap.size w w3 := B2.out.trans (hc3.below B2.out.size (fun i hi h => by omega))
  clear hc3 G2 B2 H2
  clear c0 c1 c2 c3 c4 c5
  have G3 := hid g3
  have B3 := hid b3
  have H3 := hid h3
  clear g3 b3 h3
  have c0 : w3.cell? ⟨w.heap.size, 0, none⟩ = some (.int .i64 2) := (cell_of G3.out).trans rfl
  have c1 : w3.cell? ⟨w.heap.size, 1, none⟩ = some (.int .i64 0) := (cell_of G3.out).trans rfl
  have c2 : w3.cell? ⟨w.heap.size, 2, none⟩ = some (.bool b) := (cell_of G3.out).trans rfl
  have c3 : w3.cell? ⟨w.heap.size, 3, none⟩ = some (.int .i64 o) := (cell_of G3.out).trans rfl
  have c4 : w3.cell? ⟨w.heap.size, 4, none⟩ = some (.int .i64 n) := (cell_of G3.out).trans rfl
  have c5 : w3.cell? ⟨w.heap.size, 5, none⟩ = some (.string d) := (cell_of G3.out).trans rfl
  go_wp2_with fail
  refine (zi32_any p ([] ++ nb 1 2) 0 w3 H3.out (by omega) (by omega) (by simp [nb_len])).mono ?_
  rintro e w4 ⟨rfl, h4, hc4⟩
  have g4 : w4.heap[w.heap.size]? = _ := (hc4.block _ (lt_of_heap G3.out) hne.1).trans G3.out
  have b4 : Below w.heap.size w w4 := B3.out.trans (hc4.below B3.out.size (fun i hi h => by omega))
  clear hc4 G3 B3 H3
  clear c0 c1 c2 c3 c4 c5
  have G4 := hid g4
  have B4 := hid b4
  have H4 := hid h4
  clear g4 b4 h4
  have c0 : w4.cell? ⟨w.heap.size, 0, none⟩ = some (.int .i64 2) := (cell_of G4.out).trans rfl
  have c1 : w4.cell? ⟨w.heap.size, 1, none⟩ = some (.int .i64 0) := (cell_of G4.out).trans rfl
  have c2 : w4.cell? ⟨w.heap.size, 2, none⟩ = some (.bool b) := (cell_of G4.out).trans rfl
  have c3 : w4.cell? ⟨w.heap.size, 3, none⟩ = some (.int .i64 o) := (cell_of G4.out).trans rfl
  have c4 : w4.cell? ⟨w.heap.size, 4, none⟩ = some (.int .i64 n) := (cell_of G4.out).trans rfl
  have c5 : w4.cell? ⟨w.heap.size, 5, none⟩ = some (.string d) := (cell_of G4.out).trans rfl
  go_wp2_with fail
  go_ret2
  exact ⟨rfl, B4.out⟩
set_option maxHeartbeats 1000000 in
set_option maxRecDepth 20000 in
theorem zrep_err (v : Nat) (r : Int) (b : Bool) (o n : Int) (d : ByteArray) (w : World) (hv : 1 ≤ (v : Int) ∧ (v : Int) ≤ 6) (hr : r ≠ 0) (hlo : 0 ≤ r) (hhi : r ≤ 2147483647) :
    Calls Tryz.prog 9 #[.agg #[.int .i64 v, .int .i64 r, .bool b, .int .i64 o, .int .i64 n, .string d]] w fun e w' => e = .returned (.tuple #[.string (bs (([] ++ nb 1 v) ++ nb 4 (r : Int).toNat)), .int .i64 0]) ∧ Below w.heap.size w w' := by
  have hv0 : ((v : Int) == 0) = false := by rw [beq_eq_false_iff_ne]; omega
  have hv1 : ((v : Int) != 0) = true := by rw [bne_iff_ne]; omega
  have hw : IntKind.u8.wrap (v : Int) = v := by rw [IntKind.wrap_u8]; omega
  have hwr : IntKind.i32.wrap r = r := by simp only [IntKind.wrap, IntKind.bits, IntKind.signed, Bool.true_and]; split <;> rename_i h <;> simp at h <;> omega
  have hr0 : (r == 0) = false := by rw [beq_eq_false_iff_ne]; exact hr
  have hr1 : (r != 0) = true := by rw [bne_iff_ne]; exact hr
  have g1 : (w.alloc (.cells #[.int .i64 v, .int .i64 r, .bool b, .int .i64 o, .int .i64 n, .string d] 27)).heap[w.heap.size]? = some (.cells #[.int .i64 v, .int .i64 r, .bool b, .int .i64 o, .int .i64 n, .string d] 27 (0, 0)) := heap_new _ _
  have b1 : Below w.heap.size w (w.alloc (.cells #[.int .i64 v, .int .i64 r, .bool b, .int .i64 o, .int .i64 n, .string d] 27)) := (Below.refl _ _).alloc (Nat.le_refl _) _
  go_enter Tryz.func9, Tryz.ntmps9
  go_wp2_with fail
  generalize w.alloc (.cells #[.int .i64 v, .int .i64 r, .bool b, .int .i64 o, .int .i64 n, .string d] 27) = w1 at *
  refine (xknown_yes _ w1 (by omega)).mono ?_
  rintro e w1 ⟨rfl, rfl⟩
  have c0 : w1.cell? ⟨w.heap.size, 0, none⟩ = some (.int .i64 v) := (cell_of g1).trans rfl
  have c1 : w1.cell? ⟨w.heap.size, 1, none⟩ = some (.int .i64 r) := (cell_of g1).trans rfl
  have c2 : w1.cell? ⟨w.heap.size, 2, none⟩ = some (.bool b) := (cell_of g1).trans rfl
  have c3 : w1.cell? ⟨w.heap.size, 3, none⟩ = some (.int .i64 o) := (cell_of g1).trans rfl
  have c4 : w1.cell? ⟨w.heap.size, 4, none⟩ = some (.int .i64 n) := (cell_of g1).trans rfl
  have c5 : w1.cell? ⟨w.heap.size, 5, none⟩ = some (.string d) := (cell_of g1).trans rfl
  have hlt := lt_of_heap g1
  have G1 := hid g1
  have B1 := hid b1
  clear g1 b1
  go_wp2_with fail
  refine (xnewwriter_any w1).mono ?_
  rintro e w2 ⟨rfl, rfl⟩
  have h2 : WX (w1.alloc (.cells #[.string ⟨#[]⟩] 101)) w1.heap.size (bs []) := heap_new _ _
  have g2 : (w1.alloc (.cells #[.string ⟨#[]⟩] 101)).heap[w.heap.size]? = some (.cells #[.int .i64 v, .int .i64 r, .bool b, .int .i64 o, .int .i64 n, .string d] 27 (0, 0)) := heap_alloc_at G1.out
  have b2 : Below w.heap.size w (w1.alloc (.cells #[.string ⟨#[]⟩] 101)) := B1.out.alloc B1.out.size _
  have hne : w.heap.size ≠ w1.heap.size ∧ w.heap.size ≤ w1.heap.size := by omega
  clear G1 B1 hlt
  clear c0 c1 c2 c3 c4 c5
  have G2 := hid g2
  have B2 := hid b2
  have H2 := hid h2
  clear g2 b2 h2
  have c0 : (w1.alloc (.cells #[.string ⟨#[]⟩] 101)).cell? ⟨w.heap.size, 0, none⟩ = some (.int .i64 v) := (cell_of G2.out).trans rfl
  have c1 : (w1.alloc (.cells #[.string ⟨#[]⟩] 101)).cell? ⟨w.heap.size, 1, none⟩ = some (.int .i64 r) := (cell_of G2.out).trans rfl
  have c2 : (w1.alloc (.cells #[.string ⟨#[]⟩] 101)).cell? ⟨w.heap.size, 2, none⟩ = some (.bool b) := (cell_of G2.out).trans rfl
  have c3 : (w1.alloc (.cells #[.string ⟨#[]⟩] 101)).cell? ⟨w.heap.size, 3, none⟩ = some (.int .i64 o) := (cell_of G2.out).trans rfl
  have c4 : (w1.alloc (.cells #[.string ⟨#[]⟩] 101)).cell? ⟨w.heap.size, 4, none⟩ = some (.int .i64 n) := (cell_of G2.out).trans rfl
  have c5 : (w1.alloc (.cells #[.string ⟨#[]⟩] 101)).cell? ⟨w.heap.size, 5, none⟩ = some (.string d) := (cell_of G2.out).trans rfl
  go_wp2_with fail
  generalize (w1.alloc (.cells #[.string ⟨#[]⟩] 101)) = w2 at *
  generalize w1.heap.size = p at *
  refine (zu8_any p [] v w2 H2.out (by omega) (by simp)).mono ?_
  rintro e w3 ⟨rfl, h3, hc3⟩
  have g3 : w3.heap[w.heap.size]? = _ := (hc3.block _ (lt_of_heap G2.out) hne.1).trans G2.out
  have b3 : Below w.heap.size w w3 := B2.out.trans (hc3.below B2.out.size (fun i hi h => by omega))
  clear hc3 G2 B2 H2
  clear c0 c1 c2 c3 c4 c5
  have G3 := hid g3
  have B3 := hid b3
  have H3 := hid h3
  clear g3 b3 h3
  have c0 : w3.cell? ⟨w.heap.size, 0, none⟩ = some (.int .i64 v) := (cell_of G3.out).trans rfl
  have c1 : w3.cell? ⟨w.heap.size, 1, none⟩ = some (.int .i64 r) := (cell_of G3.out).trans rfl
  have c2 : w3.cell? ⟨w.heap.size, 2, none⟩ = some (.bool b) := (cell_of G3.out).trans rfl
  have c3 : w3.cell? ⟨w.heap.size, 3, none⟩ = some (.int .i64 o) := (cell_of G3.out).trans rfl
  have c4 : w3.cell? ⟨w.heap.size, 4, none⟩ = some (.int .i64 n) := (cell_of G3.out).trans rfl
  have c5 : w3.cell? ⟨w.heap.size, 5, none⟩ = some (.string d) := (cell_of G3.out).trans rfl
  go_wp2_with fail
  refine (zi32_any p ([] ++ nb 1 v) r w3 H3.out (by omega) (by omega) (by simp [nb_len])).mono ?_
  rintro e w4 ⟨rfl, h4, hc4⟩
  have g4 : w4.heap[w.heap.size]? = _ := (hc4.block _ (lt_of_heap G3.out) hne.1).trans G3.out
  have b4 : Below w.heap.size w w4 := B3.out.trans (hc4.below B3.out.size (fun i hi h => by omega))
  clear hc4 G3 B3 H3
  clear c0 c1 c2 c3 c4 c5
  have G4 := hid g4
  have B4 := hid b4
  have H4 := hid h4
  clear g4 b4 h4
  have c0 : w4.cell? ⟨w.heap.size, 0, none⟩ = some (.int .i64 v) := (cell_of G4.out).trans rfl
  have c1 : w4.cell? ⟨w.heap.size, 1, none⟩ = some (.int .i64 r) := (cell_of G4.out).trans rfl
  have c2 : w4.cell? ⟨w.heap.size, 2, none⟩ = some (.bool b) := (cell_of G4.out).trans rfl
  have c3 : w4.cell? ⟨w.heap.size, 3, none⟩ = some (.int .i64 o) := (cell_of G4.out).trans rfl
  have c4 : w4.cell? ⟨w.heap.size, 4, none⟩ = some (.int .i64 n) := (cell_of G4.out).trans rfl
  have c5 : w4.cell? ⟨w.heap.size, 5, none⟩ = some (.string d) := (cell_of G4.out).trans rfl
  go_wp2_with fail
  refine (xwbytes_any p _ w4 H4.out).mono ?_
  rintro e w5 ⟨rfl, rfl⟩
  go_wp2_with fail
  go_ret2
  exact ⟨rfl, B4.out⟩
set_option maxHeartbeats 1000000 in
set_option maxRecDepth 20000 in
theorem zrep_lo (v : Nat) (r : Int) (b : Bool) (o n : Int) (d : ByteArray) (w : World) (hv : 1 ≤ (v : Int) ∧ (v : Int) ≤ 6) (h0 : r < 0) :
    Calls Tryz.prog 9 #[.agg #[.int .i64 v, .int .i64 r, .bool b, .int .i64 o, .int .i64 n, .string d]] w fun e w' => e = .returned (.tuple #[.string ⟨#[]⟩, .int .i64 1]) ∧ Below w.heap.size w w' := by
  have hv0 : ((v : Int) == 0) = false := by rw [beq_eq_false_iff_ne]; omega
  have hv1 : ((v : Int) != 0) = true := by rw [bne_iff_ne]; omega
  have g1 : (w.alloc (.cells #[.int .i64 v, .int .i64 r, .bool b, .int .i64 o, .int .i64 n, .string d] 27)).heap[w.heap.size]? = some (.cells #[.int .i64 v, .int .i64 r, .bool b, .int .i64 o, .int .i64 n, .string d] 27 (0, 0)) := heap_new _ _
  have b1 : Below w.heap.size w (w.alloc (.cells #[.int .i64 v, .int .i64 r, .bool b, .int .i64 o, .int .i64 n, .string d] 27)) := (Below.refl _ _).alloc (Nat.le_refl _) _
  go_enter Tryz.func9, Tryz.ntmps9
  go_wp2_with fail
  generalize w.alloc (.cells #[.int .i64 v, .int .i64 r, .bool b, .int .i64 o, .int .i64 n, .string d] 27) = w1 at *
  refine (xknown_yes _ w1 (by omega)).mono ?_
  rintro e w1 ⟨rfl, rfl⟩
  have c0 : w1.cell? ⟨w.heap.size, 0, none⟩ = some (.int .i64 v) := (cell_of g1).trans rfl
  have c1 : w1.cell? ⟨w.heap.size, 1, none⟩ = some (.int .i64 r) := (cell_of g1).trans rfl
  have c2 : w1.cell? ⟨w.heap.size, 2, none⟩ = some (.bool b) := (cell_of g1).trans rfl
  have c3 : w1.cell? ⟨w.heap.size, 3, none⟩ = some (.int .i64 o) := (cell_of g1).trans rfl
  have c4 : w1.cell? ⟨w.heap.size, 4, none⟩ = some (.int .i64 n) := (cell_of g1).trans rfl
  have c5 : w1.cell? ⟨w.heap.size, 5, none⟩ = some (.string d) := (cell_of g1).trans rfl
  have hlt := lt_of_heap g1
  have G1 := hid g1
  have B1 := hid b1
  clear g1 b1
  go_wp2_with fail
  go_ret2
  exact ⟨rfl, B1.out⟩
set_option maxHeartbeats 1000000 in
set_option maxRecDepth 20000 in
theorem zrep_hi (v : Nat) (r : Int) (b : Bool) (o n : Int) (d : ByteArray) (w : World) (hv : 1 ≤ (v : Int) ∧ (v : Int) ≤ 6) (h0 : 2147483647 < r) :
    Calls Tryz.prog 9 #[.agg #[.int .i64 v, .int .i64 r, .bool b, .int .i64 o, .int .i64 n, .string d]] w fun e w' => e = .returned (.tuple #[.string ⟨#[]⟩, .int .i64 1]) ∧ Below w.heap.size w w' := by
  have hv0 : ((v : Int) == 0) = false := by rw [beq_eq_false_iff_ne]; omega
  have hv1 : ((v : Int) != 0) = true := by rw [bne_iff_ne]; omega
  have g1 : (w.alloc (.cells #[.int .i64 v, .int .i64 r, .bool b, .int .i64 o, .int .i64 n, .string d] 27)).heap[w.heap.size]? = some (.cells #[.int .i64 v, .int .i64 r, .bool b, .int .i64 o, .int .i64 n, .string d] 27 (0, 0)) := heap_new _ _
  have b1 : Below w.heap.size w (w.alloc (.cells #[.int .i64 v, .int .i64 r, .bool b, .int .i64 o, .int .i64 n, .string d] 27)) := (Below.refl _ _).alloc (Nat.le_refl _) _
  go_enter Tryz.func9, Tryz.ntmps9
  go_wp2_with fail
  generalize w.alloc (.cells #[.int .i64 v, .int .i64 r, .bool b, .int .i64 o, .int .i64 n, .string d] 27) = w1 at *
  refine (xknown_yes _ w1 (by omega)).mono ?_
  rintro e w1 ⟨rfl, rfl⟩
  have c0 : w1.cell? ⟨w.heap.size, 0, none⟩ = some (.int .i64 v) := (cell_of g1).trans rfl
  have c1 : w1.cell? ⟨w.heap.size, 1, none⟩ = some (.int .i64 r) := (cell_of g1).trans rfl
  have c2 : w1.cell? ⟨w.heap.size, 2, none⟩ = some (.bool b) := (cell_of g1).trans rfl
  have c3 : w1.cell? ⟨w.heap.size, 3, none⟩ = some (.int .i64 o) := (cell_of g1).trans rfl
  have c4 : w1.cell? ⟨w.heap.size, 4, none⟩ = some (.int .i64 n) := (cell_of g1).trans rfl
  have c5 : w1.cell? ⟨w.heap.size, 5, none⟩ = some (.string d) := (cell_of g1).trans rfl
  have hlt := lt_of_heap g1
  have G1 := hid g1
  have B1 := hid b1
  clear g1 b1
  go_wp2_with fail
  go_ret2
  exact ⟨rfl, B1.out⟩
set_option maxHeartbeats 1000000 in
set_option maxRecDepth 20000 in
theorem zrep_0err (r : Int) (b : Bool) (o n : Int) (d : ByteArray) (w : World) (hr : r ≠ 0) (hlo : 0 ≤ r) (hhi : r ≤ 2147483647) :
    Calls Tryz.prog 9 #[.agg #[.int .i64 0, .int .i64 r, .bool b, .int .i64 o, .int .i64 n, .string d]] w fun e w' => e = .returned (.tuple #[.string (bs (([] ++ nb 1 0) ++ nb 4 (r : Int).toNat)), .int .i64 0]) ∧ Below w.heap.size w w' := by
  have hwr : IntKind.i32.wrap r = r := by simp only [IntKind.wrap, IntKind.bits, IntKind.signed, Bool.true_and]; split <;> rename_i h <;> simp at h <;> omega
  have hr0 : (r == 0) = false := by rw [beq_eq_false_iff_ne]; exact hr
  have hr1 : (r != 0) = true := by rw [bne_iff_ne]; exact hr
  have g1 : (w.alloc (.cells #[.int .i64 0, .int .i64 r, .bool b, .int .i64 o, .int .i64 n, .string d] 27)).heap[w.heap.size]? = some (.cells #[.int .i64 0, .int .i64 r, .bool b, .int .i64 o, .int .i64 n, .string d] 27 (0, 0)) := heap_new _ _
  have b1 : Below w.heap.size w (w.alloc (.cells #[.int .i64 0, .int .i64 r, .bool b, .int .i64 o, .int .i64 n, .string d] 27)) := (Below.refl _ _).alloc (Nat.le_refl _) _
  go_enter Tryz.func9, Tryz.ntmps9
  go_wp2_with fail
  generalize w.alloc (.cells #[.int .i64 0, .int .i64 r, .bool b, .int .i64 o, .int .i64 n, .string d] 27) = w1 at *
  have c0 : w1.cell? ⟨w.heap.size, 0, none⟩ = some (.int .i64 0) := (cell_of g1).trans rfl
  have c1 : w1.cell? ⟨w.heap.size, 1, none⟩ = some (.int .i64 r) := (cell_of g1).trans rfl
  have c2 : w1.cell? ⟨w.heap.size, 2, none⟩ = some (.bool b) := (cell_of g1).trans rfl
  have c3 : w1.cell? ⟨w.heap.size, 3, none⟩ = some (.int .i64 o) := (cell_of g1).trans rfl
  have c4 : w1.cell? ⟨w.heap.size, 4, none⟩ = some (.int .i64 n) := (cell_of g1).trans rfl
  have c5 : w1.cell? ⟨w.heap.size, 5, none⟩ = some (.string d) := (cell_of g1).trans rfl
  have hlt := lt_of_heap g1
  have G1 := hid g1
  have B1 := hid b1
  clear g1 b1
  go_wp2_with fail
  refine (xnewwriter_any w1).mono ?_
  rintro e w2 ⟨rfl, rfl⟩
  have h2 : WX (w1.alloc (.cells #[.string ⟨#[]⟩] 101)) w1.heap.size (bs []) := heap_new _ _
  have g2 : (w1.alloc (.cells #[.string ⟨#[]⟩] 101)).heap[w.heap.size]? = some (.cells #[.int .i64 0, .int .i64 r, .bool b, .int .i64 o, .int .i64 n, .string d] 27 (0, 0)) := heap_alloc_at G1.out
  have b2 : Below w.heap.size w (w1.alloc (.cells #[.string ⟨#[]⟩] 101)) := B1.out.alloc B1.out.size _
  have hne : w.heap.size ≠ w1.heap.size ∧ w.heap.size ≤ w1.heap.size := by omega
  clear G1 B1 hlt
  clear c0 c1 c2 c3 c4 c5
  have G2 := hid g2
  have B2 := hid b2
  have H2 := hid h2
  clear g2 b2 h2
  have c0 : (w1.alloc (.cells #[.string ⟨#[]⟩] 101)).cell? ⟨w.heap.size, 0, none⟩ = some (.int .i64 0) := (cell_of G2.out).trans rfl
  have c1 : (w1.alloc (.cells #[.string ⟨#[]⟩] 101)).cell? ⟨w.heap.size, 1, none⟩ = some (.int .i64 r) := (cell_of G2.out).trans rfl
  have c2 : (w1.alloc (.cells #[.string ⟨#[]⟩] 101)).cell? ⟨w.heap.size, 2, none⟩ = some (.bool b) := (cell_of G2.out).trans rfl
  have c3 : (w1.alloc (.cells #[.string ⟨#[]⟩] 101)).cell? ⟨w.heap.size, 3, none⟩ = some (.int .i64 o) := (cell_of G2.out).trans rfl
  have c4 : (w1.alloc (.cells #[.string ⟨#[]⟩] 101)).cell? ⟨w.heap.size, 4, none⟩ = some (.int .i64 n) := (cell_of G2.out).trans rfl
  have c5 : (w1.alloc (.cells #[.string ⟨#[]⟩] 101)).cell? ⟨w.heap.size, 5, none⟩ = some (.string d) := (cell_of G2.out).trans rfl
  go_wp2_with fail
  generalize (w1.alloc (.cells #[.string ⟨#[]⟩] 101)) = w2 at *
  generalize w1.heap.size = p at *
  refine (zu8_any p [] 0 w2 H2.out (by omega) (by simp)).mono ?_
  rintro e w3 ⟨rfl, h3, hc3⟩
  have g3 : w3.heap[w.heap.size]? = _ := (hc3.block _ (lt_of_heap G2.out) hne.1).trans G2.out
  have b3 : Below w.heap.size w w3 := B2.out.trans (hc3.below B2.out.size (fun i hi h => by omega))
  clear hc3 G2 B2 H2
  clear c0 c1 c2 c3 c4 c5
  have G3 := hid g3
  have B3 := hid b3
  have H3 := hid h3
  clear g3 b3 h3
  have c0 : w3.cell? ⟨w.heap.size, 0, none⟩ = some (.int .i64 0) := (cell_of G3.out).trans rfl
  have c1 : w3.cell? ⟨w.heap.size, 1, none⟩ = some (.int .i64 r) := (cell_of G3.out).trans rfl
  have c2 : w3.cell? ⟨w.heap.size, 2, none⟩ = some (.bool b) := (cell_of G3.out).trans rfl
  have c3 : w3.cell? ⟨w.heap.size, 3, none⟩ = some (.int .i64 o) := (cell_of G3.out).trans rfl
  have c4 : w3.cell? ⟨w.heap.size, 4, none⟩ = some (.int .i64 n) := (cell_of G3.out).trans rfl
  have c5 : w3.cell? ⟨w.heap.size, 5, none⟩ = some (.string d) := (cell_of G3.out).trans rfl
  go_wp2_with fail
  refine (zi32_any p ([] ++ nb 1 0) r w3 H3.out (by omega) (by omega) (by simp [nb_len])).mono ?_
  rintro e w4 ⟨rfl, h4, hc4⟩
  have g4 : w4.heap[w.heap.size]? = _ := (hc4.block _ (lt_of_heap G3.out) hne.1).trans G3.out
  have b4 : Below w.heap.size w w4 := B3.out.trans (hc4.below B3.out.size (fun i hi h => by omega))
  clear hc4 G3 B3 H3
  clear c0 c1 c2 c3 c4 c5
  have G4 := hid g4
  have B4 := hid b4
  have H4 := hid h4
  clear g4 b4 h4
  have c0 : w4.cell? ⟨w.heap.size, 0, none⟩ = some (.int .i64 0) := (cell_of G4.out).trans rfl
  have c1 : w4.cell? ⟨w.heap.size, 1, none⟩ = some (.int .i64 r) := (cell_of G4.out).trans rfl
  have c2 : w4.cell? ⟨w.heap.size, 2, none⟩ = some (.bool b) := (cell_of G4.out).trans rfl
  have c3 : w4.cell? ⟨w.heap.size, 3, none⟩ = some (.int .i64 o) := (cell_of G4.out).trans rfl
  have c4 : w4.cell? ⟨w.heap.size, 4, none⟩ = some (.int .i64 n) := (cell_of G4.out).trans rfl
  have c5 : w4.cell? ⟨w.heap.size, 5, none⟩ = some (.string d) := (cell_of G4.out).trans rfl
  go_wp2_with fail
  refine (xwbytes_any p _ w4 H4.out).mono ?_
  rintro e w5 ⟨rfl, rfl⟩
  go_wp2_with fail
  go_ret2
  exact ⟨rfl, B4.out⟩
set_option maxHeartbeats 1000000 in
set_option maxRecDepth 20000 in
theorem zrep_0lo (r : Int) (b : Bool) (o n : Int) (d : ByteArray) (w : World) (h0 : r < 0) :
    Calls Tryz.prog 9 #[.agg #[.int .i64 0, .int .i64 r, .bool b, .int .i64 o, .int .i64 n, .string d]] w fun e w' => e = .returned (.tuple #[.string ⟨#[]⟩, .int .i64 1]) ∧ Below w.heap.size w w' := by
  have hr0 : (r == 0) = false := by rw [beq_eq_false_iff_ne]; omega
  have g1 : (w.alloc (.cells #[.int .i64 0, .int .i64 r, .bool b, .int .i64 o, .int .i64 n, .string d] 27)).heap[w.heap.size]? = some (.cells #[.int .i64 0, .int .i64 r, .bool b, .int .i64 o, .int .i64 n, .string d] 27 (0, 0)) := heap_new _ _
  have b1 : Below w.heap.size w (w.alloc (.cells #[.int .i64 0, .int .i64 r, .bool b, .int .i64 o, .int .i64 n, .string d] 27)) := (Below.refl _ _).alloc (Nat.le_refl _) _
  go_enter Tryz.func9, Tryz.ntmps9
  go_wp2_with fail
  generalize w.alloc (.cells #[.int .i64 0, .int .i64 r, .bool b, .int .i64 o, .int .i64 n, .string d] 27) = w1 at *
  have c0 : w1.cell? ⟨w.heap.size, 0, none⟩ = some (.int .i64 0) := (cell_of g1).trans rfl
  have c1 : w1.cell? ⟨w.heap.size, 1, none⟩ = some (.int .i64 r) := (cell_of g1).trans rfl
  have c2 : w1.cell? ⟨w.heap.size, 2, none⟩ = some (.bool b) := (cell_of g1).trans rfl
  have c3 : w1.cell? ⟨w.heap.size, 3, none⟩ = some (.int .i64 o) := (cell_of g1).trans rfl
  have c4 : w1.cell? ⟨w.heap.size, 4, none⟩ = some (.int .i64 n) := (cell_of g1).trans rfl
  have c5 : w1.cell? ⟨w.heap.size, 5, none⟩ = some (.string d) := (cell_of g1).trans rfl
  have hlt := lt_of_heap g1
  have G1 := hid g1
  have B1 := hid b1
  clear g1 b1
  go_wp2_with fail
  go_ret2
  exact ⟨rfl, B1.out⟩
set_option maxHeartbeats 1000000 in
set_option maxRecDepth 20000 in
theorem zrep_0hi (r : Int) (b : Bool) (o n : Int) (d : ByteArray) (w : World) (h0 : 2147483647 < r) :
    Calls Tryz.prog 9 #[.agg #[.int .i64 0, .int .i64 r, .bool b, .int .i64 o, .int .i64 n, .string d]] w fun e w' => e = .returned (.tuple #[.string ⟨#[]⟩, .int .i64 1]) ∧ Below w.heap.size w w' := by
  have hr0 : (r == 0) = false := by rw [beq_eq_false_iff_ne]; omega
  have g1 : (w.alloc (.cells #[.int .i64 0, .int .i64 r, .bool b, .int .i64 o, .int .i64 n, .string d] 27)).heap[w.heap.size]? = some (.cells #[.int .i64 0, .int .i64 r, .bool b, .int .i64 o, .int .i64 n, .string d] 27 (0, 0)) := heap_new _ _
  have b1 : Below w.heap.size w (w.alloc (.cells #[.int .i64 0, .int .i64 r, .bool b, .int .i64 o, .int .i64 n, .string d] 27)) := (Below.refl _ _).alloc (Nat.le_refl _) _
  go_enter Tryz.func9, Tryz.ntmps9
  go_wp2_with fail
  generalize w.alloc (.cells #[.int .i64 0, .int .i64 r, .bool b, .int .i64 o, .int .i64 n, .string d] 27) = w1 at *
  have c0 : w1.cell? ⟨w.heap.size, 0, none⟩ = some (.int .i64 0) := (cell_of g1).trans rfl
  have c1 : w1.cell? ⟨w.heap.size, 1, none⟩ = some (.int .i64 r) := (cell_of g1).trans rfl
  have c2 : w1.cell? ⟨w.heap.size, 2, none⟩ = some (.bool b) := (cell_of g1).trans rfl
  have c3 : w1.cell? ⟨w.heap.size, 3, none⟩ = some (.int .i64 o) := (cell_of g1).trans rfl
  have c4 : w1.cell? ⟨w.heap.size, 4, none⟩ = some (.int .i64 n) := (cell_of g1).trans rfl
  have c5 : w1.cell? ⟨w.heap.size, 5, none⟩ = some (.string d) := (cell_of g1).trans rfl
  have hlt := lt_of_heap g1
  have G1 := hid g1
  have B1 := hid b1
  clear g1 b1
  go_wp2_with fail
  go_ret2
  exact ⟨rfl, B1.out⟩
set_option maxHeartbeats 1000000 in
set_option maxRecDepth 20000 in
theorem zrep_00 (b : Bool) (o n : Int) (d : ByteArray) (w : World) :
    Calls Tryz.prog 9 #[.agg #[.int .i64 0, .int .i64 0, .bool b, .int .i64 o, .int .i64 n, .string d]] w fun e w' => e = .returned (.tuple #[.string ⟨#[]⟩, .int .i64 6]) ∧ Below w.heap.size w w' := by
  have g1 : (w.alloc (.cells #[.int .i64 0, .int .i64 0, .bool b, .int .i64 o, .int .i64 n, .string d] 27)).heap[w.heap.size]? = some (.cells #[.int .i64 0, .int .i64 0, .bool b, .int .i64 o, .int .i64 n, .string d] 27 (0, 0)) := heap_new _ _
  have b1 : Below w.heap.size w (w.alloc (.cells #[.int .i64 0, .int .i64 0, .bool b, .int .i64 o, .int .i64 n, .string d] 27)) := (Below.refl _ _).alloc (Nat.le_refl _) _
  go_enter Tryz.func9, Tryz.ntmps9
  go_wp2_with fail
  generalize w.alloc (.cells #[.int .i64 0, .int .i64 0, .bool b, .int .i64 o, .int .i64 n, .string d] 27) = w1 at *
  have c0 : w1.cell? ⟨w.heap.size, 0, none⟩ = some (.int .i64 0) := (cell_of g1).trans rfl
  have c1 : w1.cell? ⟨w.heap.size, 1, none⟩ = some (.int .i64 0) := (cell_of g1).trans rfl
  have c2 : w1.cell? ⟨w.heap.size, 2, none⟩ = some (.bool b) := (cell_of g1).trans rfl
  have c3 : w1.cell? ⟨w.heap.size, 3, none⟩ = some (.int .i64 o) := (cell_of g1).trans rfl
  have c4 : w1.cell? ⟨w.heap.size, 4, none⟩ = some (.int .i64 n) := (cell_of g1).trans rfl
  have c5 : w1.cell? ⟨w.heap.size, 5, none⟩ = some (.string d) := (cell_of g1).trans rfl
  have hlt := lt_of_heap g1
  have G1 := hid g1
  have B1 := hid b1
  clear g1 b1
  go_wp2_with fail
  go_ret2
  exact ⟨rfl, B1.out⟩
set_option maxHeartbeats 1000000 in
set_option maxRecDepth 20000 in
theorem zrep_kind (v r : Int) (b : Bool) (o n : Int) (d : ByteArray) (w : World) (hv : ¬ (1 ≤ v ∧ v ≤ 6)) (hvz : v ≠ 0) :
    Calls Tryz.prog 9 #[.agg #[.int .i64 v, .int .i64 r, .bool b, .int .i64 o, .int .i64 n, .string d]] w fun e w' => e = .returned (.tuple #[.string ⟨#[]⟩, .int .i64 6]) ∧ Below w.heap.size w w' := by
  have hv0 : (v == 0) = false := by rw [beq_eq_false_iff_ne]; exact hvz
  have hv1 : (v != 0) = true := by rw [bne_iff_ne]; exact hvz
  have g1 : (w.alloc (.cells #[.int .i64 v, .int .i64 r, .bool b, .int .i64 o, .int .i64 n, .string d] 27)).heap[w.heap.size]? = some (.cells #[.int .i64 v, .int .i64 r, .bool b, .int .i64 o, .int .i64 n, .string d] 27 (0, 0)) := heap_new _ _
  have b1 : Below w.heap.size w (w.alloc (.cells #[.int .i64 v, .int .i64 r, .bool b, .int .i64 o, .int .i64 n, .string d] 27)) := (Below.refl _ _).alloc (Nat.le_refl _) _
  go_enter Tryz.func9, Tryz.ntmps9
  go_wp2_with fail
  generalize w.alloc (.cells #[.int .i64 v, .int .i64 r, .bool b, .int .i64 o, .int .i64 n, .string d] 27) = w1 at *
  refine (xknown_no _ w1 (by omega)).mono ?_
  rintro e w1 ⟨rfl, rfl⟩
  have c0 : w1.cell? ⟨w.heap.size, 0, none⟩ = some (.int .i64 v) := (cell_of g1).trans rfl
  have c1 : w1.cell? ⟨w.heap.size, 1, none⟩ = some (.int .i64 r) := (cell_of g1).trans rfl
  have c2 : w1.cell? ⟨w.heap.size, 2, none⟩ = some (.bool b) := (cell_of g1).trans rfl
  have c3 : w1.cell? ⟨w.heap.size, 3, none⟩ = some (.int .i64 o) := (cell_of g1).trans rfl
  have c4 : w1.cell? ⟨w.heap.size, 4, none⟩ = some (.int .i64 n) := (cell_of g1).trans rfl
  have c5 : w1.cell? ⟨w.heap.size, 5, none⟩ = some (.string d) := (cell_of g1).trans rfl
  have hlt := lt_of_heap g1
  have G1 := hid g1
  have B1 := hid b1
  clear g1 b1
  go_wp2_with fail
  go_ret2
  exact ⟨rfl, B1.out⟩
end Go.Proofs.YtgdaaohlongmlaaGreat
namespace Go.Proofs.YtgdaaohlongmlaaGreat
open Go.RowKit
theorem zask_any (r : Rq) (w : World) :
    Calls Tryz.prog 7 #[.agg r.c] w fun e w' => e = .returned (asV r) ∧ Below w.heap.size w w' := by
  obtain ⟨k, d, o, t, m⟩ := r
  by_cases hk : 1 ≤ k ∧ k ≤ 6
  · rcases (by omega : k = 1 ∨ k = 2 ∨ k = 3 ∨ k = 4 ∨ k = 5 ∨ k = 6) with rfl | rfl | rfl | rfl | rfl | rfl
    · by_cases hd : d.size ≤ 16777216
      · rw [asV_ok (askE_ok hk (fun _ => hd)), askL_1]
        have C := zask_1 d o t m w hd
        rw [List.nil_append] at C
        exact C
      · have hE : askE ⟨1, d, o, t, m⟩ = 21 := by unfold askE; rw [if_neg (fun h => h hk), if_pos ⟨rfl, by dsimp only; omega⟩]
        rw [asV_no hE (by decide)]
        exact zask_long d o t m w (by omega)
    · rw [asV_ok (askE_ok hk (fun h => by dsimp only at h; omega)), askL_2, ← List.append_assoc]
      have C := zask_2 d o t m w
      rw [List.nil_append] at C
      exact C
    · rw [asV_ok (askE_ok hk (fun h => by dsimp only at h; omega)), askL_3]
      have C := zask_3 d o t m w
      rw [List.nil_append] at C
      exact C
    · rw [asV_ok (askE_ok hk (fun h => by dsimp only at h; omega)), askL_4, List.append_nil]
      have C := zask_4 d o t m w
      rw [List.nil_append] at C
      exact C
    · rw [asV_ok (askE_ok hk (fun h => by dsimp only at h; omega)), askL_5]
      have C := zask_5 d o t m w
      rw [List.nil_append] at C
      exact C
    · rw [asV_ok (askE_ok hk (fun h => by dsimp only at h; omega)), askL_6, List.append_nil]
      have C := zask_6 d o t m w
      rw [List.nil_append] at C
      exact C
  · have hE : askE ⟨k, d, o, t, m⟩ = 6 := by unfold askE; rw [if_pos hk]
    rw [asV_no hE (by decide)]
    exact zask_no k d o t m w hk
set_option maxHeartbeats 1000000 in
theorem zreply_any (r : Rp) (w : World) :
    Calls Tryz.prog 9 #[.agg r.c] w fun e w' => e = .returned (rsV r) ∧ Below w.heap.size w w' := by
  obtain ⟨k, r, b, o, n, d⟩ := r
  by_cases hk : 1 ≤ k ∧ k ≤ 6
  · obtain ⟨K, rfl⟩ : ∃ K : Nat, k = K := ⟨k.toNat, by omega⟩
    by_cases hlo : r < 0
    · rw [rsV_no (repE_1 (p := ⟨K, r, b, o, n, d⟩) (Or.inl hk) (Or.inl hlo)) (by decide)]
      exact zrep_lo K r b o n d w hk hlo
    by_cases hhi : 2147483647 < r
    · rw [rsV_no (repE_1 (p := ⟨K, r, b, o, n, d⟩) (Or.inl hk) (Or.inr hhi)) (by decide)]
      exact zrep_hi K r b o n d w hk hhi
    by_cases hr0 : r = 0
    · subst hr0
      by_cases hd : K = 2 ∧ 1073741824 < d.size
      · obtain ⟨rfl, hd⟩ := hd
        have hE : repE ⟨2, 0, b, o, n, d⟩ = 21 := by
          unfold repE
          rw [if_neg (fun h => h.1 hk), if_neg (by dsimp only; omega), if_pos ⟨rfl, rfl, hd⟩]
        have C := zrep_long b o n d w hd
        rw [show ((2 : Nat) : Int) = 2 from rfl, rsV_no hE (by decide)]
        exact C
      · have hd' : K = 2 → d.size ≤ 1073741824 := fun h => Nat.le_of_not_lt (fun h2 => hd ⟨h, h2⟩)
        rw [rsV_ok (repE_ok (p := ⟨K, 0, b, o, n, d⟩) (Or.inl hk) ⟨by dsimp only; omega, by dsimp only; omega⟩ (fun _ h => hd' (by dsimp only at h; omega)))]
        rcases (by omega : K = 1 ∨ K = 2 ∨ K = 3 ∨ K = 4 ∨ K = 5 ∨ K = 6) with rfl | rfl | rfl | rfl | rfl | rfl
        · cases b with
          | true =>
            have C := zrep_1true o n d w
            rw [List.nil_append] at C
            rw [show ((1 : Nat) : Int) = 1 from rfl, repL_1, ← List.append_assoc]
            exact C
          | false =>
            have C := zrep_1false o n d w
            rw [List.nil_append] at C
            rw [show ((1 : Nat) : Int) = 1 from rfl, repL_1, ← List.append_assoc]
            exact C
        · have C := zrep_2 b o n d w (hd' rfl)
          rw [List.nil_append] at C
          rw [show ((2 : Nat) : Int) = 2 from rfl, repL_2, ← List.append_assoc]
          exact C
        · have C := zrep_3 b o n d w
          rw [List.nil_append] at C
          rw [show ((3 : Nat) : Int) = 3 from rfl, repL_3]
          exact C
        · have C := zrep_4 b o n d w
          rw [List.nil_append] at C
          rw [show ((4 : Nat) : Int) = 4 from rfl, repL_4]
          exact C
        · have C := zrep_5 b o n d w
          rw [List.nil_append] at C
          rw [show ((5 : Nat) : Int) = 5 from rfl, repL_5]
          exact C
        · have C := zrep_6 b o n d w
          rw [List.nil_append] at C
          rw [show ((6 : Nat) : Int) = 6 from rfl, repL_6, ← List.append_assoc]
          exact C
    · rw [rsV_ok (repE_ok (p := ⟨K, r, b, o, n, d⟩) (Or.inl hk) ⟨by dsimp only; omega, by dsimp only; omega⟩ (fun h => absurd h hr0)), repL_err hr0]
      have C := zrep_err K r b o n d w hk hr0 (by omega) (by omega)
      rw [List.nil_append] at C
      dsimp only
      rw [Int.toNat_natCast]
      exact C
  · by_cases hk0 : k = 0
    · subst hk0
      by_cases hr0 : r = 0
      · subst hr0
        rw [rsV_no (repE_6 (p := ⟨0, 0, b, o, n, d⟩) hk (Or.inr rfl)) (by decide)]
        exact zrep_00 b o n d w
      · by_cases hlo : r < 0
        · rw [rsV_no (repE_1 (p := ⟨0, r, b, o, n, d⟩) (Or.inr ⟨rfl, hr0⟩) (Or.inl hlo)) (by decide)]
          exact zrep_0lo r b o n d w hlo
        · by_cases hhi : 2147483647 < r
          · rw [rsV_no (repE_1 (p := ⟨0, r, b, o, n, d⟩) (Or.inr ⟨rfl, hr0⟩) (Or.inr hhi)) (by decide)]
            exact zrep_0hi r b o n d w hhi
          · rw [rsV_ok (repE_ok (p := ⟨0, r, b, o, n, d⟩) (Or.inr ⟨rfl, hr0⟩) ⟨by dsimp only; omega, by dsimp only; omega⟩ (fun h => absurd h hr0)), repL_err hr0]
            have C := zrep_0err r b o n d w hr0 (by omega) (by omega)
            rw [List.nil_append] at C
            exact C
    · rw [rsV_no (repE_6 (p := ⟨k, r, b, o, n, d⟩) hk (Or.inl hk0)) (by decide)]
      exact zrep_kind k r b o n d w hk hk0
set_option maxHeartbeats 1000000 in
set_option maxRecDepth 20000 in
theorem zsameask_any (a b : Rq) (w : World) :
    Calls Tryz.prog 11 #[.agg a.c, .agg b.c] w fun e w' => e = .returned (.bool (sameQ a b)) ∧ Below w.heap.size w w' := by
  have C1 := hid (fun w1 => zask_any a w1)
  have C2 := hid (fun w1 => zask_any b w1)
  obtain ⟨k, d, o, t, m⟩ := a
  obtain ⟨k2, d2, o2, t2, m2⟩ := b
  show Calls Tryz.prog 11 #[.agg #[.int .i64 k, .string d, .int .i64 o, .int .i64 t, .int .i64 m], .agg #[.int .i64 k2, .string d2, .int .i64 o2, .int .i64 t2, .int .i64 m2]] w _
  unfold sameQ
  unfold asV at C1 C2
  generalize askE ⟨k, d, o, t, m⟩ = E1 at *
  generalize askE ⟨k2, d2, o2, t2, m2⟩ = E2 at *
  generalize askS ⟨k, d, o, t, m⟩ = S1 at *
  generalize askS ⟨k2, d2, o2, t2, m2⟩ = S2 at *
  have g1 : ((w.alloc (.cells #[.int .i64 k, .string d, .int .i64 o, .int .i64 t, .int .i64 m] 24)).alloc (.cells #[.int .i64 k2, .string d2, .int .i64 o2, .int .i64 t2, .int .i64 m2] 24)).heap[w.heap.size + 1]? = some (.cells #[.int .i64 k2, .string d2, .int .i64 o2, .int .i64 t2, .int .i64 m2] 24 (0, 0)) := heap_new' _ _ _ (by simp)
  have g0 : ((w.alloc (.cells #[.int .i64 k, .string d, .int .i64 o, .int .i64 t, .int .i64 m] 24)).alloc (.cells #[.int .i64 k2, .string d2, .int .i64 o2, .int .i64 t2, .int .i64 m2] 24)).heap[w.heap.size]? = some (.cells #[.int .i64 k, .string d, .int .i64 o, .int .i64 t, .int .i64 m] 24 (0, 0)) := heap_alloc_at (heap_new _ _)
  have b0 : Below w.heap.size w ((w.alloc (.cells #[.int .i64 k, .string d, .int .i64 o, .int .i64 t, .int .i64 m] 24)).alloc (.cells #[.int .i64 k2, .string d2, .int .i64 o2, .int .i64 t2, .int .i64 m2] 24)) := ((Below.refl _ _).alloc (Nat.le_refl _) _).alloc (by simp) _
  go_enter Tryz.func11, Tryz.ntmps11
  go_wp2_with fail
  generalize (w.alloc (.cells #[.int .i64 k, .string d, .int .i64 o, .int .i64 t, .int .i64 m] 24)).alloc (.cells #[.int .i64 k2, .string d2, .int .i64 o2, .int .i64 t2, .int .i64 m2] 24) = w0 at *
  refine (C1.out w0).mono ?_
  rintro e w1 ⟨rfl, b1⟩
  have g2 : w1.heap[w.heap.size + 1]? = _ := (b1.block _ (lt_of_heap g1)).trans g1
  have c0 : w1.cell? ⟨w.heap.size + 1, 0, none⟩ = some (.int .i64 k2) := (cell_of g2).trans rfl
  have c1 : w1.cell? ⟨w.heap.size + 1, 1, none⟩ = some (.string d2) := (cell_of g2).trans rfl
  have c2 : w1.cell? ⟨w.heap.size + 1, 2, none⟩ = some (.int .i64 o2) := (cell_of g2).trans rfl
  have c3 : w1.cell? ⟨w.heap.size + 1, 3, none⟩ = some (.int .i64 t2) := (cell_of g2).trans rfl
  have c4 : w1.cell? ⟨w.heap.size + 1, 4, none⟩ = some (.int .i64 m2) := (cell_of g2).trans rfl
  have B1 := hid (b0.trans (b1.mono b0.size))
  clear g0 g1 g2 b0 b1
  go_wp2_with fail
  refine (C2.out w1).mono ?_
  rintro e w2 ⟨rfl, b2⟩
  have B2 := hid (B1.out.trans (b2.mono B1.out.size))
  clear B1 b2 c0 c1 c2 c3 c4 C1 C2
  by_cases h1 : E1 = 0
  · subst h1
    by_cases h2 : E2 = 0
    · subst h2
      go_wp2_with fail
      go_ret
      exact ⟨ret_bool (by simp), B2.out⟩
    · have hb : ((E2 : Int) == 0) = false := by rw [beq_eq_false_iff_ne]; omega
      go_wp2_with fail
      go_ret
      exact ⟨ret_bool (by simp), B2.out⟩
  · have hb : ((E1 : Int) == 0) = false := by rw [beq_eq_false_iff_ne]; omega
    go_wp2_with fail
    go_ret
    exact ⟨ret_bool (by simp [h1]), B2.out⟩
set_option maxHeartbeats 1000000 in
set_option maxRecDepth 20000 in
theorem zsamereply_any (a a2 : Rp) (w : World) :
    Calls Tryz.prog 13 #[.agg a.c, .agg a2.c] w fun e w' => e = .returned (.bool (sameP a a2)) ∧ Below w.heap.size w w' := by
  have C1 := hid (fun w1 => zreply_any a w1)
  have C2 := hid (fun w1 => zreply_any a2 w1)
  obtain ⟨k, r, b, o, n, d⟩ := a
  obtain ⟨k2, r2, bb2, o2, n2, d2⟩ := a2
  show Calls Tryz.prog 13 #[.agg #[.int .i64 k, .int .i64 r, .bool b, .int .i64 o, .int .i64 n, .string d], .agg #[.int .i64 k2, .int .i64 r2, .bool bb2, .int .i64 o2, .int .i64 n2, .string d2]] w _
  unfold sameP
  unfold rsV at C1 C2
  generalize repE ⟨k, r, b, o, n, d⟩ = E1 at *
  generalize repE ⟨k2, r2, bb2, o2, n2, d2⟩ = E2 at *
  generalize repS ⟨k, r, b, o, n, d⟩ = S1 at *
  generalize repS ⟨k2, r2, bb2, o2, n2, d2⟩ = S2 at *
  have g1 : ((w.alloc (.cells #[.int .i64 k, .int .i64 r, .bool b, .int .i64 o, .int .i64 n, .string d] 27)).alloc (.cells #[.int .i64 k2, .int .i64 r2, .bool bb2, .int .i64 o2, .int .i64 n2, .string d2] 27)).heap[w.heap.size + 1]? = some (.cells #[.int .i64 k2, .int .i64 r2, .bool bb2, .int .i64 o2, .int .i64 n2, .string d2] 27 (0, 0)) := heap_new' _ _ _ (by simp)
  have g0 : ((w.alloc (.cells #[.int .i64 k, .int .i64 r, .bool b, .int .i64 o, .int .i64 n, .string d] 27)).alloc (.cells #[.int .i64 k2, .int .i64 r2, .bool bb2, .int .i64 o2, .int .i64 n2, .string d2] 27)).heap[w.heap.size]? = some (.cells #[.int .i64 k, .int .i64 r, .bool b, .int .i64 o, .int .i64 n, .string d] 27 (0, 0)) := heap_alloc_at (heap_new _ _)
  have b0 : Below w.heap.size w ((w.alloc (.cells #[.int .i64 k, .int .i64 r, .bool b, .int .i64 o, .int .i64 n, .string d] 27)).alloc (.cells #[.int .i64 k2, .int .i64 r2, .bool bb2, .int .i64 o2, .int .i64 n2, .string d2] 27)) := ((Below.refl _ _).alloc (Nat.le_refl _) _).alloc (by simp) _
  go_enter Tryz.func13, Tryz.ntmps13
  go_wp2_with fail
  generalize (w.alloc (.cells #[.int .i64 k, .int .i64 r, .bool b, .int .i64 o, .int .i64 n, .string d] 27)).alloc (.cells #[.int .i64 k2, .int .i64 r2, .bool bb2, .int .i64 o2, .int .i64 n2, .string d2] 27) = w0 at *
  refine (C1.out w0).mono ?_
  rintro e w1 ⟨rfl, b1⟩
  have g2 : w1.heap[w.heap.size + 1]? = _ := (b1.block _ (lt_of_heap g1)).trans g1
  have c0 : w1.cell? ⟨w.heap.size + 1, 0, none⟩ = some (.int .i64 k2) := (cell_of g2).trans rfl
  have c1 : w1.cell? ⟨w.heap.size + 1, 1, none⟩ = some (.int .i64 r2) := (cell_of g2).trans rfl
  have c2 : w1.cell? ⟨w.heap.size + 1, 2, none⟩ = some (.bool bb2) := (cell_of g2).trans rfl
  have c3 : w1.cell? ⟨w.heap.size + 1, 3, none⟩ = some (.int .i64 o2) := (cell_of g2).trans rfl
  have c4 : w1.cell? ⟨w.heap.size + 1, 4, none⟩ = some (.int .i64 n2) := (cell_of g2).trans rfl
  have c5 : w1.cell? ⟨w.heap.size + 1, 5, none⟩ = some (.string d2) := (cell_of g2).trans rfl
  have B1 := hid (b0.trans (b1.mono b0.size))
  clear g0 g1 g2 b0 b1
  go_wp2_with fail
  refine (C2.out w1).mono ?_
  rintro e w2 ⟨rfl, b2⟩
  have B2 := hid (B1.out.trans (b2.mono B1.out.size))
  clear B1 b2 c0 c1 c2 c3 c4 c5 C1 C2
  by_cases h1 : E1 = 0
  · subst h1
    by_cases h2 : E2 = 0
    · subst h2
      go_wp2_with fail
      go_ret
      exact ⟨ret_bool (by simp), B2.out⟩
    · have hb : ((E2 : Int) == 0) = false := by rw [beq_eq_false_iff_ne]; omega
      go_wp2_with fail
      go_ret
      exact ⟨ret_bool (by simp), B2.out⟩
  · have hb : ((E1 : Int) == 0) = false := by rw [beq_eq_false_iff_ne]; omega
    go_wp2_with fail
    go_ret
    exact ⟨ret_bool (by simp [h1]), B2.out⟩
end Go.Proofs.YtgdaaohlongmlaaGreat
