/- How the fields of each kind are written, of replies. -/
import Derived.Test.YtgdaaohlongmlaaGreatPw1
namespace Go.Proofs.YtgdaaohlongmlaaGreat
open Go.RowKit
set_option maxHeartbeats 1000000 in
set_option maxRecDepth 20000 in
theorem p1w_any (p B : Nat) (l : List Nat) (k r : Int) (b : Bool) (o n : Int) (d : ByteArray) (w : World) (h : Wr w p B l) (hl : l.length ≤ 100) :
    Calls Tryz.prog 65 #[.pointer (some ⟨p, 0, none⟩), .agg #[.int .i64 k, .int .i64 r, .bool b, .int .i64 o, .int .i64 n, .string d]] w (Lays p B (l ++ nb 8 (o % 18446744073709551616).toNat) w) := by
  have g1 : (w.alloc (.cells #[.int .i64 k, .int .i64 r, .bool b, .int .i64 o, .int .i64 n, .string d] 27)).heap[w.heap.size]? = some (.cells #[.int .i64 k, .int .i64 r, .bool b, .int .i64 o, .int .i64 n, .string d] 27 (0, 0)) := heap_new _ _
  have h1 : Wr (w.alloc (.cells #[.int .i64 k, .int .i64 r, .bool b, .int .i64 o, .int .i64 n, .string d] 27)) p B l := h.alloc _
  have hc1 : Ch (WU p B w) w (w.alloc (.cells #[.int .i64 k, .int .i64 r, .bool b, .int .i64 o, .int .i64 n, .string d] 27)) := (Ch.refl _ _).alloc _
  have hne : w.heap.size ≠ p := by have := h.lt; omega
  clear h
  go_enter Tryz.func65, Tryz.ntmps65
  go_wp2_with fail
  have HC1 := hid hc1
  have H1 := hid h1
  have G1 := hid g1
  clear hc1 h1 g1
  generalize (w.alloc (.cells #[.int .i64 k, .int .i64 r, .bool b, .int .i64 o, .int .i64 n, .string d] 27)) = w1 at *
  have c1 : w1.cell? ⟨w.heap.size, 3, none⟩ = some (.int .i64 o) := (cell_of G1.out).trans rfl
  have C1 := hid (wi64_any p B (l) o w1.drew (show Wr w1.drew p B _ from H1.out) (by omega))
  go_region_with ((go_at_call 52; refine C1.out.mono ?_; rintro e w2 ⟨rfl, h2, hc2⟩))
  have hd2 : Ch (WU p B w1) w1 w2 := ((Ch.refl _ _).drew).tu hc2
  have G2 := hid (hd2.other G1.out hne (by decide))
  have HC2 := hid (HC1.out.tu hd2)
  have H2 := hid h2
  clear c1 C1 h2 hc2 hd2
  go_wp2_with fail
  go_end0
  exact ⟨rfl, H2.out, HC2.out⟩
set_option maxHeartbeats 1000000 in
set_option maxRecDepth 20000 in
theorem p3w_any (p B : Nat) (l : List Nat) (k r : Int) (b : Bool) (o n : Int) (d : ByteArray) (w : World) (h : Wr w p B l) (hl : l.length ≤ 100) :
    Calls Tryz.prog 67 #[.pointer (some ⟨p, 0, none⟩), .agg #[.int .i64 k, .int .i64 r, .bool b, .int .i64 o, .int .i64 n, .string d]] w (Lays p B (l ++ nb 1 (if b then 1 else 0) ++ nb 8 (o % 18446744073709551616).toNat) w) := by
  have g1 : (w.alloc (.cells #[.int .i64 k, .int .i64 r, .bool b, .int .i64 o, .int .i64 n, .string d] 27)).heap[w.heap.size]? = some (.cells #[.int .i64 k, .int .i64 r, .bool b, .int .i64 o, .int .i64 n, .string d] 27 (0, 0)) := heap_new _ _
  have h1 : Wr (w.alloc (.cells #[.int .i64 k, .int .i64 r, .bool b, .int .i64 o, .int .i64 n, .string d] 27)) p B l := h.alloc _
  have hc1 : Ch (WU p B w) w (w.alloc (.cells #[.int .i64 k, .int .i64 r, .bool b, .int .i64 o, .int .i64 n, .string d] 27)) := (Ch.refl _ _).alloc _
  have hne : w.heap.size ≠ p := by have := h.lt; omega
  clear h
  obtain ⟨X, hX⟩ : ∃ X, X = nb 1 (if b then 1 else 0) := ⟨_, rfl⟩
  have hXl : X.length = 1 := by rw [hX, nb_len]
  have HT := hid (fun (w1 : World) (h1 : Wr w1 p B l) => ptruth_any p B l b w1 h1 (by omega))
  rw [← hX] at HT ⊢
  clear hX
  go_enter Tryz.func67, Tryz.ntmps67
  go_wp2_with fail
  have HC1 := hid hc1
  have H1 := hid h1
  have G1 := hid g1
  clear hc1 h1 g1
  generalize (w.alloc (.cells #[.int .i64 k, .int .i64 r, .bool b, .int .i64 o, .int .i64 n, .string d] 27)) = w1 at *
  have c1 : w1.cell? ⟨w.heap.size, 2, none⟩ = some (.bool b) := (cell_of G1.out).trans rfl
  have C1 := hid (HT.out w1 H1.out)
  go_wp2_with fail
  refine C1.out.mono ?_
  rintro e w2 ⟨rfl, h2, hc2⟩
  have hd2 : Ch (WU p B w1) w1 w2 := hc2
  have G2 := hid (hd2.other G1.out hne (by decide))
  have HC2 := hid (HC1.out.tu hd2)
  have H2 := hid h2
  clear c1 C1 h2 hc2 hd2
  have c2 : w2.cell? ⟨w.heap.size, 3, none⟩ = some (.int .i64 o) := (cell_of G2.out).trans rfl
  have C2 := hid (wi64_any p B (l ++ X) o w2.drew (show Wr w2.drew p B _ from H2.out) (by simp only [List.length_append, hXl]; omega))
  go_wp2_with fail
  go_region_with ((go_at_call 52; refine C2.out.mono ?_; rintro e w3 ⟨rfl, h3, hc3⟩))
  have hd3 : Ch (WU p B w2) w2 w3 := ((Ch.refl _ _).drew).tu hc3
  have G3 := hid (hd3.other G2.out hne (by decide))
  have HC3 := hid (HC2.out.tu hd3)
  have H3 := hid h3
  clear c2 C2 h3 hc3 hd3
  go_wp2_with fail
  go_end0
  exact ⟨rfl, H3.out, HC3.out⟩
set_option maxHeartbeats 1000000 in
set_option maxRecDepth 20000 in
theorem p5w_any (p B : Nat) (l : List Nat) (k r : Int) (b : Bool) (o n : Int) (d : ByteArray) (w : World) (h : Wr w p B l) (hd : d.size ≤ 1073741824) (hl : l.length ≤ 100) :
    Calls Tryz.prog 71 #[.pointer (some ⟨p, 0, none⟩), .agg #[.int .i64 k, .int .i64 r, .bool b, .int .i64 o, .int .i64 n, .string d]] w (Lays p B (l ++ nb 8 (n % 18446744073709551616).toNat ++ (nb 4 d.size ++ bl d)) w) := by
  have g1 : (w.alloc (.cells #[.int .i64 k, .int .i64 r, .bool b, .int .i64 o, .int .i64 n, .string d] 27)).heap[w.heap.size]? = some (.cells #[.int .i64 k, .int .i64 r, .bool b, .int .i64 o, .int .i64 n, .string d] 27 (0, 0)) := heap_new _ _
  have h1 : Wr (w.alloc (.cells #[.int .i64 k, .int .i64 r, .bool b, .int .i64 o, .int .i64 n, .string d] 27)) p B l := h.alloc _
  have hc1 : Ch (WU p B w) w (w.alloc (.cells #[.int .i64 k, .int .i64 r, .bool b, .int .i64 o, .int .i64 n, .string d] 27)) := (Ch.refl _ _).alloc _
  have hne : w.heap.size ≠ p := by have := h.lt; omega
  clear h
  go_enter Tryz.func71, Tryz.ntmps71
  go_wp2_with fail
  have HC1 := hid hc1
  have H1 := hid h1
  have G1 := hid g1
  clear hc1 h1 g1
  generalize (w.alloc (.cells #[.int .i64 k, .int .i64 r, .bool b, .int .i64 o, .int .i64 n, .string d] 27)) = w1 at *
  have c1 : w1.cell? ⟨w.heap.size, 4, none⟩ = some (.int .i64 n) := (cell_of G1.out).trans rfl
  have C1 := hid (wi64_any p B (l) n w1.drew (show Wr w1.drew p B _ from H1.out) (by omega))
  go_region_with ((go_at_call 52; refine C1.out.mono ?_; rintro e w2 ⟨rfl, h2, hc2⟩))
  have hd2 : Ch (WU p B w1) w1 w2 := ((Ch.refl _ _).drew).tu hc2
  have G2 := hid (hd2.other G1.out hne (by decide))
  have HC2 := hid (HC1.out.tu hd2)
  have H2 := hid h2
  clear c1 C1 h2 hc2 hd2
  have c2 : w2.cell? ⟨w.heap.size, 5, none⟩ = some (.string d) := (cell_of G2.out).trans rfl
  have C2 := hid (pdata_ok p B (l ++ nb 8 (n % 18446744073709551616).toNat) d 1073741824 w2 H2.out hd (by omega) (by simp only [List.length_append, nb_len]; omega))
  go_wp2_with fail
  refine C2.out.mono ?_
  rintro e w3 ⟨rfl, h3, hc3⟩
  have hd3 : Ch (WU p B w2) w2 w3 := hc3
  have G3 := hid (hd3.other G2.out hne (by decide))
  have HC3 := hid (HC2.out.tu hd3)
  have H3 := hid h3
  clear c2 C2 h3 hc3 hd3
  go_wp2_with fail
  go_end0
  exact ⟨rfl, H3.out, HC3.out⟩
set_option maxHeartbeats 1000000 in
set_option maxRecDepth 20000 in
theorem p7w_any (p B : Nat) (l : List Nat) (k r : Int) (b : Bool) (o n : Int) (d : ByteArray) (w : World) (h : Wr w p B l) (hl : l.length ≤ 100) :
    Calls Tryz.prog 73 #[.pointer (some ⟨p, 0, none⟩), .agg #[.int .i64 k, .int .i64 r, .bool b, .int .i64 o, .int .i64 n, .string d]] w (Lays p B (l ++ nb 8 (n % 18446744073709551616).toNat) w) := by
  have g1 : (w.alloc (.cells #[.int .i64 k, .int .i64 r, .bool b, .int .i64 o, .int .i64 n, .string d] 27)).heap[w.heap.size]? = some (.cells #[.int .i64 k, .int .i64 r, .bool b, .int .i64 o, .int .i64 n, .string d] 27 (0, 0)) := heap_new _ _
  have h1 : Wr (w.alloc (.cells #[.int .i64 k, .int .i64 r, .bool b, .int .i64 o, .int .i64 n, .string d] 27)) p B l := h.alloc _
  have hc1 : Ch (WU p B w) w (w.alloc (.cells #[.int .i64 k, .int .i64 r, .bool b, .int .i64 o, .int .i64 n, .string d] 27)) := (Ch.refl _ _).alloc _
  have hne : w.heap.size ≠ p := by have := h.lt; omega
  clear h
  go_enter Tryz.func73, Tryz.ntmps73
  go_wp2_with fail
  have HC1 := hid hc1
  have H1 := hid h1
  have G1 := hid g1
  clear hc1 h1 g1
  generalize (w.alloc (.cells #[.int .i64 k, .int .i64 r, .bool b, .int .i64 o, .int .i64 n, .string d] 27)) = w1 at *
  have c1 : w1.cell? ⟨w.heap.size, 4, none⟩ = some (.int .i64 n) := (cell_of G1.out).trans rfl
  have C1 := hid (wi64_any p B (l) n w1.drew (show Wr w1.drew p B _ from H1.out) (by omega))
  go_region_with ((go_at_call 52; refine C1.out.mono ?_; rintro e w2 ⟨rfl, h2, hc2⟩))
  have hd2 : Ch (WU p B w1) w1 w2 := ((Ch.refl _ _).drew).tu hc2
  have G2 := hid (hd2.other G1.out hne (by decide))
  have HC2 := hid (HC1.out.tu hd2)
  have H2 := hid h2
  clear c1 C1 h2 hc2 hd2
  go_wp2_with fail
  go_end0
  exact ⟨rfl, H2.out, HC2.out⟩
set_option maxHeartbeats 1000000 in
set_option maxRecDepth 20000 in
theorem p9w_any (p B : Nat) (l : List Nat) (k r : Int) (b : Bool) (o n : Int) (d : ByteArray) (w : World) (h : Wr w p B l) (hl : l.length ≤ 100) :
    Calls Tryz.prog 75 #[.pointer (some ⟨p, 0, none⟩), .agg #[.int .i64 k, .int .i64 r, .bool b, .int .i64 o, .int .i64 n, .string d]] w (Lays p B (l ++ nb 8 (o % 18446744073709551616).toNat ++ nb 8 (n % 18446744073709551616).toNat) w) := by
  have g1 : (w.alloc (.cells #[.int .i64 k, .int .i64 r, .bool b, .int .i64 o, .int .i64 n, .string d] 27)).heap[w.heap.size]? = some (.cells #[.int .i64 k, .int .i64 r, .bool b, .int .i64 o, .int .i64 n, .string d] 27 (0, 0)) := heap_new _ _
  have h1 : Wr (w.alloc (.cells #[.int .i64 k, .int .i64 r, .bool b, .int .i64 o, .int .i64 n, .string d] 27)) p B l := h.alloc _
  have hc1 : Ch (WU p B w) w (w.alloc (.cells #[.int .i64 k, .int .i64 r, .bool b, .int .i64 o, .int .i64 n, .string d] 27)) := (Ch.refl _ _).alloc _
  have hne : w.heap.size ≠ p := by have := h.lt; omega
  clear h
  go_enter Tryz.func75, Tryz.ntmps75
  go_wp2_with fail
  have HC1 := hid hc1
  have H1 := hid h1
  have G1 := hid g1
  clear hc1 h1 g1
  generalize (w.alloc (.cells #[.int .i64 k, .int .i64 r, .bool b, .int .i64 o, .int .i64 n, .string d] 27)) = w1 at *
  have c1 : w1.cell? ⟨w.heap.size, 3, none⟩ = some (.int .i64 o) := (cell_of G1.out).trans rfl
  have C1 := hid (wi64_any p B (l) o w1.drew (show Wr w1.drew p B _ from H1.out) (by omega))
  go_region_with ((go_at_call 52; refine C1.out.mono ?_; rintro e w2 ⟨rfl, h2, hc2⟩))
  have hd2 : Ch (WU p B w1) w1 w2 := ((Ch.refl _ _).drew).tu hc2
  have G2 := hid (hd2.other G1.out hne (by decide))
  have HC2 := hid (HC1.out.tu hd2)
  have H2 := hid h2
  clear c1 C1 h2 hc2 hd2
  have c2 : w2.cell? ⟨w.heap.size, 4, none⟩ = some (.int .i64 n) := (cell_of G2.out).trans rfl
  have C2 := hid (wi64_any p B (l ++ nb 8 (o % 18446744073709551616).toNat) n w2.drew (show Wr w2.drew p B _ from H2.out) (by simp only [List.length_append, nb_len]; omega))
  go_wp2_with fail
  go_region_with ((go_at_call 52; refine C2.out.mono ?_; rintro e w3 ⟨rfl, h3, hc3⟩))
  have hd3 : Ch (WU p B w2) w2 w3 := ((Ch.refl _ _).drew).tu hc3
  have G3 := hid (hd3.other G2.out hne (by decide))
  have HC3 := hid (HC2.out.tu hd3)
  have H3 := hid h3
  clear c2 C2 h3 hc3 hd3
  go_wp2_with fail
  go_end0
  exact ⟨rfl, H3.out, HC3.out⟩
end Go.Proofs.YtgdaaohlongmlaaGreat
