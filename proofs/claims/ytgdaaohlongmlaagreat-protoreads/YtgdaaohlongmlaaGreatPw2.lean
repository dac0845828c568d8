/- How the fields of each kind are written. -/
import Derived.Test.YtgdaaohlongmlaaGreatPw1
namespace Go.Proofs.YtgdaaohlongmlaaGreat
open Go.RowKit
set_option maxHeartbeats 1000000 in
set_option maxRecDepth 20000 in
theorem q1w_any (p B : Nat) (l : List Nat) (k : Int) (d : ByteArray) (o t m : Int) (w : World) (h : Wr w p B l) (_hl : l.length ≤ 100) :
    Calls Tryz.prog 45 #[.pointer (some ⟨p, 0, none⟩), .agg #[.int .i64 k, .string d, .int .i64 o, .int .i64 t, .int .i64 m]] w (Lays p B (l) w) := by
  go_enter Tryz.func45, Tryz.ntmps45
  go_wp2_with fail
  go_end0
  first
  | exact ⟨rfl, h, Ch.refl _ _⟩
  | exact ⟨rfl, h.alloc _, (Ch.refl _ _).alloc _⟩
set_option maxHeartbeats 1000000 in
set_option maxRecDepth 20000 in
theorem q3w_any (p B : Nat) (l : List Nat) (k : Int) (d : ByteArray) (o t m : Int) (w : World) (h : Wr w p B l) (hd : d.size ≤ 16777216) (hl : l.length ≤ 100) :
    Calls Tryz.prog 47 #[.pointer (some ⟨p, 0, none⟩), .agg #[.int .i64 k, .string d, .int .i64 o, .int .i64 t, .int .i64 m]] w (Lays p B (l ++ (nb 4 d.size ++ bl d)) w) := by
  have g1 : (w.alloc (.cells #[.int .i64 k, .string d, .int .i64 o, .int .i64 t, .int .i64 m] 24)).heap[w.heap.size]? = some (.cells #[.int .i64 k, .string d, .int .i64 o, .int .i64 t, .int .i64 m] 24 (0, 0)) := heap_new _ _
  have h1 : Wr (w.alloc (.cells #[.int .i64 k, .string d, .int .i64 o, .int .i64 t, .int .i64 m] 24)) p B l := h.alloc _
  have hc1 : Ch (WU p B w) w (w.alloc (.cells #[.int .i64 k, .string d, .int .i64 o, .int .i64 t, .int .i64 m] 24)) := (Ch.refl _ _).alloc _
  have hne : w.heap.size ≠ p := by have := h.lt; omega
  clear h
  go_enter Tryz.func47, Tryz.ntmps47
  go_wp2_with fail
  have HC1 := hid hc1
  have H1 := hid h1
  have G1 := hid g1
  clear hc1 h1 g1
  generalize (w.alloc (.cells #[.int .i64 k, .string d, .int .i64 o, .int .i64 t, .int .i64 m] 24)) = w1 at *
  have c1 : w1.cell? ⟨w.heap.size, 1, none⟩ = some (.string d) := (cell_of G1.out).trans rfl
  have C1 := hid (pdata_ok p B (l) d 16777216 w1 H1.out hd (by omega) (by omega))
  go_wp2_with fail
  refine C1.out.mono ?_
  rintro e w2 ⟨rfl, h2, hc2⟩
  have hd2 : Ch (WU p B w1) w1 w2 := hc2
  have G2 := hid (hd2.other G1.out hne (by decide))
  have HC2 := hid (HC1.out.tu hd2)
  have H2 := hid h2
  clear c1 C1 h2 hc2 hd2
  go_wp2_with fail
  go_end0
  exact ⟨rfl, H2.out, HC2.out⟩
set_option maxHeartbeats 1000000 in
set_option maxRecDepth 20000 in
theorem q5w_any (p B : Nat) (l : List Nat) (k : Int) (d : ByteArray) (o t m : Int) (w : World) (h : Wr w p B l) (hl : l.length ≤ 100) :
    Calls Tryz.prog 51 #[.pointer (some ⟨p, 0, none⟩), .agg #[.int .i64 k, .string d, .int .i64 o, .int .i64 t, .int .i64 m]] w (Lays p B (l ++ nb 8 (o % 18446744073709551616).toNat ++ nb 8 (m % 18446744073709551616).toNat) w) := by
  have g1 : (w.alloc (.cells #[.int .i64 k, .string d, .int .i64 o, .int .i64 t, .int .i64 m] 24)).heap[w.heap.size]? = some (.cells #[.int .i64 k, .string d, .int .i64 o, .int .i64 t, .int .i64 m] 24 (0, 0)) := heap_new _ _
  have h1 : Wr (w.alloc (.cells #[.int .i64 k, .string d, .int .i64 o, .int .i64 t, .int .i64 m] 24)) p B l := h.alloc _
  have hc1 : Ch (WU p B w) w (w.alloc (.cells #[.int .i64 k, .string d, .int .i64 o, .int .i64 t, .int .i64 m] 24)) := (Ch.refl _ _).alloc _
  have hne : w.heap.size ≠ p := by have := h.lt; omega
  clear h
  go_enter Tryz.func51, Tryz.ntmps51
  go_wp2_with fail
  have HC1 := hid hc1
  have H1 := hid h1
  have G1 := hid g1
  clear hc1 h1 g1
  generalize (w.alloc (.cells #[.int .i64 k, .string d, .int .i64 o, .int .i64 t, .int .i64 m] 24)) = w1 at *
  have c1 : w1.cell? ⟨w.heap.size, 2, none⟩ = some (.int .i64 o) := (cell_of G1.out).trans rfl
  have C1 := hid (wi64_any p B (l) o w1.drew (show Wr w1.drew p B _ from H1.out) (by omega))
  go_region_with ((go_at_call 52; refine C1.out.mono ?_; rintro e w2 ⟨rfl, h2, hc2⟩))
  have hd2 : Ch (WU p B w1) w1 w2 := ((Ch.refl _ _).drew).tu hc2
  have G2 := hid (hd2.other G1.out hne (by decide))
  have HC2 := hid (HC1.out.tu hd2)
  have H2 := hid h2
  clear c1 C1 h2 hc2 hd2
  have c2 : w2.cell? ⟨w.heap.size, 4, none⟩ = some (.int .i64 m) := (cell_of G2.out).trans rfl
  have C2 := hid (wi64_any p B (l ++ nb 8 (o % 18446744073709551616).toNat) m w2.drew (show Wr w2.drew p B _ from H2.out) (by simp only [List.length_append, nb_len]; omega))
  go_wp2_with fail
  go_region_with ((go_at_call 52; refine C2.out.mono ?_; rintro e w3 ⟨rfl, h3, hc3⟩))
  have hd3 : Ch (WU p B w2) w2 w3 := ((Ch.refl _ _).drew).tu hc3
  have G3 := hid (hd3.other G2.out hne (by decide))
  have HC3 := hid (HC2.out.tu hd3)
  have H3 := hid h3
  clear c2 C2 h3 hc3 hd3
  go_wp2_with fail
  go_end0
  exact ⟨rfl, H3.out, HC3.out⟩
set_option maxHeartbeats 1000000 in
set_option maxRecDepth 20000 in
theorem q7w_any (p B : Nat) (l : List Nat) (k : Int) (d : ByteArray) (o t m : Int) (w : World) (h : Wr w p B l) (hl : l.length ≤ 100) :
    Calls Tryz.prog 55 #[.pointer (some ⟨p, 0, none⟩), .agg #[.int .i64 k, .string d, .int .i64 o, .int .i64 t, .int .i64 m]] w (Lays p B (l ++ nb 8 (t % 18446744073709551616).toNat) w) := by
  have g1 : (w.alloc (.cells #[.int .i64 k, .string d, .int .i64 o, .int .i64 t, .int .i64 m] 24)).heap[w.heap.size]? = some (.cells #[.int .i64 k, .string d, .int .i64 o, .int .i64 t, .int .i64 m] 24 (0, 0)) := heap_new _ _
  have h1 : Wr (w.alloc (.cells #[.int .i64 k, .string d, .int .i64 o, .int .i64 t, .int .i64 m] 24)) p B l := h.alloc _
  have hc1 : Ch (WU p B w) w (w.alloc (.cells #[.int .i64 k, .string d, .int .i64 o, .int .i64 t, .int .i64 m] 24)) := (Ch.refl _ _).alloc _
  have hne : w.heap.size ≠ p := by have := h.lt; omega
  clear h
  go_enter Tryz.func55, Tryz.ntmps55
  go_wp2_with fail
  have HC1 := hid hc1
  have H1 := hid h1
  have G1 := hid g1
  clear hc1 h1 g1
  generalize (w.alloc (.cells #[.int .i64 k, .string d, .int .i64 o, .int .i64 t, .int .i64 m] 24)) = w1 at *
  have c1 : w1.cell? ⟨w.heap.size, 3, none⟩ = some (.int .i64 t) := (cell_of G1.out).trans rfl
  have C1 := hid (wi64_any p B (l) t w1.drew (show Wr w1.drew p B _ from H1.out) (by omega))
  go_region_with ((go_at_call 52; refine C1.out.mono ?_; rintro e w2 ⟨rfl, h2, hc2⟩))
  have hd2 : Ch (WU p B w1) w1 w2 := ((Ch.refl _ _).drew).tu hc2
  have G2 := hid (hd2.other G1.out hne (by decide))
  have HC2 := hid (HC1.out.tu hd2)
  have H2 := hid h2
  clear c1 C1 h2 hc2 hd2
  go_wp2_with fail
  go_end0
  exact ⟨rfl, H2.out, HC2.out⟩
set_option maxHeartbeats 1000000 in
set_option maxRecDepth 20000 in
theorem q9w_any (p B : Nat) (l : List Nat) (k : Int) (d : ByteArray) (o t m : Int) (w : World) (h : Wr w p B l) (hl : l.length ≤ 100) :
    Calls Tryz.prog 57 #[.pointer (some ⟨p, 0, none⟩), .agg #[.int .i64 k, .string d, .int .i64 o, .int .i64 t, .int .i64 m]] w (Lays p B (l ++ nb 8 (o % 18446744073709551616).toNat) w) := by
  have g1 : (w.alloc (.cells #[.int .i64 k, .string d, .int .i64 o, .int .i64 t, .int .i64 m] 24)).heap[w.heap.size]? = some (.cells #[.int .i64 k, .string d, .int .i64 o, .int .i64 t, .int .i64 m] 24 (0, 0)) := heap_new _ _
  have h1 : Wr (w.alloc (.cells #[.int .i64 k, .string d, .int .i64 o, .int .i64 t, .int .i64 m] 24)) p B l := h.alloc _
  have hc1 : Ch (WU p B w) w (w.alloc (.cells #[.int .i64 k, .string d, .int .i64 o, .int .i64 t, .int .i64 m] 24)) := (Ch.refl _ _).alloc _
  have hne : w.heap.size ≠ p := by have := h.lt; omega
  clear h
  go_enter Tryz.func57, Tryz.ntmps57
  go_wp2_with fail
  have HC1 := hid hc1
  have H1 := hid h1
  have G1 := hid g1
  clear hc1 h1 g1
  generalize (w.alloc (.cells #[.int .i64 k, .string d, .int .i64 o, .int .i64 t, .int .i64 m] 24)) = w1 at *
  have c1 : w1.cell? ⟨w.heap.size, 2, none⟩ = some (.int .i64 o) := (cell_of G1.out).trans rfl
  have C1 := hid (wi64_any p B (l) o w1.drew (show Wr w1.drew p B _ from H1.out) (by omega))
  go_region_with ((go_at_call 52; refine C1.out.mono ?_; rintro e w2 ⟨rfl, h2, hc2⟩))
  have hd2 : Ch (WU p B w1) w1 w2 := ((Ch.refl _ _).drew).tu hc2
  have G2 := hid (hd2.other G1.out hne (by decide))
  have HC2 := hid (HC1.out.tu hd2)
  have H2 := hid h2
  clear c1 C1 h2 hc2 hd2
  go_wp2_with fail
  go_end0
  exact ⟨rfl, H2.out, HC2.out⟩
end Go.Proofs.YtgdaaohlongmlaaGreat
