/- How too long a text is refused in writing. -/
import Derived.Test.YtgdaaohlongmlaaGreatPw2
import Derived.Test.YtgdaaohlongmlaaGreatPw3
namespace Go.Proofs.YtgdaaohlongmlaaGreat
open Go.RowKit
set_option maxHeartbeats 1000000 in
set_option maxRecDepth 20000 in
theorem q3w_long (p B : Nat) (l : List Nat) (k : Int) (d : ByteArray) (o t m : Int) (w : World) (h : Wr w p B l) (hd : 16777216 < d.size) :
    Calls Tryz.prog 47 #[.pointer (some ⟨p, 0, none⟩), .agg #[.int .i64 k, .string d, .int .i64 o, .int .i64 t, .int .i64 m]] w fun e w' => e = .returned (.tuple #[]) ∧ WF w' p ∧ Ch (WU p B w) w w' := by
  have g1 : (w.alloc (.cells #[.int .i64 k, .string d, .int .i64 o, .int .i64 t, .int .i64 m] 24)).heap[w.heap.size]? = some (.cells #[.int .i64 k, .string d, .int .i64 o, .int .i64 t, .int .i64 m] 24 (0, 0)) := heap_new _ _
  have h1 : Wr (w.alloc (.cells #[.int .i64 k, .string d, .int .i64 o, .int .i64 t, .int .i64 m] 24)) p B l := h.alloc _
  have hc1 : Ch (WU p B w) w (w.alloc (.cells #[.int .i64 k, .string d, .int .i64 o, .int .i64 t, .int .i64 m] 24)) := (Ch.refl _ _).alloc _
  clear h
  go_enter Tryz.func47, Tryz.ntmps47
  go_wp2_with fail
  have HC1 := hid hc1
  have H1 := hid h1
  clear hc1 h1
  generalize (w.alloc (.cells #[.int .i64 k, .string d, .int .i64 o, .int .i64 t, .int .i64 m] 24)) = w1 at *
  refine (pdata_long p B l d 16777216 w1 H1.out hd).mono ?_
  rintro e w2 ⟨rfl, h2, hc2⟩
  go_wp2_with fail
  go_end0
  exact ⟨rfl, h2, HC1.out.tu hc2⟩
set_option maxHeartbeats 1000000 in
set_option maxRecDepth 20000 in
theorem p5w_long (p B : Nat) (l : List Nat) (k r : Int) (b : Bool) (o n : Int) (d : ByteArray) (w : World) (h : Wr w p B l) (hd : 1073741824 < d.size) (hl : l.length ≤ 100) :
    Calls Tryz.prog 71 #[.pointer (some ⟨p, 0, none⟩), .agg #[.int .i64 k, .int .i64 r, .bool b, .int .i64 o, .int .i64 n, .string d]] w fun e w' => e = .returned (.tuple #[]) ∧ WF w' p ∧ Ch (WU p B w) w w' := by
  have g1 : (w.alloc (.cells #[.int .i64 k, .int .i64 r, .bool b, .int .i64 o, .int .i64 n, .string d] 27)).heap[w.heap.size]? = some (.cells #[.int .i64 k, .int .i64 r, .bool b, .int .i64 o, .int .i64 n, .string d] 27 (0, 0)) := heap_new _ _
  have h1 : Wr (w.alloc (.cells #[.int .i64 k, .int .i64 r, .bool b, .int .i64 o, .int .i64 n, .string d] 27)) p B l := h.alloc _
  have hc1 : Ch (WU p B w) w (w.alloc (.cells #[.int .i64 k, .int .i64 r, .bool b, .int .i64 o, .int .i64 n, .string d] 27)) := (Ch.refl _ _).alloc _
  have hne : w.heap.size ≠ p := by have := h.lt; omega
  clear h
  go_enter Tryz.func71, Tryz.ntmps71
  go_wp2_with fail
  have HC1 := hid hc1
  have H1 := hid h1
  have G1 := hid g1
  clear hc1 h1 g1
  generalize (w.alloc (.cells #[.int .i64 k, .int .i64 r, .bool b, .int .i64 o, .int .i64 n, .string d] 27)) = w1 at *
  have c1 : w1.cell? ⟨w.heap.size, 4, none⟩ = some (.int .i64 n) := (cell_of G1.out).trans rfl
  have C1 := hid (wi64_any p B (l) n w1.drew (show Wr w1.drew p B _ from H1.out) (by omega))
  go_region_with ((go_at_call 52; refine C1.out.mono ?_; rintro e w2 ⟨rfl, h2, hc2⟩))
  have hd2 : Ch (WU p B w1) w1 w2 := ((Ch.refl _ _).drew).tu hc2
  have G2 := hid (hd2.other G1.out hne (by decide))
  have HC2 := hid (HC1.out.tu hd2)
  have H2 := hid h2
  clear c1 C1 h2 hc2 hd2
  have c2 : w2.cell? ⟨w.heap.size, 5, none⟩ = some (.string d) := (cell_of G2.out).trans rfl
  go_wp2_with fail
  refine (pdata_long p B _ d 1073741824 w2 H2.out hd).mono ?_
  rintro e w3 ⟨rfl, h3, hc3⟩
  go_wp2_with fail
  go_end0
  exact ⟨rfl, h3, HC2.out.tu hc3⟩
end Go.Proofs.YtgdaaohlongmlaaGreat
