/- How the fields of each kind are read. -/
import Derived.Test.YtgdaaohlongmlaaGreatPr1
namespace Go.Proofs.YtgdaaohlongmlaaGreat
open Go.RowKit
/-- What a kind's reading leaves: the reader, and what is read. -/
def RC (q b G : Nat) (s : ByteArray) (cells : Array Value) (T : TypeId) (k' e' f' : Nat) (w : World) (r : Ending) (w' : World) : Prop :=
  r = .returned (.tuple #[]) ∧ RS w' q b s k' e' f' ∧ w'.heap[G]? = some (.cells cells T (0, 0)) ∧ Ch (fun i => i = b ∨ i = q ∨ i = G) w w'
theorem rs_set {w : World} {q b G i : Nat} {s : ByteArray} {k e f : Nat} {v : Value} (h : RS w q b s k e f) (hq : G ≠ q) (hb : G ≠ b) : RS (w.setCell ⟨G, i, none⟩ v) q b s k e f :=
  ⟨heap_set_far h.1 (fun e => hq e.symm), h.2.1.far _ (fun e => hb e.symm), h.2.2⟩
theorem ch3 {q b G : Nat} {w w' : World} (h : Ch (fun i => i = b ∨ i = q) w w') : Ch (fun i => i = b ∨ i = q ∨ i = G) w w' := h.mono (fun _ _ h => h.elim Or.inl (fun h => Or.inr (Or.inl h)))
set_option maxHeartbeats 1000000 in
set_option maxRecDepth 20000 in
theorem q2r_any (q b G : Nat) (s : ByteArray) (v : Int) (k : Nat) (w : World) (h : RS w q b s k 0 0) (g : w.heap[G]? = some (.cells #[.int .i64 v, .string ⟨#[]⟩, .int .i64 0, .int .i64 0, .int .i64 0] 24 (0, 0))) :
    Calls Tryz.prog 46 #[.pointer (some ⟨q, 0, none⟩), .pointer (some ⟨G, 0, none⟩)] w (RC q b G s #[.int .i64 v, .string ⟨#[]⟩, .int .i64 0, .int .i64 0, .int .i64 0] 24 k 0 0 w) := by
  have H := hid h
  have HG := hid g
  clear h g
  go_enter Tryz.func46, Tryz.ntmps46
  go_wp2_with fail
  go_end0
  exact ⟨rfl, H.out, HG.out, Ch.refl _ _⟩
set_option maxHeartbeats 1000000 in
set_option maxRecDepth 20000 in
theorem q4r_bad (q b G : Nat) (s : ByteArray) (v : Int) (k F1 e1 k1 x1 : Nat) (w : World) (h : RS w q b s k 0 0) (hk0 : k ≤ s.size) (hs : s.size ≤ 9223372036854775807) (g : w.heap[G]? = some (.cells #[.int .i64 v, .string ⟨#[]⟩, .int .i64 0, .int .i64 0, .int .i64 0] 24 (0, 0))) (hq : G ≠ q) (hb : G ≠ b) (h1 : fx 4 s k 0 = (x1, k1, e1)) (hb1 : e1 ≠ 0 ∨ dcut 16777216 s x1 k1 = true) (hF1 : rf (dcut 16777216 s x1 k1) 21 0 e1 = F1) :
    Calls Tryz.prog 49 #[.pointer (some ⟨q, 0, none⟩), .pointer (some ⟨G, 0, none⟩)] w (RC q b G s #[.int .i64 v, .string ⟨#[]⟩, .int .i64 0, .int .i64 0, .int .i64 0] 24 k1 e1 F1 w) := by
  have C1 := hid (fun (W : World) (H : RS W q b s k 0 0) => rdata_err q b 16777216 s k 0 x1 k1 e1 W H hk0 hs h1 hb1)
  rw [hF1] at C1
  have H0 := hid h
  have G0 := hid g
  have HC0 : Hid (Ch (fun i => i = b ∨ i = q ∨ i = G) w w) := hid (Ch.refl _ _)
  clear h g
  clear h1 hF1 hb1
  go_enter Tryz.func49, Tryz.ntmps49
  go_wp2_with fail
  refine (C1.out w H0.out).mono ?_
  rintro e w1 ⟨rfl, h1, hc1⟩
  have g1 : w1.heap[G]? = _ := (hc1.block G (lt_of_heap G0.out) (fun h => h.elim hb hq)).trans G0.out
  have d1 : w1.cell? ⟨G, 1, none⟩ = some (.string ⟨#[]⟩) := (cell_of g1).trans rfl
  have z1 := froz_of (i := 1) g1
  have G1 : Hid ((w1.setCell ⟨G, 1, none⟩ (.string ⟨#[]⟩)).heap[G]? = _) := hid (heap_set g1)
  have H1 := hid (rs_set (i := 1) (v := .string ⟨#[]⟩) h1 hq hb)
  have HC1 := hid ((HC0.out.trans (ch3 hc1)).setCell ⟨G, 1, none⟩ (.string ⟨#[]⟩) (fun _ => Or.inr (Or.inr rfl)))
  clear g1 h1 hc1 G0 H0 HC0 C1
  go_wp2_with fail
  go_end0
  exact ⟨rfl, H1.out, G1.out, HC1.out⟩
set_option maxHeartbeats 1000000 in
set_option maxRecDepth 20000 in
theorem q4r_ok (q b G : Nat) (s : ByteArray) (v : Int) (k k1 x1 : Nat) (w : World) (h : RS w q b s k 0 0) (hk0 : k ≤ s.size) (hs : s.size ≤ 9223372036854775807) (g : w.heap[G]? = some (.cells #[.int .i64 v, .string ⟨#[]⟩, .int .i64 0, .int .i64 0, .int .i64 0] 24 (0, 0))) (hq : G ≠ q) (hb : G ≠ b) (h1 : fx 4 s k 0 = (x1, k1, 0)) (hM1 : x1 ≤ 16777216) (hL1 : k1 + x1 ≤ s.size) :
    Calls Tryz.prog 49 #[.pointer (some ⟨q, 0, none⟩), .pointer (some ⟨G, 0, none⟩)] w (RC q b G s #[.int .i64 v, .string (s.extract k1 (k1 + x1)), .int .i64 0, .int .i64 0, .int .i64 0] 24 (k1 + x1) 0 0 w) := by
  have C1 := hid (fun (W : World) (H : RS W q b s k 0 0) => rdata_ok q b 16777216 s k x1 k1 W H hk0 hs h1 hM1 hL1 (by omega))
  have H0 := hid h
  have G0 := hid g
  have HC0 : Hid (Ch (fun i => i = b ∨ i = q ∨ i = G) w w) := hid (Ch.refl _ _)
  clear h g
  generalize s.extract k1 (k1 + x1) = V1 at *
  clear h1
  go_enter Tryz.func49, Tryz.ntmps49
  go_wp2_with fail
  refine (C1.out w H0.out).mono ?_
  rintro e w1 ⟨rfl, h1, hc1⟩
  have g1 : w1.heap[G]? = _ := (hc1.block G (lt_of_heap G0.out) (fun h => h.elim hb hq)).trans G0.out
  have d1 : w1.cell? ⟨G, 1, none⟩ = some (.string ⟨#[]⟩) := (cell_of g1).trans rfl
  have z1 := froz_of (i := 1) g1
  have G1 : Hid ((w1.setCell ⟨G, 1, none⟩ (.string V1)).heap[G]? = _) := hid (heap_set g1)
  have H1 := hid (rs_set (i := 1) (v := .string V1) h1 hq hb)
  have HC1 := hid ((HC0.out.trans (ch3 hc1)).setCell ⟨G, 1, none⟩ (.string V1) (fun _ => Or.inr (Or.inr rfl)))
  clear g1 h1 hc1 G0 H0 HC0 C1
  go_wp2_with fail
  go_end0
  exact ⟨rfl, H1.out, G1.out, HC1.out⟩
set_option maxHeartbeats 1000000 in
set_option maxRecDepth 20000 in
theorem q6r_any (q b G : Nat) (s : ByteArray) (v : Int) (k e1 e2 k1 k2 x1 x2 : Nat) (w : World) (h : RS w q b s k 0 0) (hk0 : k ≤ s.size) (hs : s.size ≤ 9223372036854775807) (g : w.heap[G]? = some (.cells #[.int .i64 v, .string ⟨#[]⟩, .int .i64 0, .int .i64 0, .int .i64 0] 24 (0, 0))) (hq : G ≠ q) (hb : G ≠ b) (h1 : fx 8 s k 0 = (x1, k1, e1)) (h2 : fx 8 s k1 e1 = (x2, k2, e2)) :
    Calls Tryz.prog 53 #[.pointer (some ⟨q, 0, none⟩), .pointer (some ⟨G, 0, none⟩)] w (RC q b G s #[.int .i64 v, .string ⟨#[]⟩, .int .i64 (wrap64 x1), .int .i64 0, .int .i64 (wrap64 x2)] 24 k2 e2 0 w) := by
  have hk1 := fxle hk0 h1
  have C1 := hid (fun (W : World) (H : RS W q b s k 0 0) => rnumber_any q b 0 s k 0 x1 k1 e1 W H hk0 hs h1)
  have C2 := hid (fun (W : World) (H : RS W q b s k1 e1 0) => rnumber_any q b 0 s k1 e1 x2 k2 e2 W H hk1 hs h2)
  have H0 := hid h
  have G0 := hid g
  have HC0 : Hid (Ch (fun i => i = b ∨ i = q ∨ i = G) w w) := hid (Ch.refl _ _)
  clear h g
  generalize wrap64 (x1 : Int) = V1 at *
  generalize wrap64 (x2 : Int) = V2 at *
  clear h1 h2
  go_enter Tryz.func53, Tryz.ntmps53
  go_wp2_with fail
  refine (C1.out w H0.out).mono ?_
  rintro e w1 ⟨rfl, h1, hc1⟩
  have g1 : w1.heap[G]? = _ := (hc1.block G (lt_of_heap G0.out) (fun h => h.elim hb hq)).trans G0.out
  have d1 : w1.cell? ⟨G, 2, none⟩ = some (.int .i64 0) := (cell_of g1).trans rfl
  have z1 := froz_of (i := 2) g1
  have G1 : Hid ((w1.setCell ⟨G, 2, none⟩ (.int .i64 V1)).heap[G]? = _) := hid (heap_set g1)
  have H1 := hid (rs_set (i := 2) (v := .int .i64 V1) h1 hq hb)
  have HC1 := hid ((HC0.out.trans (ch3 hc1)).setCell ⟨G, 2, none⟩ (.int .i64 V1) (fun _ => Or.inr (Or.inr rfl)))
  clear g1 h1 hc1 G0 H0 HC0 C1
  go_wp2_with fail
  refine (C2.out _ H1.out).mono ?_
  rintro e w2 ⟨rfl, h2, hc2⟩
  have g2 : w2.heap[G]? = _ := (hc2.block G (lt_of_heap G1.out) (fun h => h.elim hb hq)).trans G1.out
  have d2 : w2.cell? ⟨G, 4, none⟩ = some (.int .i64 0) := (cell_of g2).trans rfl
  have z2 := froz_of (i := 4) g2
  have G2 : Hid ((w2.setCell ⟨G, 4, none⟩ (.int .i64 V2)).heap[G]? = _) := hid (heap_set g2)
  have H2 := hid (rs_set (i := 4) (v := .int .i64 V2) h2 hq hb)
  have HC2 := hid ((HC1.out.trans (ch3 hc2)).setCell ⟨G, 4, none⟩ (.int .i64 V2) (fun _ => Or.inr (Or.inr rfl)))
  clear g2 h2 hc2 G1 H1 HC1 C2
  go_wp2_with fail
  go_end0
  exact ⟨rfl, H2.out, G2.out, HC2.out⟩
set_option maxHeartbeats 1000000 in
set_option maxRecDepth 20000 in
theorem q8r_any (q b G : Nat) (s : ByteArray) (v : Int) (k e1 k1 x1 : Nat) (w : World) (h : RS w q b s k 0 0) (hk0 : k ≤ s.size) (hs : s.size ≤ 9223372036854775807) (g : w.heap[G]? = some (.cells #[.int .i64 v, .string ⟨#[]⟩, .int .i64 0, .int .i64 0, .int .i64 0] 24 (0, 0))) (hq : G ≠ q) (hb : G ≠ b) (h1 : fx 8 s k 0 = (x1, k1, e1)) :
    Calls Tryz.prog 56 #[.pointer (some ⟨q, 0, none⟩), .pointer (some ⟨G, 0, none⟩)] w (RC q b G s #[.int .i64 v, .string ⟨#[]⟩, .int .i64 0, .int .i64 (wrap64 x1), .int .i64 0] 24 k1 e1 0 w) := by
  have C1 := hid (fun (W : World) (H : RS W q b s k 0 0) => rnumber_any q b 0 s k 0 x1 k1 e1 W H hk0 hs h1)
  have H0 := hid h
  have G0 := hid g
  have HC0 : Hid (Ch (fun i => i = b ∨ i = q ∨ i = G) w w) := hid (Ch.refl _ _)
  clear h g
  generalize wrap64 (x1 : Int) = V1 at *
  clear h1
  go_enter Tryz.func56, Tryz.ntmps56
  go_wp2_with fail
  refine (C1.out w H0.out).mono ?_
  rintro e w1 ⟨rfl, h1, hc1⟩
  have g1 : w1.heap[G]? = _ := (hc1.block G (lt_of_heap G0.out) (fun h => h.elim hb hq)).trans G0.out
  have d1 : w1.cell? ⟨G, 3, none⟩ = some (.int .i64 0) := (cell_of g1).trans rfl
  have z1 := froz_of (i := 3) g1
  have G1 : Hid ((w1.setCell ⟨G, 3, none⟩ (.int .i64 V1)).heap[G]? = _) := hid (heap_set g1)
  have H1 := hid (rs_set (i := 3) (v := .int .i64 V1) h1 hq hb)
  have HC1 := hid ((HC0.out.trans (ch3 hc1)).setCell ⟨G, 3, none⟩ (.int .i64 V1) (fun _ => Or.inr (Or.inr rfl)))
  clear g1 h1 hc1 G0 H0 HC0 C1
  go_wp2_with fail
  go_end0
  exact ⟨rfl, H1.out, G1.out, HC1.out⟩
set_option maxHeartbeats 1000000 in
set_option maxRecDepth 20000 in
theorem q10r_any (q b G : Nat) (s : ByteArray) (v : Int) (k e1 k1 x1 : Nat) (w : World) (h : RS w q b s k 0 0) (hk0 : k ≤ s.size) (hs : s.size ≤ 9223372036854775807) (g : w.heap[G]? = some (.cells #[.int .i64 v, .string ⟨#[]⟩, .int .i64 0, .int .i64 0, .int .i64 0] 24 (0, 0))) (hq : G ≠ q) (hb : G ≠ b) (h1 : fx 8 s k 0 = (x1, k1, e1)) :
    Calls Tryz.prog 58 #[.pointer (some ⟨q, 0, none⟩), .pointer (some ⟨G, 0, none⟩)] w (RC q b G s #[.int .i64 v, .string ⟨#[]⟩, .int .i64 (wrap64 x1), .int .i64 0, .int .i64 0] 24 k1 e1 0 w) := by
  have C1 := hid (fun (W : World) (H : RS W q b s k 0 0) => rnumber_any q b 0 s k 0 x1 k1 e1 W H hk0 hs h1)
  have H0 := hid h
  have G0 := hid g
  have HC0 : Hid (Ch (fun i => i = b ∨ i = q ∨ i = G) w w) := hid (Ch.refl _ _)
  clear h g
  generalize wrap64 (x1 : Int) = V1 at *
  clear h1
  go_enter Tryz.func58, Tryz.ntmps58
  go_wp2_with fail
  refine (C1.out w H0.out).mono ?_
  rintro e w1 ⟨rfl, h1, hc1⟩
  have g1 : w1.heap[G]? = _ := (hc1.block G (lt_of_heap G0.out) (fun h => h.elim hb hq)).trans G0.out
  have d1 : w1.cell? ⟨G, 2, none⟩ = some (.int .i64 0) := (cell_of g1).trans rfl
  have z1 := froz_of (i := 2) g1
  have G1 : Hid ((w1.setCell ⟨G, 2, none⟩ (.int .i64 V1)).heap[G]? = _) := hid (heap_set g1)
  have H1 := hid (rs_set (i := 2) (v := .int .i64 V1) h1 hq hb)
  have HC1 := hid ((HC0.out.trans (ch3 hc1)).setCell ⟨G, 2, none⟩ (.int .i64 V1) (fun _ => Or.inr (Or.inr rfl)))
  clear g1 h1 hc1 G0 H0 HC0 C1
  go_wp2_with fail
  go_end0
  exact ⟨rfl, H1.out, G1.out, HC1.out⟩
set_option maxHeartbeats 1000000 in
set_option maxRecDepth 20000 in
theorem p2r_any (q b G : Nat) (s : ByteArray) (v : Int) (k e1 k1 x1 : Nat) (w : World) (h : RS w q b s k 0 0) (hk0 : k ≤ s.size) (hs : s.size ≤ 9223372036854775807) (g : w.heap[G]? = some (.cells #[.int .i64 v, .int .i64 0, .bool false, .int .i64 0, .int .i64 0, .string ⟨#[]⟩] 27 (0, 0))) (hq : G ≠ q) (hb : G ≠ b) (h1 : fx 8 s k 0 = (x1, k1, e1)) :
    Calls Tryz.prog 66 #[.pointer (some ⟨q, 0, none⟩), .pointer (some ⟨G, 0, none⟩)] w (RC q b G s #[.int .i64 v, .int .i64 0, .bool false, .int .i64 (wrap64 x1), .int .i64 0, .string ⟨#[]⟩] 27 k1 e1 0 w) := by
  have C1 := hid (fun (W : World) (H : RS W q b s k 0 0) => rnumber_any q b 0 s k 0 x1 k1 e1 W H hk0 hs h1)
  have H0 := hid h
  have G0 := hid g
  have HC0 : Hid (Ch (fun i => i = b ∨ i = q ∨ i = G) w w) := hid (Ch.refl _ _)
  clear h g
  generalize wrap64 (x1 : Int) = V1 at *
  clear h1
  go_enter Tryz.func66, Tryz.ntmps66
  go_wp2_with fail
  refine (C1.out w H0.out).mono ?_
  rintro e w1 ⟨rfl, h1, hc1⟩
  have g1 : w1.heap[G]? = _ := (hc1.block G (lt_of_heap G0.out) (fun h => h.elim hb hq)).trans G0.out
  have d1 : w1.cell? ⟨G, 3, none⟩ = some (.int .i64 0) := (cell_of g1).trans rfl
  have z1 := froz_of (i := 3) g1
  have G1 : Hid ((w1.setCell ⟨G, 3, none⟩ (.int .i64 V1)).heap[G]? = _) := hid (heap_set g1)
  have H1 := hid (rs_set (i := 3) (v := .int .i64 V1) h1 hq hb)
  have HC1 := hid ((HC0.out.trans (ch3 hc1)).setCell ⟨G, 3, none⟩ (.int .i64 V1) (fun _ => Or.inr (Or.inr rfl)))
  clear g1 h1 hc1 G0 H0 HC0 C1
  go_wp2_with fail
  go_end0
  exact ⟨rfl, H1.out, G1.out, HC1.out⟩
set_option maxHeartbeats 1000000 in
set_option maxRecDepth 20000 in
theorem p4r_any (q b G : Nat) (s : ByteArray) (v : Int) (k F1 e1 e2 k1 k2 x1 x2 : Nat) (w : World) (h : RS w q b s k 0 0) (hk0 : k ≤ s.size) (hs : s.size ≤ 9223372036854775807) (g : w.heap[G]? = some (.cells #[.int .i64 v, .int .i64 0, .bool false, .int .i64 0, .int .i64 0, .string ⟨#[]⟩] 27 (0, 0))) (hq : G ≠ q) (hb : G ≠ b) (h1 : fx 1 s k 0 = (x1, k1, e1)) (hF1 : rf (decide (1 < x1)) 91 0 e1 = F1) (h2 : fx 8 s k1 e1 = (x2, k2, e2)) :
    Calls Tryz.prog 69 #[.pointer (some ⟨q, 0, none⟩), .pointer (some ⟨G, 0, none⟩)] w (RC q b G s #[.int .i64 v, .int .i64 0, .bool (decide (x1 = 1)), .int .i64 (wrap64 x2), .int .i64 0, .string ⟨#[]⟩] 27 k2 e2 F1 w) := by
  have hk1 := fxle hk0 h1
  have C1 := hid (fun (W : World) (H : RS W q b s k 0 0) => rtruth_any q b 0 s k 0 x1 k1 e1 W H hk0 hs h1)
  rw [hF1] at C1
  have C2 := hid (fun (W : World) (H : RS W q b s k1 e1 F1) => rnumber_any q b F1 s k1 e1 x2 k2 e2 W H hk1 hs h2)
  have H0 := hid h
  have G0 := hid g
  have HC0 : Hid (Ch (fun i => i = b ∨ i = q ∨ i = G) w w) := hid (Ch.refl _ _)
  clear h g
  generalize decide (x1 = 1) = V1 at *
  generalize wrap64 (x2 : Int) = V2 at *
  clear h1 h2 hF1
  go_enter Tryz.func69, Tryz.ntmps69
  go_wp2_with fail
  refine (C1.out w H0.out).mono ?_
  rintro e w1 ⟨rfl, h1, hc1⟩
  have g1 : w1.heap[G]? = _ := (hc1.block G (lt_of_heap G0.out) (fun h => h.elim hb hq)).trans G0.out
  have d1 : w1.cell? ⟨G, 2, none⟩ = some (.bool false) := (cell_of g1).trans rfl
  have z1 := froz_of (i := 2) g1
  have G1 : Hid ((w1.setCell ⟨G, 2, none⟩ (.bool V1)).heap[G]? = _) := hid (heap_set g1)
  have H1 := hid (rs_set (i := 2) (v := .bool V1) h1 hq hb)
  have HC1 := hid ((HC0.out.trans (ch3 hc1)).setCell ⟨G, 2, none⟩ (.bool V1) (fun _ => Or.inr (Or.inr rfl)))
  clear g1 h1 hc1 G0 H0 HC0 C1
  go_wp2_with fail
  refine (C2.out _ H1.out).mono ?_
  rintro e w2 ⟨rfl, h2, hc2⟩
  have g2 : w2.heap[G]? = _ := (hc2.block G (lt_of_heap G1.out) (fun h => h.elim hb hq)).trans G1.out
  have d2 : w2.cell? ⟨G, 3, none⟩ = some (.int .i64 0) := (cell_of g2).trans rfl
  have z2 := froz_of (i := 3) g2
  have G2 : Hid ((w2.setCell ⟨G, 3, none⟩ (.int .i64 V2)).heap[G]? = _) := hid (heap_set g2)
  have H2 := hid (rs_set (i := 3) (v := .int .i64 V2) h2 hq hb)
  have HC2 := hid ((HC1.out.trans (ch3 hc2)).setCell ⟨G, 3, none⟩ (.int .i64 V2) (fun _ => Or.inr (Or.inr rfl)))
  clear g2 h2 hc2 G1 H1 HC1 C2
  go_wp2_with fail
  go_end0
  exact ⟨rfl, H2.out, G2.out, HC2.out⟩
set_option maxHeartbeats 1000000 in
set_option maxRecDepth 20000 in
theorem p6r_bad (q b G : Nat) (s : ByteArray) (v : Int) (k F2 e1 e2 k1 k2 x1 x2 : Nat) (w : World) (h : RS w q b s k 0 0) (hk0 : k ≤ s.size) (hs : s.size ≤ 9223372036854775807) (g : w.heap[G]? = some (.cells #[.int .i64 v, .int .i64 0, .bool false, .int .i64 0, .int .i64 0, .string ⟨#[]⟩] 27 (0, 0))) (hq : G ≠ q) (hb : G ≠ b) (h1 : fx 8 s k 0 = (x1, k1, e1)) (h2 : fx 4 s k1 e1 = (x2, k2, e2)) (hb2 : e2 ≠ 0 ∨ dcut 1073741824 s x2 k2 = true) (hF2 : rf (dcut 1073741824 s x2 k2) 21 0 e2 = F2) :
    Calls Tryz.prog 72 #[.pointer (some ⟨q, 0, none⟩), .pointer (some ⟨G, 0, none⟩)] w (RC q b G s #[.int .i64 v, .int .i64 0, .bool false, .int .i64 0, .int .i64 (wrap64 x1), .string ⟨#[]⟩] 27 k2 e2 F2 w) := by
  have hk1 := fxle hk0 h1
  have C1 := hid (fun (W : World) (H : RS W q b s k 0 0) => rnumber_any q b 0 s k 0 x1 k1 e1 W H hk0 hs h1)
  have C2 := hid (fun (W : World) (H : RS W q b s k1 e1 0) => rdata_err q b 1073741824 s k1 e1 x2 k2 e2 W H hk1 hs h2 hb2)
  rw [hF2] at C2
  have H0 := hid h
  have G0 := hid g
  have HC0 : Hid (Ch (fun i => i = b ∨ i = q ∨ i = G) w w) := hid (Ch.refl _ _)
  clear h g
  generalize wrap64 (x1 : Int) = V1 at *
  clear h1 h2 hF2 hb2
  go_enter Tryz.func72, Tryz.ntmps72
  go_wp2_with fail
  refine (C1.out w H0.out).mono ?_
  rintro e w1 ⟨rfl, h1, hc1⟩
  have g1 : w1.heap[G]? = _ := (hc1.block G (lt_of_heap G0.out) (fun h => h.elim hb hq)).trans G0.out
  have d1 : w1.cell? ⟨G, 4, none⟩ = some (.int .i64 0) := (cell_of g1).trans rfl
  have z1 := froz_of (i := 4) g1
  have G1 : Hid ((w1.setCell ⟨G, 4, none⟩ (.int .i64 V1)).heap[G]? = _) := hid (heap_set g1)
  have H1 := hid (rs_set (i := 4) (v := .int .i64 V1) h1 hq hb)
  have HC1 := hid ((HC0.out.trans (ch3 hc1)).setCell ⟨G, 4, none⟩ (.int .i64 V1) (fun _ => Or.inr (Or.inr rfl)))
  clear g1 h1 hc1 G0 H0 HC0 C1
  go_wp2_with fail
  refine (C2.out _ H1.out).mono ?_
  rintro e w2 ⟨rfl, h2, hc2⟩
  have g2 : w2.heap[G]? = _ := (hc2.block G (lt_of_heap G1.out) (fun h => h.elim hb hq)).trans G1.out
  have d2 : w2.cell? ⟨G, 5, none⟩ = some (.string ⟨#[]⟩) := (cell_of g2).trans rfl
  have z2 := froz_of (i := 5) g2
  have G2 : Hid ((w2.setCell ⟨G, 5, none⟩ (.string ⟨#[]⟩)).heap[G]? = _) := hid (heap_set g2)
  have H2 := hid (rs_set (i := 5) (v := .string ⟨#[]⟩) h2 hq hb)
  have HC2 := hid ((HC1.out.trans (ch3 hc2)).setCell ⟨G, 5, none⟩ (.string ⟨#[]⟩) (fun _ => Or.inr (Or.inr rfl)))
  clear g2 h2 hc2 G1 H1 HC1 C2
  go_wp2_with fail
  go_end0
  exact ⟨rfl, H2.out, G2.out, HC2.out⟩
set_option maxHeartbeats 1000000 in
set_option maxRecDepth 20000 in
theorem p6r_ok (q b G : Nat) (s : ByteArray) (v : Int) (k k1 k2 x1 x2 : Nat) (w : World) (h : RS w q b s k 0 0) (hk0 : k ≤ s.size) (hs : s.size ≤ 9223372036854775807) (g : w.heap[G]? = some (.cells #[.int .i64 v, .int .i64 0, .bool false, .int .i64 0, .int .i64 0, .string ⟨#[]⟩] 27 (0, 0))) (hq : G ≠ q) (hb : G ≠ b) (h1 : fx 8 s k 0 = (x1, k1, 0)) (h2 : fx 4 s k1 0 = (x2, k2, 0)) (hM2 : x2 ≤ 1073741824) (hL2 : k2 + x2 ≤ s.size) :
    Calls Tryz.prog 72 #[.pointer (some ⟨q, 0, none⟩), .pointer (some ⟨G, 0, none⟩)] w (RC q b G s #[.int .i64 v, .int .i64 0, .bool false, .int .i64 0, .int .i64 (wrap64 x1), .string (s.extract k2 (k2 + x2))] 27 (k2 + x2) 0 0 w) := by
  have hk1 := fxle hk0 h1
  have C1 := hid (fun (W : World) (H : RS W q b s k 0 0) => rnumber_any q b 0 s k 0 x1 k1 0 W H hk0 hs h1)
  have C2 := hid (fun (W : World) (H : RS W q b s k1 0 0) => rdata_ok q b 1073741824 s k1 x2 k2 W H hk1 hs h2 hM2 hL2 (by omega))
  have H0 := hid h
  have G0 := hid g
  have HC0 : Hid (Ch (fun i => i = b ∨ i = q ∨ i = G) w w) := hid (Ch.refl _ _)
  clear h g
  generalize wrap64 (x1 : Int) = V1 at *
  generalize s.extract k2 (k2 + x2) = V2 at *
  clear h1 h2
  go_enter Tryz.func72, Tryz.ntmps72
  go_wp2_with fail
  refine (C1.out w H0.out).mono ?_
  rintro e w1 ⟨rfl, h1, hc1⟩
  have g1 : w1.heap[G]? = _ := (hc1.block G (lt_of_heap G0.out) (fun h => h.elim hb hq)).trans G0.out
  have d1 : w1.cell? ⟨G, 4, none⟩ = some (.int .i64 0) := (cell_of g1).trans rfl
  have z1 := froz_of (i := 4) g1
  have G1 : Hid ((w1.setCell ⟨G, 4, none⟩ (.int .i64 V1)).heap[G]? = _) := hid (heap_set g1)
  have H1 := hid (rs_set (i := 4) (v := .int .i64 V1) h1 hq hb)
  have HC1 := hid ((HC0.out.trans (ch3 hc1)).setCell ⟨G, 4, none⟩ (.int .i64 V1) (fun _ => Or.inr (Or.inr rfl)))
  clear g1 h1 hc1 G0 H0 HC0 C1
  go_wp2_with fail
  refine (C2.out _ H1.out).mono ?_
  rintro e w2 ⟨rfl, h2, hc2⟩
  have g2 : w2.heap[G]? = _ := (hc2.block G (lt_of_heap G1.out) (fun h => h.elim hb hq)).trans G1.out
  have d2 : w2.cell? ⟨G, 5, none⟩ = some (.string ⟨#[]⟩) := (cell_of g2).trans rfl
  have z2 := froz_of (i := 5) g2
  have G2 : Hid ((w2.setCell ⟨G, 5, none⟩ (.string V2)).heap[G]? = _) := hid (heap_set g2)
  have H2 := hid (rs_set (i := 5) (v := .string V2) h2 hq hb)
  have HC2 := hid ((HC1.out.trans (ch3 hc2)).setCell ⟨G, 5, none⟩ (.string V2) (fun _ => Or.inr (Or.inr rfl)))
  clear g2 h2 hc2 G1 H1 HC1 C2
  go_wp2_with fail
  go_end0
  exact ⟨rfl, H2.out, G2.out, HC2.out⟩
set_option maxHeartbeats 1000000 in
set_option maxRecDepth 20000 in
theorem p8r_any (q b G : Nat) (s : ByteArray) (v : Int) (k e1 k1 x1 : Nat) (w : World) (h : RS w q b s k 0 0) (hk0 : k ≤ s.size) (hs : s.size ≤ 9223372036854775807) (g : w.heap[G]? = some (.cells #[.int .i64 v, .int .i64 0, .bool false, .int .i64 0, .int .i64 0, .string ⟨#[]⟩] 27 (0, 0))) (hq : G ≠ q) (hb : G ≠ b) (h1 : fx 8 s k 0 = (x1, k1, e1)) :
    Calls Tryz.prog 74 #[.pointer (some ⟨q, 0, none⟩), .pointer (some ⟨G, 0, none⟩)] w (RC q b G s #[.int .i64 v, .int .i64 0, .bool false, .int .i64 0, .int .i64 (wrap64 x1), .string ⟨#[]⟩] 27 k1 e1 0 w) := by
  have C1 := hid (fun (W : World) (H : RS W q b s k 0 0) => rnumber_any q b 0 s k 0 x1 k1 e1 W H hk0 hs h1)
  have H0 := hid h
  have G0 := hid g
  have HC0 : Hid (Ch (fun i => i = b ∨ i = q ∨ i = G) w w) := hid (Ch.refl _ _)
  clear h g
  generalize wrap64 (x1 : Int) = V1 at *
  clear h1
  go_enter Tryz.func74, Tryz.ntmps74
  go_wp2_with fail
  refine (C1.out w H0.out).mono ?_
  rintro e w1 ⟨rfl, h1, hc1⟩
  have g1 : w1.heap[G]? = _ := (hc1.block G (lt_of_heap G0.out) (fun h => h.elim hb hq)).trans G0.out
  have d1 : w1.cell? ⟨G, 4, none⟩ = some (.int .i64 0) := (cell_of g1).trans rfl
  have z1 := froz_of (i := 4) g1
  have G1 : Hid ((w1.setCell ⟨G, 4, none⟩ (.int .i64 V1)).heap[G]? = _) := hid (heap_set g1)
  have H1 := hid (rs_set (i := 4) (v := .int .i64 V1) h1 hq hb)
  have HC1 := hid ((HC0.out.trans (ch3 hc1)).setCell ⟨G, 4, none⟩ (.int .i64 V1) (fun _ => Or.inr (Or.inr rfl)))
  clear g1 h1 hc1 G0 H0 HC0 C1
  go_wp2_with fail
  go_end0
  exact ⟨rfl, H1.out, G1.out, HC1.out⟩
set_option maxHeartbeats 1000000 in
set_option maxRecDepth 20000 in
theorem p10r_any (q b G : Nat) (s : ByteArray) (v : Int) (k e1 e2 k1 k2 x1 x2 : Nat) (w : World) (h : RS w q b s k 0 0) (hk0 : k ≤ s.size) (hs : s.size ≤ 9223372036854775807) (g : w.heap[G]? = some (.cells #[.int .i64 v, .int .i64 0, .bool false, .int .i64 0, .int .i64 0, .string ⟨#[]⟩] 27 (0, 0))) (hq : G ≠ q) (hb : G ≠ b) (h1 : fx 8 s k 0 = (x1, k1, e1)) (h2 : fx 8 s k1 e1 = (x2, k2, e2)) :
    Calls Tryz.prog 76 #[.pointer (some ⟨q, 0, none⟩), .pointer (some ⟨G, 0, none⟩)] w (RC q b G s #[.int .i64 v, .int .i64 0, .bool false, .int .i64 (wrap64 x1), .int .i64 (wrap64 x2), .string ⟨#[]⟩] 27 k2 e2 0 w) := by
  have hk1 := fxle hk0 h1
  have C1 := hid (fun (W : World) (H : RS W q b s k 0 0) => rnumber_any q b 0 s k 0 x1 k1 e1 W H hk0 hs h1)
  have C2 := hid (fun (W : World) (H : RS W q b s k1 e1 0) => rnumber_any q b 0 s k1 e1 x2 k2 e2 W H hk1 hs h2)
  have H0 := hid h
  have G0 := hid g
  have HC0 : Hid (Ch (fun i => i = b ∨ i = q ∨ i = G) w w) := hid (Ch.refl _ _)
  clear h g
  generalize wrap64 (x1 : Int) = V1 at *
  generalize wrap64 (x2 : Int) = V2 at *
  clear h1 h2
  go_enter Tryz.func76, Tryz.ntmps76
  go_wp2_with fail
  refine (C1.out w H0.out).mono ?_
  rintro e w1 ⟨rfl, h1, hc1⟩
  have g1 : w1.heap[G]? = _ := (hc1.block G (lt_of_heap G0.out) (fun h => h.elim hb hq)).trans G0.out
  have d1 : w1.cell? ⟨G, 3, none⟩ = some (.int .i64 0) := (cell_of g1).trans rfl
  have z1 := froz_of (i := 3) g1
  have G1 : Hid ((w1.setCell ⟨G, 3, none⟩ (.int .i64 V1)).heap[G]? = _) := hid (heap_set g1)
  have H1 := hid (rs_set (i := 3) (v := .int .i64 V1) h1 hq hb)
  have HC1 := hid ((HC0.out.trans (ch3 hc1)).setCell ⟨G, 3, none⟩ (.int .i64 V1) (fun _ => Or.inr (Or.inr rfl)))
  clear g1 h1 hc1 G0 H0 HC0 C1
  go_wp2_with fail
  refine (C2.out _ H1.out).mono ?_
  rintro e w2 ⟨rfl, h2, hc2⟩
  have g2 : w2.heap[G]? = _ := (hc2.block G (lt_of_heap G1.out) (fun h => h.elim hb hq)).trans G1.out
  have d2 : w2.cell? ⟨G, 4, none⟩ = some (.int .i64 0) := (cell_of g2).trans rfl
  have z2 := froz_of (i := 4) g2
  have G2 : Hid ((w2.setCell ⟨G, 4, none⟩ (.int .i64 V2)).heap[G]? = _) := hid (heap_set g2)
  have H2 := hid (rs_set (i := 4) (v := .int .i64 V2) h2 hq hb)
  have HC2 := hid ((HC1.out.trans (ch3 hc2)).setCell ⟨G, 4, none⟩ (.int .i64 V2) (fun _ => Or.inr (Or.inr rfl)))
  clear g2 h2 hc2 G1 H1 HC1 C2
  go_wp2_with fail
  go_end0
  exact ⟨rfl, H2.out, G2.out, HC2.out⟩
end Go.Proofs.YtgdaaohlongmlaaGreat
