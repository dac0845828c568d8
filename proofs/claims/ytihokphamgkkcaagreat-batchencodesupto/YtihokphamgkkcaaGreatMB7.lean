/- Texts of the proof, put together: Bak6. -/
import Derived.Test.YtihokphamgkkcaaGreatMB6
namespace Go.Proofs.YtihokphamgkkcaaGreat
open Go.RowKit
theorem s5_12 : (s5[12]'(by rw [s5_size]; omega)).toNat = 71 := by decide +kernel
theorem s5_51 : (s5.extract 51 58).toList = [6, 0, 0, 0, 1, 1, 0] := by rw [s5_body, ByteArray.toList_eq]; rfl
theorem chk5 (w : World) : Calls Tryz.prog 14 #[.string (s5 ++ ⟨#[109, 111, 114, 101]⟩), .int .i64 58, .int .i64 7] w fun e w' => e = .returned (.tuple #[.agg #[.int .i64 3, .int .i64 58, .bool false, .int .i64 1, .int .i64 5, .int .i64 5, .int .i64 (-1), .int .i32 (-1)], .int .i64 0]) ∧ Below w.heap.size w w' := by
  have h := check6_any (s5 ++ ⟨#[109, 111, 114, 101]⟩) 58 7 w (by rw [ByteArray.size_append, s5_size]; decide)
  rw [opn5] at h
  exact h
theorem chk5c (w : World) : Calls Tryz.prog 14 #[.string (s5.extract 0 57), .int .i64 58, .int .i64 7] w fun e w' => e = .returned (.tuple #[noHd, .int .i64 20]) ∧ Below w.heap.size w w' := by
  have h := check6_any (s5.extract 0 57) 58 7 w (by rw [ByteArray.size_extract, s5_size]; decide)
  rw [opn5c] at h
  exact h
theorem dec5 (w : World) : Calls Tryz.prog 16 #[.string s5, .int .i64 58, .int .i64 7] w fun e w' => ∃ x a cap, e = .returned (.tuple #[.agg #[.int .i64 3, .bool false, .int .i64 (-1), .int .i32 (-1), .slice a 1 cap], .int .i64 58, .int .i64 0]) ∧ Rcs w' a [x] ∧ x.r = rec5.r ∧ Below w.heap.size w w' := by
  have h := decode_any s5 58 7 w (by rw [s5_size]; decide)
  rw [dcd5] at h
  refine h.mono ?_
  rintro e w' ⟨hb, v, l, rfl, hH, hl⟩
  obtain ⟨a, cap, rfl, hV⟩ := hH.slice
  cases l with
  | nil => cases hl
  | cons x m =>
    injection hl with h1 h2
    have : m = [] := List.map_eq_nil_iff.1 h2
    subst this
    exact ⟨x, a, cap, rfl, hV, h1, hb⟩
/-- The head's box, the batch's box, its records. -/
structure A6 (w : World) (g3 g4 : Nat) (da : Option Addr) (dcap : Nat) (x : RI) (y : World) : Prop where
  b : Below w.heap.size w y
  h : y.heap[g3]? = some (.cells #[.int .i64 3, .int .i64 58, .bool false, .int .i64 1, .int .i64 5, .int .i64 5, .int .i64 (-1), .int .i32 (-1)] 35 (0, 0))
  k : y.heap[g4]? = some (.cells #[.int .i64 3, .bool false, .int .i64 (-1), .int .i32 (-1), .slice da 1 dcap] 24 (0, 0))
  v : Rcs y da [x]
theorem A6.call {w : World} {g3 g4 : Nat} {da : Option Addr} {dcap : Nat} {x : RI} {y y' : World} (h : A6 w g3 g4 da dcap x y) (k : Below y.heap.size y y') : A6 w g3 g4 da dcap x y' := ⟨h.b.trans (k.mono h.b.size), keep h.h k, keep h.k k, h.v.below k⟩
theorem A6.drew {w : World} {g3 g4 : Nat} {da : Option Addr} {dcap : Nat} {x : RI} {y : World} (h : A6 w g3 g4 da dcap x y) : A6 w g3 g4 da dcap x y.drew := h.call ⟨rfl, rfl, rfl, Nat.le_refl _, fun _ _ => rfl⟩
theorem A6.all {w : World} {g3 g4 : Nat} {da : Option Addr} {dcap : Nat} {x : RI} {y : World} (h : A6 w g3 g4 da dcap x y) : y.cell? ⟨g3, 0, none⟩ = some (.int .i64 3) ∧ y.cell? ⟨g3, 1, none⟩ = some (.int .i64 58) ∧ y.cell? ⟨g3, 2, none⟩ = some (.bool false) ∧ y.cell? ⟨g3, 3, none⟩ = some (.int .i64 1) ∧ y.cell? ⟨g3, 4, none⟩ = some (.int .i64 5) ∧ y.cell? ⟨g3, 5, none⟩ = some (.int .i64 5) ∧ y.cell? ⟨g3, 6, none⟩ = some (.int .i64 (-1)) ∧ y.cell? ⟨g3, 7, none⟩ = some (.int .i32 (-1)) ∧ y.cell? ⟨g4, 0, none⟩ = some (.int .i64 3) ∧ y.cell? ⟨g4, 1, none⟩ = some (.bool false) ∧ y.cell? ⟨g4, 2, none⟩ = some (.int .i64 (-1)) ∧ y.cell? ⟨g4, 3, none⟩ = some (.int .i32 (-1)) ∧ y.cell? ⟨g4, 4, none⟩ = some (.slice da 1 dcap) := by
  obtain ⟨a0, a1, a2, a3, a4, a5, a6, a7⟩ := cells8 h.h
  obtain ⟨c0, c1, c2, c3, c4⟩ := cells5 h.k
  exact ⟨a0, a1, a2, a3, a4, a5, a6, a7, c0, c1, c2, c3, c4⟩
theorem Tryz.headStruct : Tryz.prog.underlying 35 = some (.struct (Tryz.prog.fieldsOf 35)) := by kernel_rfl
theorem Tryz.headHeld : Tryz.prog.stoodInHeld 35 = false := by kernel_rfl
set_option maxRecDepth 20000 in
theorem eql_head (b0 b1 : Int) (b2 : Bool) (b3 b4 b5 b6 b7 : Int) (w : World) : (binOp .eql 35 (.agg #[.int .i64 b0, .int .i64 b1, .bool b2, .int .i64 b3, .int .i64 b4, .int .i64 b5, .int .i64 b6, .int .i32 b7]) (.agg #[.int .i64 b0, .int .i64 b1, .bool b2, .int .i64 b3, .int .i64 b4, .int .i64 b5, .int .i64 b6, .int .i32 b7])).run Tryz.prog w = .ok (.bool true) w := by
  rw [run_eql_struct, run_equalIn_agg w 9999 _ _ _ Tryz.headStruct Tryz.headHeld]
  have hf : (Tryz.prog.fieldsOf 35) = (match Tryz.prog.underlying 35 with | some (.struct fs) => fs | _ => #[]) := rfl
  rw [hf, Tryz.underlying35]
  simp [go_sem, Op.eqFields, Tryz.underlying4, Tryz.underlying3, Tryz.underlying2, Tryz.underlying21]
set_option maxHeartbeats 2000000 in
set_option maxRecDepth 20000 in
theorem awake6_any (w : World) : Calls Tryz.prog 8 #[] w fun e w' => e = .returned (.bool true) ∧ Below w.heap.size w w' := by
  have CS := hid (fun w => sample_any w)
  have CE := hid (fun a cap w V => encode_any (bt5 a cap) w V (bt5_ok a cap).t (bt5_ok a cap).m (by show 1 ≤ _; omega))
  go_enter Tryz.func8, Tryz.ntmps8
  go_wp2_with fail
  refine (CS.out _).mono ?_
  rintro e w1 ⟨a, cap, rfl, V1, b1⟩
  go_wp2_with fail
  refine (CE.out a cap _ V1).mono ?_
  rintro e w2 ⟨⟨E, S, rfl, hE⟩, b2⟩
  obtain ⟨rfl, -, hS⟩ := enc5 hE
  have hS5 : S = s5 := by rw [hS, fsB5]; rfl
  clear hS hE
  subst hS5
  have HB2 := hid (b1.trans (b2.mono b1.size))
  clear b1 b2 V1 CE
  have z := s5_size
  have z' : (s5.size : Int) = 58 := by rw [z]; rfl
  have z12 := s5_12
  have z51 := s5_51
  have CC := hid (fun w => chk5 w)
  have CD := hid (fun w => dec5 w)
  have CK := hid (fun w => chk5c w)
  unfold noHd at CK
  go_wp2_with fail
  refine (CC.out _).mono ?_
  rintro e w3 ⟨rfl, b3⟩
  have B3 := (HB2.out.trans (b3.mono HB2.out.size)).alloc (HB2.out.trans (b3.mono HB2.out.size)).size (.cells #[.int .i64 3, .int .i64 58, .bool false, .int .i64 1, .int .i64 5, .int .i64 5, .int .i64 (-1), .int .i32 (-1)] 35)
  have H3 : (w3.alloc (.cells #[.int .i64 3, .int .i64 58, .bool false, .int .i64 1, .int .i64 5, .int .i64 5, .int .i64 (-1), .int .i32 (-1)] 35)).heap[w3.heap.size]? = some (.cells #[.int .i64 3, .int .i64 58, .bool false, .int .i64 1, .int .i64 5, .int .i64 5, .int .i64 (-1), .int .i32 (-1)] 35 (0, 0)) := heap_new _ _
  clear b3
  go_wp2_with fail
  generalize w3.alloc (.cells #[.int .i64 3, .int .i64 58, .bool false, .int .i64 1, .int .i64 5, .int .i64 5, .int .i64 (-1), .int .i32 (-1)] 35) = W3 at *
  refine (CD.out _).mono ?_
  rintro e w4 ⟨x, da, dcap, rfl, V4, hx, b4⟩
  have B4 := (B3.trans (b4.mono B3.size)).alloc (B3.trans (b4.mono B3.size)).size (.cells #[.int .i64 3, .bool false, .int .i64 (-1), .int .i32 (-1), .slice da 1 dcap] 24)
  have H4 := heap_alloc_at (o' := .cells #[.int .i64 3, .bool false, .int .i64 (-1), .int .i32 (-1), .slice da 1 dcap] 24) (keep H3 b4)
  have K4 : (w4.alloc (.cells #[.int .i64 3, .bool false, .int .i64 (-1), .int .i32 (-1), .slice da 1 dcap] 24)).heap[w4.heap.size]? = some (.cells #[.int .i64 3, .bool false, .int .i64 (-1), .int .i32 (-1), .slice da 1 dcap] 24 (0, 0)) := heap_new _ _
  have V4' := V4.below ((Below.refl w4.heap.size w4).alloc (Nat.le_refl _) (.cells #[.int .i64 3, .bool false, .int .i64 (-1), .int .i32 (-1), .slice da 1 dcap] 24))
  clear b4 V4 B3 H3
  go_wp2_with fail
  generalize w4.alloc (.cells #[.int .i64 3, .bool false, .int .i64 (-1), .int .i32 (-1), .slice da 1 dcap] 24) = W4 at *
  refine (CK.out _).mono ?_
  rintro e w5 ⟨rfl, b5⟩
  have B5 := B4.trans (b5.mono B4.size)
  have H5 := keep H4 b5
  have K5 := keep K4 b5
  have V5 := V4'.below b5
  clear b5 B4 H4 K4 V4'
  have N5 : A6 w w3.heap.size w4.heap.size da dcap x w5 := ⟨B5, H5, K5, V5⟩
  have N6 := N5.call ((Below.refl w5.heap.size w5).alloc (Nat.le_refl _) (.cells #[.int .i64 0, .int .i64 0, .bool false, .int .i64 0, .int .i64 0, .int .i64 0, .int .i64 0, .int .i32 0] 35))
  clear B5 H5 K5 V5 N5
  have CS6 : Hid (∀ y, A6 w w3.heap.size w4.heap.size da dcap x y → Calls Tryz.prog 23 #[] y fun e w' => ∃ a cap, e = .returned (btV (bt5 a cap)) ∧ Rcs w' a [rec5] ∧ A6 w w3.heap.size w4.heap.size da dcap x w') := fun y hy => (CS.out y).mono fun e w' h => by
    obtain ⟨a, cap, h1, h2, h3⟩ := h
    exact ⟨a, cap, h1, h2, hy.call h3⟩
  have CM6 : Hid (∀ y a6 c6, A6 w w3.heap.size w4.heap.size da dcap x y → Rcs y a6 [rec5] → Calls Tryz.prog 20 #[.agg #[.int .i64 3, .bool false, .int .i64 (-1), .int .i32 (-1), .slice da 1 dcap], btV (bt5 a6 c6)] y fun e w' => e = .returned (.bool true) ∧ A6 w w3.heap.size w4.heap.size da dcap x w') := fun y a6 c6 hy hv =>
    (sayB_yes ⟨3, false, -1, -1, [x], da, dcap⟩ (bt5 a6 c6) y hy.v hv ⟨rfl, rfl, rfl, rfl, by show [cln x.r] = [cln rec5.r]; rw [hx]⟩ (by show 1 ≤ _; omega) (by intro z hz; rw [List.mem_singleton.1 hz, hx]; decide)).mono fun e w' h => ⟨h.1, hy.call h.2⟩
  have CB6 : Hid (∀ y, A6 w w3.heap.size w4.heap.size da dcap x y → Calls Tryz.prog 24 #[.agg #[.int .i64 3, .int .i64 58, .bool false, .int .i64 1, .int .i64 5, .int .i64 5, .int .i64 (-1), .int .i32 (-1)]] y fun e w' => e = .returned (.int .i64 4) ∧ A6 w w3.heap.size w4.heap.size da dcap x w') := fun y hy => (behind_any h5 y h5_right).mono fun e w' h => ⟨h.1, hy.call h.2⟩
  have EH := fun w => eql_head 3 58 false 1 5 5 (-1) (-1) w
  clear CS CC CD CK z z' z12 z51
  go_wp2_with fail
  generalize w5.alloc (.cells #[.int .i64 0, .int .i64 0, .bool false, .int .i64 0, .int .i64 0, .int .i64 0, .int .i64 0, .int .i32 0] 35) = W6 at *
  generalize w3.heap.size = g3 at *
  generalize w4.heap.size = g4 at *
  go_region_held3 (fun y => y.cell? ⟨g3, 0, none⟩ = some (.int .i64 3) ∧ y.cell? ⟨g3, 1, none⟩ = some (.int .i64 58) ∧ y.cell? ⟨g3, 2, none⟩ = some (.bool false) ∧ y.cell? ⟨g3, 3, none⟩ = some (.int .i64 1) ∧ y.cell? ⟨g3, 4, none⟩ = some (.int .i64 5) ∧ y.cell? ⟨g3, 5, none⟩ = some (.int .i64 5) ∧ y.cell? ⟨g3, 6, none⟩ = some (.int .i64 (-1)) ∧ y.cell? ⟨g3, 7, none⟩ = some (.int .i32 (-1)) ∧ y.cell? ⟨g4, 0, none⟩ = some (.int .i64 3) ∧ y.cell? ⟨g4, 1, none⟩ = some (.bool false) ∧ y.cell? ⟨g4, 2, none⟩ = some (.int .i64 (-1)) ∧ y.cell? ⟨g4, 3, none⟩ = some (.int .i32 (-1)) ∧ y.cell? ⟨g4, 4, none⟩ = some (.slice da 1 dcap)) (first | with_reducible exact N6.all | with_reducible exact N6.drew.all | with_reducible exact A6.all (by assumption)) (first | (go_at_call 23; with_reducible refine (CS6.out _ ?_).mono ?_; (first | exact N6.drew | exact N6); rintro e w7 ⟨a6, c6, rfl, V7, N7⟩) | (go_at_call 20; with_reducible refine (CM6.out _ a6 c6 ?_ ?_).mono ?_; (first | exact N7 | exact N7.drew); (exact V7); rintro e w8 ⟨rfl, N8⟩) | (go_at_call 24; with_reducible refine (CB6.out _ ?_).mono ?_; (first | exact N8 | exact N8.drew); rintro e w9 ⟨rfl, N9⟩))
  go_wp2_with fail
  go_ret
  exact ⟨rfl, N9.b⟩
end Go.Proofs.YtihokphamgkkcaaGreat
