/- Texts of the proof, put together: Bmv, Bmw. -/
import Derived.Test.YtajmcnlbkdfloabGreatMB5
import Derived.Test.YtajmcnlbkdfloabGreatMB7
import Derived.Deep.QuietTactic
import Derived.BigQuiet
namespace Go.Proofs.YtajmcnlbkdfloabGreat
open Go.RowKit
/-- The batch with another base offset. -/
def mvd (b : Bt) (base : Int) : Bt := ⟨base, b.pk, b.prod, b.seq, b.l, b.a, b.cap⟩
theorem smd_mvd (b : Bt) (base : Int) (n : Nat) : smd (fsB (mvd b base) n) = smd (fsB b n) := rfl
theorem smo_mvd (b : Bt) (base : Int) (T : ByteArray) : smo (fsB (mvd b base) T.size) T = smo (fsB b T.size) T := rfl
theorem frm_tail (b : Bt) (base : Int) (T : ByteArray) : (frm (fsB b T.size) T).extract 8 (frm (fsB b T.size) T).size = (frm (fsB (mvd b base) T.size) T).extract 8 (frm (fsB b T.size) T).size := by
  apply bl_inj
  rw [bl_ext, bl_ext]
  have e1 := bl_frm (fsB b T.size) T ⟨#[]⟩
  have e2 := bl_frm (fsB (mvd b base) T.size) T ⟨#[]⟩
  rw [app_emp] at e1 e2
  rw [e1, e2]
  unfold usm
  simp only [List.append_assoc]
  rw [List.drop_left' (nb_len _ _), List.drop_left' (nb_len _ _)]
  rfl
theorem frm_move (b : Bt) (base : Int) (T : ByteArray) (h0 : 0 ≤ base ∧ base < 4611686018427387904) : rbt (frm (fsB b T.size) T) base = frm (fsB (mvd b base) T.size) T := by
  have hr : rbe (frm (fsB b T.size) T) base = 0 := by
    unfold rbe
    rw [if_neg (by rw [frm_size]; omega), if_neg (by simpa using h0)]
  unfold rbt
  rw [if_pos hr, frm_tail b base T]
  apply bl_inj
  have e2 := bl_frm (fsB (mvd b base) T.size) T ⟨#[]⟩
  rw [app_emp] at e2
  rw [bl_app, bl_bs _ (nb_byte6 _ _), bl_ext, e2, frm_size]
  have hu : u64 base = base.toNat := by unfold u64; omega
  unfold usm
  simp only [List.append_assoc]
  have hx : (fsB (mvd b base) T.size).base = base := rfl
  rw [show ({ fsB (mvd b base) T.size with sum := smo (fsB (mvd b base) T.size) T } : Fs).base = base from rfl, hu, List.drop_left' (nb_len _ _)]
  congr 1
  refine List.take_of_length_le ?_
  simp only [List.length_append, nb_len, bl_len]
  have hz0 : (⟨#[]⟩ : ByteArray).size = 0 := rfl
  rw [smd_len, hz0]
  omega
end Go.Proofs.YtajmcnlbkdfloabGreat
namespace Go.Proofs.YtajmcnlbkdfloabGreat
open Go.RowKit
set_option maxHeartbeats 2000000 in
set_option maxRecDepth 20000 in
theorem moves_err (b0 : Int) (pk : Bool) (prod seq : Int) (l : List RI) (L : Nat) (a : Option Addr) (cap : Nat) (base : Int) (w : World) (V : Rcs w a l) (E : Nat) (hx : E ≠ 0) (CE : Hid (∀ w, Rcs w a l → Calls Tryz.prog 8 #[.agg #[.int .i64 b0, .bool pk, .int .i64 prod, .int .i32 seq, .slice a L cap]] w fun e w' => e = .returned (.tuple #[.string ⟨#[]⟩, .int .i64 E]) ∧ Below w.heap.size w w')) : Calls Tryz.prog 5 #[.agg #[.int .i64 b0, .bool pk, .int .i64 prod, .int .i32 seq, .slice a L cap], .int .i64 base] w fun e w' => e = .returned (.bool true) ∧ Below w.heap.size w w' := by
  have hx' : ¬ (E : Int) = 0 := by omega
  have CA := hid (fun w => awake6_any w)
  have N0 := Bx1.new w #[.int .i64 b0, .bool pk, .int .i64 prod, .int .i32 seq, .slice a L cap] 24
  go_enter Tryz.func5, Tryz.ntmps5
  go_wp2_with fail
  refine (CA.out _).mono ?_
  rintro e w1 ⟨rfl, b1⟩
  have N1 := N0.call b1
  have V1 := V.below N1.b
  obtain ⟨k0, k1, k2, k3, k4⟩ := cells5 N1.p
  clear b1 N0
  go_wp2_with fail
  refine (CE.out _ V1).mono ?_
  rintro e w2 ⟨rfl, b2⟩
  have N2 := N1.call b2
  clear b2 N1 k0 k1 k2 k3 k4 V1
  go_wp2_with fail
  go_ret
  exact ⟨rfl, N2.b⟩
set_option maxHeartbeats 2000000 in
set_option maxRecDepth 20000 in
theorem moves_out (b0 : Int) (pk : Bool) (prod seq : Int) (l : List RI) (L : Nat) (a : Option Addr) (cap : Nat) (base : Int) (w : World) (V : Rcs w a l) (S : ByteArray) (hb : ¬ (0 ≤ base ∧ base < 4611686018427387904)) (CE : Hid (∀ w, Rcs w a l → Calls Tryz.prog 8 #[.agg #[.int .i64 b0, .bool pk, .int .i64 prod, .int .i32 seq, .slice a L cap]] w fun e w' => e = .returned (.tuple #[.string S, .int .i64 0]) ∧ Below w.heap.size w w')) (CR : Hid (∀ w, Calls Tryz.prog 11 #[.string S, .int .i64 base] w fun e w' => e = .returned (.tuple #[.string ⟨#[]⟩, .int .i64 1]) ∧ Below w.heap.size w w')) : Calls Tryz.prog 5 #[.agg #[.int .i64 b0, .bool pk, .int .i64 prod, .int .i32 seq, .slice a L cap], .int .i64 base] w fun e w' => e = .returned (.bool true) ∧ Below w.heap.size w w' := by
  by_cases h1 : base < 0
  · clear hb
    have CA := hid (fun w => awake6_any w)
    have N0 := Bx1.new w #[.int .i64 b0, .bool pk, .int .i64 prod, .int .i32 seq, .slice a L cap] 24
    go_enter Tryz.func5, Tryz.ntmps5
    go_wp2_with fail
    refine (CA.out _).mono ?_
    rintro e w1 ⟨rfl, b1⟩
    have N1 := N0.call b1
    have V1 := V.below N1.b
    obtain ⟨k0, k1, k2, k3, k4⟩ := cells5 N1.p
    clear b1 N0
    go_wp2_with fail
    refine (CE.out _ V1).mono ?_
    rintro e w2 ⟨rfl, b2⟩
    have N2 := N1.call b2
    clear b2 N1 k0 k1 k2 k3 k4 V1
    go_wp2_with fail
    refine (CR.out _).mono ?_
    rintro e w3 ⟨rfl, b3⟩
    have N3 := N2.call b3
    clear b3 N2
    go_wp2_with fail
    go_ret
    exact ⟨rfl, N3.b⟩
  · have h2 : 4611686018427387904 ≤ base := by omega
    have h1' : 0 ≤ base := by omega
    clear hb h1
    have CA := hid (fun w => awake6_any w)
    have N0 := Bx1.new w #[.int .i64 b0, .bool pk, .int .i64 prod, .int .i32 seq, .slice a L cap] 24
    go_enter Tryz.func5, Tryz.ntmps5
    go_wp2_with fail
    refine (CA.out _).mono ?_
    rintro e w1 ⟨rfl, b1⟩
    have N1 := N0.call b1
    have V1 := V.below N1.b
    obtain ⟨k0, k1, k2, k3, k4⟩ := cells5 N1.p
    clear b1 N0
    go_wp2_with fail
    refine (CE.out _ V1).mono ?_
    rintro e w2 ⟨rfl, b2⟩
    have N2 := N1.call b2
    clear b2 N1 k0 k1 k2 k3 k4 V1
    go_wp2_with fail
    refine (CR.out _).mono ?_
    rintro e w3 ⟨rfl, b3⟩
    have N3 := N2.call b3
    clear b3 N2
    go_wp2_with fail
    go_ret
    exact ⟨rfl, N3.b⟩
set_option maxHeartbeats 2000000 in
set_option maxRecDepth 20000 in
theorem moves_in (b0 : Int) (pk : Bool) (prod seq : Int) (l : List RI) (L : Nat) (a : Option Addr) (cap : Nat) (base : Int) (w : World) (V : Rcs w a l) (S T U : ByteArray) (N : Nat) (F0 G : Int) (hL : L ≤ 65536) (hb1 : 0 ≤ base) (hb2 : base < 4611686018427387904) (hS : S.size = N) (hT : T.size = N) (hN : 51 ≤ N) (hN2 : N ≤ 16777216) (hSU : S.extract 8 N = U) (hTU : T.extract 8 N = U)
    (CE : Hid (∀ w, Rcs w a l → Calls Tryz.prog 8 #[.agg #[.int .i64 b0, .bool pk, .int .i64 prod, .int .i32 seq, .slice a L cap]] w fun e w' => e = .returned (.tuple #[.string S, .int .i64 0]) ∧ Below w.heap.size w w')) (CR : Hid (∀ w, Calls Tryz.prog 11 #[.string S, .int .i64 base] w fun e w' => e = .returned (.tuple #[.string T, .int .i64 0]) ∧ Below w.heap.size w w')) (CC : Hid (∀ w, Calls Tryz.prog 9 #[.string S, .int .i64 16777216, .int .i64 16777216] w fun e w' => e = .returned (.tuple #[.agg #[.int .i64 b0, .int .i64 N, .bool pk, .int .i64 L, .int .i64 F0, .int .i64 G, .int .i64 prod, .int .i32 seq], .int .i64 0]) ∧ Below w.heap.size w w')) :
    (4611686018427387904 < base + L → Hid (∀ w, Calls Tryz.prog 9 #[.string T, .int .i64 16777216, .int .i64 16777216] w fun e w' => e = .returned (.tuple #[.agg #[.int .i64 0, .int .i64 0, .bool false, .int .i64 0, .int .i64 0, .int .i64 0, .int .i64 0, .int .i32 0], .int .i64 28]) ∧ Below w.heap.size w w') → Calls Tryz.prog 5 #[.agg #[.int .i64 b0, .bool pk, .int .i64 prod, .int .i32 seq, .slice a L cap], .int .i64 base] w fun e w' => e = .returned (.bool true) ∧ Below w.heap.size w w') ∧
    (base + L ≤ 4611686018427387904 → Hid (∀ w, Calls Tryz.prog 9 #[.string T, .int .i64 16777216, .int .i64 16777216] w fun e w' => e = .returned (.tuple #[.agg #[.int .i64 base, .int .i64 N, .bool pk, .int .i64 L, .int .i64 F0, .int .i64 G, .int .i64 prod, .int .i32 seq], .int .i64 0]) ∧ Below w.heap.size w w') → Hid (∀ w, Calls Tryz.prog 11 #[.string T, .int .i64 b0] w fun e w' => e = .returned (.tuple #[.string S, .int .i64 0]) ∧ Below w.heap.size w w') → Calls Tryz.prog 5 #[.agg #[.int .i64 b0, .bool pk, .int .i64 prod, .int .i32 seq, .slice a L cap], .int .i64 base] w fun e w' => e = .returned (.bool true) ∧ Below w.heap.size w w') := by
  have d1 : (8 : Int) ≤ N := by omega
  have e1 : IntKind.i64.wrap (L : Int) = (L : Int) := wrap_in (by omega) (by omega)
  have e2 : IntKind.i64.wrap (base + (L : Int)) = base + (L : Int) := wrap_in (by omega) (by omega)
  refine ⟨fun ho CK => ?_, fun ho CK CB => ?_⟩
  · have CA := hid (fun w => awake6_any w)
    have N0 := Bx1.new w #[.int .i64 b0, .bool pk, .int .i64 prod, .int .i32 seq, .slice a L cap] 24
    go_enter Tryz.func5, Tryz.ntmps5
    go_wp2_with fail
    refine (CA.out _).mono ?_
    rintro e w1 ⟨rfl, b1⟩
    have N1 := N0.call b1
    have V1 := V.below N1.b
    obtain ⟨k0, k1, k2, k3, k4⟩ := cells5 N1.p
    clear b1 N0
    go_wp2_with fail
    refine (CE.out _ V1).mono ?_
    rintro e w2 ⟨rfl, b2⟩
    have N2 := N1.call b2
    clear b2 N1 k0 k1 k2 k3 k4 V1
    go_wp2_with fail
    refine (CR.out _).mono ?_
    rintro e w3 ⟨rfl, b3⟩
    have N3 := N2.call b3
    clear b3 N2
    go_wp2_with fail
    go_quiet ((fail))
    go_wp2_with fail
    refine (CC.out _).mono ?_
    rintro e w4 ⟨rfl, b4⟩
    have N4 := ((N3.drewN _).call b4).alloc (.cells #[.int .i64 b0, .int .i64 N, .bool pk, .int .i64 L, .int .i64 F0, .int .i64 G, .int .i64 prod, .int .i32 seq] 30)
    have H4 : (w4.alloc (.cells #[.int .i64 b0, .int .i64 N, .bool pk, .int .i64 L, .int .i64 F0, .int .i64 G, .int .i64 prod, .int .i32 seq] 30)).heap[w4.heap.size]? = some (.cells #[.int .i64 b0, .int .i64 N, .bool pk, .int .i64 L, .int .i64 F0, .int .i64 G, .int .i64 prod, .int .i32 seq] 30 (0, 0)) := heap_new _ _
    have hg := lt_of_heap ((N3.drewN _).call b4).p
    clear b4 N3
    go_wp2_with fail
    generalize w4.alloc (.cells #[.int .i64 b0, .int .i64 N, .bool pk, .int .i64 L, .int .i64 F0, .int .i64 G, .int .i64 prod, .int .i32 seq] 30) = W4 at *
    generalize w4.heap.size = g4 at *
    refine (CK.out _).mono ?_
    rintro e w5 ⟨rfl, b5⟩
    have N5 := N4.call b5
    have H5 := keep H4 b5
    have hg5 := lt_of_heap H5
    clear b5 N4 H4
    have N6 := N5.alloc (.cells #[.int .i64 0, .int .i64 0, .bool false, .int .i64 0, .int .i64 0, .int .i64 0, .int .i64 0, .int .i32 0] 30)
    obtain ⟨k0, k1, k2, k3, k4⟩ := cells5 N6.p
    go_wp2_with fail
    go_ret
    exact ⟨rfl, N6.b⟩
  · have CA := hid (fun w => awake6_any w)
    have N0 := Bx1.new w #[.int .i64 b0, .bool pk, .int .i64 prod, .int .i32 seq, .slice a L cap] 24
    go_enter Tryz.func5, Tryz.ntmps5
    go_wp2_with fail
    refine (CA.out _).mono ?_
    rintro e w1 ⟨rfl, b1⟩
    have N1 := N0.call b1
    have V1 := V.below N1.b
    obtain ⟨k0, k1, k2, k3, k4⟩ := cells5 N1.p
    clear b1 N0
    go_wp2_with fail
    refine (CE.out _ V1).mono ?_
    rintro e w2 ⟨rfl, b2⟩
    have N2 := N1.call b2
    clear b2 N1 k0 k1 k2 k3 k4 V1
    go_wp2_with fail
    refine (CR.out _).mono ?_
    rintro e w3 ⟨rfl, b3⟩
    have N3 := N2.call b3
    clear b3 N2
    go_wp2_with fail
    go_quiet ((fail))
    go_wp2_with fail
    refine (CC.out _).mono ?_
    rintro e w4 ⟨rfl, b4⟩
    have N4 := ((N3.drewN _).call b4).alloc (.cells #[.int .i64 b0, .int .i64 N, .bool pk, .int .i64 L, .int .i64 F0, .int .i64 G, .int .i64 prod, .int .i32 seq] 30)
    have H4 : (w4.alloc (.cells #[.int .i64 b0, .int .i64 N, .bool pk, .int .i64 L, .int .i64 F0, .int .i64 G, .int .i64 prod, .int .i32 seq] 30)).heap[w4.heap.size]? = some (.cells #[.int .i64 b0, .int .i64 N, .bool pk, .int .i64 L, .int .i64 F0, .int .i64 G, .int .i64 prod, .int .i32 seq] 30 (0, 0)) := heap_new _ _
    have hg := lt_of_heap ((N3.drewN _).call b4).p
    clear b4 N3
    go_wp2_with fail
    generalize w4.alloc (.cells #[.int .i64 b0, .int .i64 N, .bool pk, .int .i64 L, .int .i64 F0, .int .i64 G, .int .i64 prod, .int .i32 seq] 30) = W4 at *
    generalize w4.heap.size = g4 at *
    refine (CK.out _).mono ?_
    rintro e w5 ⟨rfl, b5⟩
    have N5 := N4.call b5
    have H5 := keep H4 b5
    have hg5 := lt_of_heap H5
    clear b5 N4 H4
    have N6 := N5.alloc (.cells #[.int .i64 base, .int .i64 N, .bool pk, .int .i64 L, .int .i64 F0, .int .i64 G, .int .i64 prod, .int .i32 seq] 30)
    have H6 := heap_alloc_at (o' := .cells #[.int .i64 base, .int .i64 N, .bool pk, .int .i64 L, .int .i64 F0, .int .i64 G, .int .i64 prod, .int .i32 seq] 30) H5
    obtain ⟨k0, k1, k2, k3, k4⟩ := cells5 N6.p
    obtain ⟨h0, h1, h2, h3, h4, h5, h6, h7⟩ := cells8 H6
    have z0 : (w5.alloc (.cells #[.int .i64 base, .int .i64 N, .bool pk, .int .i64 L, .int .i64 F0, .int .i64 G, .int .i64 prod, .int .i32 seq] 30)).frozen? ⟨g4, 0, none⟩ = false := froz_of H6
    have N7 : Bx1 w #[.int .i64 b0, .bool pk, .int .i64 prod, .int .i32 seq, .slice a L cap] 24 ((w5.alloc (.cells #[.int .i64 base, .int .i64 N, .bool pk, .int .i64 L, .int .i64 F0, .int .i64 G, .int .i64 prod, .int .i32 seq] 30)).setCell ⟨g4, 0, none⟩ (.int .i64 base)) := ⟨heap_set_far N6.p (by show w.heap.size ≠ g4; omega), N6.b.setCell (by show w.heap.size ≤ g4; omega) _⟩
    have H7 : ((w5.alloc (.cells #[.int .i64 base, .int .i64 N, .bool pk, .int .i64 L, .int .i64 F0, .int .i64 G, .int .i64 prod, .int .i32 seq] 30)).setCell ⟨g4, 0, none⟩ (.int .i64 base)).heap[g4]? = some (.cells #[.int .i64 base, .int .i64 N, .bool pk, .int .i64 L, .int .i64 F0, .int .i64 G, .int .i64 prod, .int .i32 seq] 30 (0, 0)) := heap_set H6
    have K7 : ((w5.alloc (.cells #[.int .i64 base, .int .i64 N, .bool pk, .int .i64 L, .int .i64 F0, .int .i64 G, .int .i64 prod, .int .i32 seq] 30)).setCell ⟨g4, 0, none⟩ (.int .i64 base)).heap[w5.heap.size]? = some (.cells #[.int .i64 base, .int .i64 N, .bool pk, .int .i64 L, .int .i64 F0, .int .i64 G, .int .i64 prod, .int .i32 seq] 30 (0, 0)) := heap_set_far (heap_new _ _) (by show w5.heap.size ≠ g4; omega)
    obtain ⟨W7, hW7⟩ : ∃ x, (w5.alloc (.cells #[.int .i64 base, .int .i64 N, .bool pk, .int .i64 L, .int .i64 F0, .int .i64 G, .int .i64 prod, .int .i32 seq] 30)).setCell ⟨g4, 0, none⟩ (.int .i64 base) = x := ⟨_, rfl⟩
    rw [hW7] at N7 H7 K7
    have q0 := (cells5 N7.p).1
    clear N6 H6 N5 H5
    go_wp2_with fail
    refine (CB.out _).mono ?_
    rintro e w8 ⟨rfl, b8⟩
    have N8 := N7.call b8
    obtain ⟨c0, c1, c2, c3, c4, c5, c6, c7⟩ := cells8 (keep H7 b8)
    obtain ⟨p0, p1, p2, p3, p4, p5, p6, p7⟩ := cells8 (keep K7 b8)
    have EH := fun w => eql_head base N pk L F0 G prod seq w
    clear b8 N7 H7 K7 h0 h1 h2 h3 h4 h5 h6 h7 k0 k1 k2 k3 k4 z0 q0 hW7
    go_wp2_with fail
    go_ret
    exact ⟨rfl, N8.b⟩
end Go.Proofs.YtajmcnlbkdfloabGreat
