/- WireWrites' walk: any calls of both writers, one behind the other. -/
import Derived.Test.YtiknilkgjinkfaaWop
namespace Go.Proofs.Ytiknilkgjinkfaa
open Go.RowKit
/-- What the first call makes of nothing. -/
theorem first_any (os : List (Nat × Nat × ByteArray)) (hz : ∀ o ∈ os, o.1 < 256 ∧ o.2.1 < 18446744073709551616 ∧ o.2.2.size ≤ 1048576) :
    ∃ l1 : List Nat, l1.length ≤ 1048596 ∧ (0 < os.length → ∀ p q B w, WW p q B [] w → Calls Try.prog 7 #[.pointer (some ⟨p, 0, none⟩), .pointer (some ⟨q, 0, none⟩), .agg #[.int .u8 (os.getD 0 (0, 0, ByteArray.empty)).1, .int .u64 (os.getD 0 (0, 0, ByteArray.empty)).2.1, .string (os.getD 0 (0, 0, ByteArray.empty)).2.2]] w fun e w' => e = .returned (.bool true) ∧ WW p q B l1 w' ∧ Old p q B w w') := by
  by_cases h : 0 < os.length
  · obtain ⟨h1, h2, h3⟩ := hz _ (opq_mem h)
    obtain ⟨l', hl', hw⟩ := write_any _ _ _ [] h1 h2 (Nat.zero_le _) (Nat.le_trans h3 (by omega))
    exact ⟨l', by rw [List.length_nil] at hl'; omega, fun _ => hw⟩
  · exact ⟨[], by simp, fun h' => absurd h' h⟩
set_option maxHeartbeats 8000000 in
set_option maxRecDepth 20000 in
theorem writes_walk (a : Option Addr) (cap : Nat) (os : List (Nat × Nat × ByteArray)) (w : World) (hl : os.length ≤ 1048576) (hcap : os.length ≤ cap) (hz : ∀ o ∈ os, o.1 < 256 ∧ o.2.1 < 18446744073709551616 ∧ o.2.2.size ≤ 1048576) (V : Opq w a os) :
    Calls Try.prog 3 #[.slice a os.length cap] w fun e w' => e = .returned (.bool true) ∧ Below w.heap.size w w' := by
  obtain ⟨l1, hl1, hw1⟩ := first_any os hz
  have HV := hid V
  have HZ := hid hz
  have HF := hid hw1
  clear V hz hw1
  go_enter Try.func3, Try.ntmps3
  go_wp2_with fail
  refine (spells_any w).mono ?_
  rintro e w1 ⟨rfl, hb1⟩
  go_wp2_with fail
  refine (newwriter_any _).mono ?_
  rintro e w2 ⟨rfl, rfl⟩
  go_wp2_with fail
  refine (xnewwriter_any _).mono ?_
  rintro e w3 ⟨rfl, rfl⟩
  have hsz1 := hb1.size
  have HN := hid (ww_new w1)
  have HB0 := hid ((hb1.alloc hsz1 (.cells #[.int .i64 0, .slice none 0 0] 55)).alloc (by simp; omega) (.cells #[.string ⟨#[]⟩] 57))
  obtain ⟨H, hH⟩ : ∃ H, H = w1.heap.size := ⟨_, rfl⟩
  have HZ0 : Hid (H + 2 ≤ ((w1.alloc (.cells #[.int .i64 0, .slice none 0 0] 55)).alloc (.cells #[.string ⟨#[]⟩] 57)).heap.size) := by show _ ≤ _; simp; omega
  generalize (w1.alloc (.cells #[.int .i64 0, .slice none 0 0] 55)).alloc (.cells #[.string ⟨#[]⟩] 57) = w3 at *
  have hHw : w.heap.size ≤ H := by omega
  rw [← hH] at HN
  rw [show w1.heap.size = H from hH.symm]
  go_wp2_with fail
  rw [show w1.heap.size = H from hH.symm]
  clear hb1 hsz1 hH
  go_loopg [5, 14] os.length (fun k x1 i wr => ∃ (j : Nat) (l : List Nat) (F : ByteArray), j + k = os.length ∧ i = .int .i64 j ∧ x1 = .string F ∧ (j = 0 → l = []) ∧ (0 < j → F = bs l1) ∧ l.length ≤ j * 1048596 ∧ Hid (WW H (H + 1) (H + 2) l wr) ∧ Hid (Below w.heap.size w wr) ∧ Hid (H + 2 ≤ wr.heap.size))
  case atStart => exact ⟨0, [], _, by omega, rfl, rfl, fun _ => rfl, fun h => by omega, Nat.zero_le _, HN, HB0, HZ0⟩
  case round =>
    clear HN HB0 HZ0
    obtain ⟨j, l, F, hk, rfl, rfl, hl0, hF, hll, HWW, HB, HS⟩ := hrel
    by_cases hlt : j < os.length
    · obtain ⟨k, rfl⟩ : ∃ k, gk = k + 1 := ⟨gk - 1, by omega⟩
      rcases HV.out with rfl | ⟨b, off, rfl, hbl, hc⟩
      · simp at hlt
      obtain ⟨q0, q1, q2⟩ := hc j hlt
      have hK := HZ.out _ (opq_mem hlt)
      have hj : j * 1048596 ≤ 1048576 * 1048596 := Nat.mul_le_mul_right _ (by omega)
      obtain ⟨l', hl', hf', hw'⟩ : ∃ l' : List Nat, l'.length ≤ (j + 1) * 1048596 ∧ (j = 0 → l' = l1) ∧ ∀ p q B w, WW p q B l w → Calls Try.prog 7 #[.pointer (some ⟨p, 0, none⟩), .pointer (some ⟨q, 0, none⟩), .agg #[.int .u8 (os.getD j (0, 0, ByteArray.empty)).1, .int .u64 (os.getD j (0, 0, ByteArray.empty)).2.1, .string (os.getD j (0, 0, ByteArray.empty)).2.2]] w fun e w' => e = .returned (.bool true) ∧ WW p q B l' w' ∧ Old p q B w w' := by
        by_cases h0 : j = 0
        · subst h0
          obtain rfl := hl0 rfl
          exact ⟨l1, by rw [Nat.zero_add, Nat.one_mul]; exact hl1, fun _ => rfl, HF.out hlt⟩
        · obtain ⟨l', e1, e2⟩ := write_any _ _ _ l hK.1 hK.2.1 (by omega) (Nat.le_trans hK.2.2 (by omega))
          exact ⟨l', by have := hK.2.2; omega, fun h => absurd h h0, e2⟩
      clear hK
      generalize os.getD j (0, 0, ByteArray.empty) = o at *
      obtain ⟨Kd, N, S⟩ := o
      simp only at q0 q1 q2 hw'
      have k0 := (HB.out.cell (p := ⟨b, off + j * 3, none⟩) hbl).trans q0
      have k1 := (HB.out.cell (p := ⟨b, off + j * 3 + 1, none⟩) hbl).trans q1
      have k2 := (HB.out.cell (p := ⟨b, off + j * 3 + 2, none⟩) hbl).trans q2
      have hsz := HS.out
      have hsw := HB.out.size
      have CR := hid (hw' _ _ _ _ (HWW.out.alloc (.cells #[.int .u8 Kd, .int .u64 N, .string S] 30)))
      have HBA := hid (HB.out.alloc (by omega) (.cells #[.int .u8 Kd, .int .u64 N, .string S] 30))
      have HF' := hid hF
      have HL1 := hid hf'
      have HLL := hid hl'
      have HL := hid hl
      clear hc q0 q1 q2 hl0 hw' hf' hF hl' hll hj hl1 hl
      go_wp2_with fail
      refine CR.out.mono ?_
      rintro r w4 ⟨rfl, h4, o4⟩
      have HB4 := hid (HBA.out.trans (o4 w.heap.size (by omega) (by omega) (by omega) (by simp; omega)))
      have HS4 : Hid (H + 2 ≤ w4.heap.size) := by have := (o4 0 (by omega) (by omega) (by omega) (by omega)).size; simp at this; show _ ≤ _; omega
      have H4 := hid h4
      have C1 := hid (wbytes_any H (H + 2) l' w4 h4.a)
      have C2 := hid (xwbytes_any (H + 1) (bs l') w4 h4.x)
      have C3 := hid (wat_any H (H + 2) l' w4 h4.a)
      have c4 := xwat_any (H + 1) (bs l') w4 h4.x
      rw [bs_size] at c4
      have C4 := hid c4
      clear h4 o4 k0 k1 k2 HBA CR c4
      by_cases hj0 : j = 0
      · subst hj0
        obtain rfl := HL1.out rfl
        go_wp2_with (first
          | (go_at_call 8; refine C1.out.mono ?_; rintro r w5 ⟨rfl, rfl⟩)
          | (go_at_call 9; refine C2.out.mono ?_; rintro r w5 ⟨rfl, rfl⟩)
          | (go_at_call 10; refine C3.out.mono ?_; rintro r w5 ⟨rfl, rfl⟩)
          | (go_at_call 11; refine C4.out.mono ?_; rintro r w5 ⟨rfl, rfl⟩))
        go_roundg k
        case measure => omega
        case rel => exact ⟨1, l', _, by omega, by go_num, rfl, fun h => by omega, fun _ => rfl, HLL.out, H4, HB4, HS4⟩
      · have hj0' : ¬ (j : Int) = 0 := by omega
        go_wp2_with (first
          | (go_at_call 8; refine C1.out.mono ?_; rintro r w5 ⟨rfl, rfl⟩)
          | (go_at_call 9; refine C2.out.mono ?_; rintro r w5 ⟨rfl, rfl⟩)
          | (go_at_call 10; refine C3.out.mono ?_; rintro r w5 ⟨rfl, rfl⟩)
          | (go_at_call 11; refine C4.out.mono ?_; rintro r w5 ⟨rfl, rfl⟩))
        go_roundg k
        case measure => omega
        case rel =>
          have hl := HL.out
          exact ⟨j + 1, l', F, by omega, (by refine congrArg _ ?_; rw [Go.IntWalk.wrap64_in _ (by omega)]; omega), rfl, fun h => by omega, fun _ => HF'.out (by omega), HLL.out, H4, HB4, HS4⟩
    · rcases HV.out with h0 | ⟨b, off, rfl, hbl, hc⟩
      · subst h0
        go_wp2_with fail
        go_ret
        exact ⟨rfl, HB.out⟩
      · by_cases h0 : os.length = 0
        · go_wp2_with fail
          go_ret
          exact ⟨rfl, HB.out⟩
        · have h0' : 0 < os.length := by omega
          obtain rfl := hF (by omega)
          obtain ⟨q0, q1, q2⟩ := hc 0 h0'
          have hw1 := HF.out h0'
          generalize os.getD 0 (0, 0, ByteArray.empty) = o at *
          obtain ⟨Kd, N, S⟩ := o
          simp only at q0 q1 q2 hw1
          rw [Nat.zero_mul, Nat.add_zero] at q0 q1 q2
          have hsw := HB.out.size
          have CW := hid (written_any b off cap Kd N S l1 wr (by omega) ((HB.out.cell (p := ⟨b, off, none⟩) hbl).trans q0) ((HB.out.cell (p := ⟨b, off + 1, none⟩) hbl).trans q1) ((HB.out.cell (p := ⟨b, off + 2, none⟩) hbl).trans q2) hw1)
          clear q0 q1 q2 hw1
          have h0n : ¬ (os.length : Int) = 0 := by omega
          go_wp2_with fail
          refine CW.out.mono ?_
          rintro r w5 ⟨rfl, hb5⟩
          have HB5 := hid (HB.out.trans (hb5.mono hsw))
          clear hb5
          go_wp2_with fail
          go_ret
          exact ⟨rfl, HB5.out⟩
end Go.Proofs.Ytiknilkgjinkfaa
