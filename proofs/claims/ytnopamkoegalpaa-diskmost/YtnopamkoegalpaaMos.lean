/- DiskMost: the walk. -/
import Derived.Test.YtnopamkoegalpaaMosL
namespace Go.Proofs.Ytnopamkoegalpaa
open Go.RowKit
set_option maxHeartbeats 8000000 in
set_option maxRecDepth 20000 in
theorem most_walk (w : World) :
    Calls Try.prog 5 #[] w fun e w' => e = .returned (.bool true) ∧ Below w.heap.size w w' := by
  have HFX := hid (fixed_any w)
  go_enter Try.func5, Try.ntmps5
  go_wp2_with (first | (go_at_call 9; refine HFX.out.mono ?_; rintro e w1 ⟨rfl, hb1⟩; have HB1 := hid hb1; clear hb1) | (go_at_call 10; refine (o_new w _ w.heap.size _ HB1.out HB1.out.size).mono ?_; rintro e w2 ⟨d, rfl, h2⟩; have H2 := hid h2; clear h2; have hcv : (convert 36 36 (.slice (some ⟨w2.heap.size, 0, none⟩) 4 4)).run Try.prog (w2.alloc (.cells #[.int .u8 48, .int .u8 48, .int .u8 48, .int .u8 48] 5)) = .ok (.slice (some ⟨w2.heap.size, 0, none⟩) 4 4) (w2.alloc (.cells #[.int .u8 48, .int .u8 48, .int .u8 48, .int .u8 48] 5 (4, 5))) := Lib.run_convert_bytes_const w2 36 5 _ 4 4 Try.underBytes Try.under5))
  clear hcv HFX
  obtain ⟨ft0, hds0, hft0, hsz0, hbl0⟩ := H2.out
  have hbb : ¬ ft0 w2.heap.size := fun h => by have := hds0.lt h; omega
  have hrel0 : Hid (MR w (w2.alloc (.cells #[.int .u8 48, .int .u8 48, .int .u8 48, .int .u8 48] 5 (4, 5))) d w2.heap.size 0) :=
    ⟨[], ft0, _, _, _, _, hds0.alloc _, hbb, hft0, hbl0.alloc hsz0 _, by simp, hsz0, heap_new _ _, by simp, by simp⟩
  clear hds0 hft0 hsz0 hbl0 hbb
  generalize w2.alloc (.cells #[.int .u8 48, .int .u8 48, .int .u8 48, .int .u8 48] 5 (4, 5)) = w3 at *
  generalize w2.heap.size = bb at *
  clear H2 HB1
  go_loopg [3] 65536 (fun k i wr => ∃ (j : Nat), j + k = 65536 ∧ i = .int .i64 j ∧ Hid (MR w wr d bb j))
  case atStart => exact ⟨0, by omega, rfl, hrel0⟩
  case round =>
    clear hrel0
    obtain ⟨j, hk, rfl, HM⟩ := hrel
    by_cases hlt : j < 65536
    · obtain ⟨k, rfl⟩ : ∃ k, gk = k + 1 := ⟨gk - 1, by omega⟩
      obtain ⟨V, ft, c0, c1, c2, c3, hds, hbb, hft, hbl, hsz, hbw, hrow, hlen, hnm⟩ := HM.out
      have q0 : wr.cell? ⟨bb, 0, none⟩ = some c0 := (cell_of hrow).trans rfl
      have q1 : wr.cell? ⟨bb, 1, none⟩ = some c1 := (cell_of hrow).trans rfl
      have q2 : wr.cell? ⟨bb, 2, none⟩ = some c2 := (cell_of hrow).trans rfl
      have q3 : wr.cell? ⟨bb, 3, none⟩ = some c3 := (cell_of hrow).trans rfl
      have f0 : wr.frozen? ⟨bb, 0, none⟩ = false := by simp [World.frozen?, hrow]
      have f1 : wr.frozen? ⟨bb, 1, none⟩ = false := by simp [World.frozen?, hrow]
      have f2 : wr.frozen? ⟨bb, 2, none⟩ = false := by simp [World.frozen?, hrow]
      have f3 : wr.frozen? ⟨bb, 3, none⟩ = false := by simp [World.frozen?, hrow]
      have hltD : decide ((j : Int) < 65536) = true := by simp; omega
      obtain ⟨X0, hX0⟩ : ∃ X0 : Nat, 97 + j % 16 = X0 := ⟨_, rfl⟩
      obtain ⟨Q1, hQ1⟩ : ∃ Q1 : Nat, j / 16 = Q1 := ⟨_, rfl⟩
      obtain ⟨R1, hR1⟩ : ∃ R1 : Nat, Q1 % 16 = R1 := ⟨_, rfl⟩
      obtain ⟨X1, hX1⟩ : ∃ X1 : Nat, 97 + R1 = X1 := ⟨_, rfl⟩
      obtain ⟨Q2, hQ2⟩ : ∃ Q2 : Nat, j / 256 = Q2 := ⟨_, rfl⟩
      obtain ⟨R2, hR2⟩ : ∃ R2 : Nat, Q2 % 16 = R2 := ⟨_, rfl⟩
      obtain ⟨X2, hX2⟩ : ∃ X2 : Nat, 97 + R2 = X2 := ⟨_, rfl⟩
      obtain ⟨Q3, hQ3⟩ : ∃ Q3 : Nat, j / 4096 = Q3 := ⟨_, rfl⟩
      obtain ⟨X3, hX3⟩ : ∃ X3 : Nat, 97 + Q3 = X3 := ⟨_, rfl⟩
      have hnk : nmk j = ⟨#[UInt8.ofNat X0, UInt8.ofNat X1, UInt8.ofNat X2, UInt8.ofNat X3]⟩ := by unfold nmk; rw [hX0, hQ1, hR1, hX1, hQ2, hR2, hX2, hQ3, hX3]
      have y0 := (yx0 hX0).1
      have y1 := yq16 hlt hQ1
      have y1b := yr16 hR1
      have z1 := yx (ylt hR1) hX1
      have y2 := yq256 hlt hQ2
      have y2b := yr16 hR2
      have z2 := yx (ylt hR2) hX2
      have y3 := yq4096 hlt hQ3
      have z3 := yx (ylt2 hlt hQ3) hX3
      have hb4 : X0 < 256 ∧ X1 < 256 ∧ X2 < 256 ∧ X3 < 256 := ⟨(yx0 hX0).2, z1.2.2, z2.2.2, z3.2.2⟩
      have y1c := z1.1
      have y1d := z1.2.1
      have y2c := z2.1
      have y2d := z2.2.1
      have y3c := z3.1
      have y3d := z3.2.1
      clear z1 z2 z3 hX0 hQ1 hR1 hX1 hQ2 hR2 hX2 hQ3 hX3
      obtain ⟨ww, hww⟩ : ∃ ww, ww = (((wr.setCell ⟨bb, 0, none⟩ (.int .u8 X0)).setCell ⟨bb, 1, none⟩ (.int .u8 X1)).setCell ⟨bb, 2, none⟩ (.int .u8 X2)).setCell ⟨bb, 3, none⟩ (.int .u8 X3) := ⟨_, rfl⟩
      have hrow4 : ww.heap[bb]? = some (.cells #[.int .u8 X0, .int .u8 X1, .int .u8 X2, .int .u8 X3] 5 (4, 5)) := by rw [hww]; exact heap_set (heap_set (heap_set (heap_set hrow)))
      have hcw : Ch (fun i => i = bb) wr ww := by rw [hww]; exact ((((Ch.refl (fun i => i = bb) wr).setCell _ _ (fun _ => rfl)).setCell _ _ (fun _ => rfl)).setCell _ _ (fun _ => rfl)).setCell _ _ (fun _ => rfl)
      have hcv : (convert 36 9 (.slice (some ⟨bb, 0, none⟩) 4 4)).run Try.prog ww = .ok (.string (nmk j)) ww := by rw [hnk]; exact conv4 hrow4 hb4
      have ewj : wrap64 ((j : Int) + 1) = ((j + 1 : Nat) : Int) := by clear y0 y1 y1b y2 y2b y3 y1c y1d y2c y2d y3c y3d; unfold wrap64; omega
      have HY0 := hid y0
      have HY := hid (And.intro y1 (And.intro y1b (And.intro y2 (And.intro y2b (And.intro y3 (And.intro y1c (And.intro y1d (And.intro y2c (And.intro y2d (And.intro y3c y3d))))))))))
      clear y0 y1 y1b y2 y2b y3 y1c y1d y2c y2d y3c y3d
      have HCR : Hid (Calls Try.prog 16 #[.pointer (some ⟨d, 0, none⟩), .string (nmk j)] ww fun e w' => e = .returned (.int .i64 0) ∧ MR w w' d bb (j + 1)) := mr_make hlt hds hbb hft hbl hsz hbw hlen hnm hcw hrow4
      have EWJ := hid ewj
      have HK := hid hk
      rw [hww] at hcv HCR
      clear hds hrow hft hbl hsz hbw hnm hlen hlt hk hnk hb4 hrow4 hcw hww ewj
      generalize nmk j = nm at *
      have y0 := HY0.out
      obtain ⟨y1, y1b, y2, y2b, y3, y1c, y1d, y2c, y2d, y3c, y3d⟩ := HY.out
      go_wp2_with (first | (go_at_call 16; refine HCR.out.mono ?_; rintro e w4 ⟨rfl, hm4⟩; have HM4 := hid hm4; clear hm4))
      go_roundg k
      case measure => clear y0 y1 y1b y2 y2b y3 y1c y1d y2c y2d y3c y3d; omega
      case rel => clear y0 y1 y1b y2 y2b y3 y1c y1d y2c y2d y3c y3d; exact ⟨j + 1, by have := HK.out; omega, by first | exact congrArg (Value.int .i64) EWJ.out | rfl, HM4⟩
    · have hltD : decide ((j : Int) < 65536) = false := by simp; omega
      have hj : j = 65536 := by omega
      subst hj
      have HC1 : Hid (∀ w', MR w w' d bb 65536 → Calls Try.prog 16 #[.pointer (some ⟨d, 0, none⟩), .string ⟨#[109, 111, 114, 101]⟩] w' fun e w'' => e = .returned (.int .i64 5) ∧ MR w w'' d bb 65536) := fun w' h => mr_more h
      have HC2 : Hid (∀ w', MR w w' d bb 65536 → Calls Try.prog 16 #[.pointer (some ⟨d, 0, none⟩), .string ⟨#[97, 97, 97, 97]⟩] w' fun e w'' => e = .returned (.int .i64 3) ∧ MR w w'' d bb 65536) := fun w' h => mr_aaaa h
      have HC3 : Hid (∀ w', MR w w' d bb 65536 → Calls Try.prog 16 #[.pointer (some ⟨d, 0, none⟩), .string ⟨#[]⟩] w' fun e w'' => e = .returned (.int .i64 3) ∧ MR w w'' d bb 65536) := fun w' h => mr_empty h
      have HC4 : Hid (∀ w', MR w w' d bb 65536 → Calls Try.prog 17 #[.pointer (some ⟨d, 0, none⟩)] w' fun e w'' => (∃ a c, e = .returned (.slice a 65536 c)) ∧ MR w w'' d bb 65536) := fun w' h => mr_list h
      go_wp2_with (first | (go_at_call 16; with_reducible refine (HC1.out _ HM.out).mono ?_; rintro e w4 ⟨rfl, h4⟩; have H4 := hid h4; clear h4) | (go_at_call 16; with_reducible refine (HC2.out _ H4.out).mono ?_; rintro e w5 ⟨rfl, h5⟩; have H5 := hid h5; clear h5) | (go_at_call 16; with_reducible refine (HC3.out _ H5.out).mono ?_; rintro e w6 ⟨rfl, h6⟩; have H6 := hid h6; clear h6) | (go_at_call 17; with_reducible refine (HC4.out _ H6.out).mono ?_; rintro e w7 ⟨⟨a7, c7, rfl⟩, h7⟩; have H7 := hid h7; obtain ⟨c0, c1, c2, c3, hrow⟩ := h7.row; have q0 : w7.cell? ⟨bb, 0, none⟩ = some c0 := (cell_of hrow).trans rfl; have q1 : w7.cell? ⟨bb, 1, none⟩ = some c1 := (cell_of hrow).trans rfl; have q2 : w7.cell? ⟨bb, 2, none⟩ = some c2 := (cell_of hrow).trans rfl; have q3 : w7.cell? ⟨bb, 3, none⟩ = some c3 := (cell_of hrow).trans rfl; have f0 : w7.frozen? ⟨bb, 0, none⟩ = false := (by simp [World.frozen?, hrow]); have f1 : w7.frozen? ⟨bb, 1, none⟩ = false := (by simp [World.frozen?, hrow]); have f2 : w7.frozen? ⟨bb, 2, none⟩ = false := (by simp [World.frozen?, hrow]); have f3 : w7.frozen? ⟨bb, 3, none⟩ = false := (by simp [World.frozen?, hrow]); have hcv : (convert 36 9 (.slice (some ⟨bb, 0, none⟩) 4 4)).run Try.prog ((((w7.setCell ⟨bb, 0, none⟩ (.int .u8 104)).setCell ⟨bb, 1, none⟩ (.int .u8 103)).setCell ⟨bb, 2, none⟩ (.int .u8 99)).setCell ⟨bb, 3, none⟩ (.int .u8 98)) = .ok (.string ⟨#[104, 103, 99, 98]⟩) ((((w7.setCell ⟨bb, 0, none⟩ (.int .u8 104)).setCell ⟨bb, 1, none⟩ (.int .u8 103)).setCell ⟨bb, 2, none⟩ (.int .u8 99)).setCell ⟨bb, 3, none⟩ (.int .u8 98)) := conv4 (X0 := 104) (X1 := 103) (X2 := 99) (X3 := 98) (heap_set (heap_set (heap_set (heap_set hrow)))) (by decide); have HRM := hid (mr_remove h7 (((((Ch.refl (fun i => i = bb) w7).setCell ⟨bb, 0, none⟩ (.int .u8 104) (fun _ => rfl)).setCell ⟨bb, 1, none⟩ (.int .u8 103) (fun _ => rfl)).setCell ⟨bb, 2, none⟩ (.int .u8 99) (fun _ => rfl)).setCell ⟨bb, 3, none⟩ (.int .u8 98) (fun _ => rfl))); clear hrow h7) | (go_at_call 18; with_reducible refine HRM.out.mono ?_; rintro e w8 ⟨rfl, h8⟩; have H8 := hid h8; clear h8) | (go_at_call 16; with_reducible refine (ms_more H8.out).mono ?_; rintro e w9 ⟨rfl, h9⟩; have H9 := hid h9; clear h9) | (go_at_call 16; with_reducible refine (ms_again H9.out).mono ?_; rintro e w10 ⟨rfl, h10⟩; have H10 := hid h10; clear h10))
      go_ret
      exact ⟨rfl, H10.out.below⟩
end Go.Proofs.Ytnopamkoegalpaa
