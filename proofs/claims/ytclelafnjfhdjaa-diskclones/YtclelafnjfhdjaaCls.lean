/- DiskClones: the walk. -/
import Derived.Test.YtclelafnjfhdjaaClk
namespace Go.Proofs.Ytclelafnjfhdjaa
open Go.RowKit
set_option maxHeartbeats 8000000 in
set_option maxRecDepth 20000 in
theorem clones_walk (room : Int) (a1 : Option Addr) (cap1 : Nat) (os : List Op5) (a2 : Option Addr) (cap2 : Nat) (ps : List Op5) (w : World) (hl : os.length ≤ 9223372036854775807) (hz : ∀ o ∈ os, OpOk o) (V : Scr w a1 os) (hl2 : ps.length ≤ 9223372036854775807) (hz2 : ∀ o ∈ ps, OpOk o) (V2 : Scr w a2 ps) :
    Calls Try.prog 4 #[.int .i64 room, .slice a1 os.length cap1, .slice a2 ps.length cap2] w fun e w' => e = .returned (.bool true) ∧ Below w.heap.size w w' := by
  have HV := hid V
  have HZ := hid hz
  have HV2 := hid V2
  have HZ2 := hid hz2
  clear V hz V2 hz2
  have HFX := hid (fixed_any w)
  generalize hN : os.length = N at *
  have HN := hid hN
  generalize hM : ps.length = M at *
  have HM := hid hM
  clear hN hM
  have hcl := clamp_le room
  have EWN : Hid (∀ j : Nat, j < 9223372036854775807 → wrap64 ((j : Int) + 1) = ((j + 1 : Nat) : Int)) := fun j hj => by unfold wrap64; omega
  go_enter Try.func4, Try.ntmps4
  go_wp2_with (first | (go_at_call 7; refine HFX.out.mono ?_; rintro e w1 ⟨rfl, hb1⟩; have HB1 := hid hb1; clear hb1) | (go_at_call 8; refine (new_any _ _).mono ?_; rintro e w' ⟨rfl, rfl⟩) | (go_at_call 9; refine (rnew_any _ _).mono ?_; rintro e w' ⟨rfl, rfl⟩))
  have hF1 : Fk (fun i => i < w.heap.size) w w1 := ⟨⟨HB1.out.os, HB1.out.tape, HB1.out.output⟩, HB1.out.size, fun i hi => ⟨hi, HB1.out.block i hi⟩⟩
  have HP0 : Hid (Stp w (fun i => i < w.heap.size) w1.heap.size (w1.heap.size + 1) (clamp room) _) := ⟨0, 0, [], Pr.new w1 room _ w hF1, SV.nil hcl⟩
  clear HFX hF1 HB1
  generalize clamp room = rm at *
  generalize (w1.alloc (.cells #[.int .i64 rm, .int .i64 0, .map none, .int .i64 0, .int .i64 0] 48)).alloc (.cells #[.int .i64 rm, .slice none 0 0, .int .i64 0, .int .i64 0] 61) = w3 at *
  generalize w1.heap.size = da at *
  generalize da + 1 = db at *
  go_loopg [9] N (fun k i wr => ∃ j : Nat, j + k = N ∧ i = .int .i64 j ∧ Hid (Stp w (fun i => i < w.heap.size) da db rm wr))
  case atStart => exact ⟨0, by omega, rfl, HP0⟩
  case round =>
    clear HP0
    obtain ⟨j, hk, rfl, HT⟩ := hrel
    have hbw := HT.out.below (H := w.heap.size) (fun i hi => hi)
    by_cases hlt : j < N
    · obtain ⟨k, rfl⟩ : ∃ k, gk = k + 1 := ⟨gk - 1, by omega⟩
      rcases HV.out with rfl | ⟨b, off, rfl, hbl, hc⟩
      · exact absurd hlt (by rw [← HN.out]; simp)
      have hq := scr_at hbw hbl (hc j (by rw [HN.out]; exact hlt))
      have hK := HZ.out _ (scr_mem (by rw [HN.out]; exact hlt))
      generalize os.getD j o0 = o at *
      obtain ⟨cl, cb, Vj, hPj, hSj⟩ := HT.out
      obtain ⟨kd, nm, A, B, S⟩ := o
      obtain ⟨k0, k1, k2, k3, k4⟩ := hq
      obtain ⟨hK1, hK2⟩ := hK
      simp only at k0 k1 k2 k3 k4 hK1 hK2
      have hltI : (j : Int) < N := by omega
      have hltD : decide ((j : Int) < N) = true := by simp; omega
      have HST := hid (step_any w _ da db rm cl cb Vj kd nm A B S wr hPj hSj hK1 hK2)
      clear hc hbw hPj hSj hK1 hK2 HT
      go_wp2_with (go_at_call 11; refine HST.out.mono ?_; rintro e w4 ⟨rfl, hp4⟩; have HT4 := hid hp4; clear hp4)
      go_roundg k
      case measure => omega
      case rel => exact ⟨j + 1, by omega, by first | exact congrArg (Value.int .i64) (EWN.out j (by omega)) | rfl, HT4⟩
    · have hltD : decide ((j : Int) < N) = false := by simp; omega
      have HCL := hid (Q4.cloned HT.out)
      clear HT hbw
      go_wp2_with (first | (go_at_call 12; refine HCL.out.mono ?_; rintro e w4 ⟨dc, rfl, hv4⟩; have HV4 := hid hv4; clear hv4) | (go_at_call 13; refine HV4.out.mono ?_; rintro e w5 ⟨dv, rfl, hq5⟩; have HQ5 := hid hq5; clear hq5))
      refine (HQ5.out.swap.first (fun K cl cb Vj hPj hSj => looks_stp _ K dc dv rm cl cb Vj _ hPj hSj)).mono ?_
      rintro e w6 ⟨rfl, hq6⟩
      have HQS := hid hq6.swap
      clear hq6 HQ5 HV4 HCL
      go_wp2_with fail
      go_loopg [12] M (fun k i wr => ∃ j : Nat, j + k = M ∧ i = .int .i64 j ∧ Hid (Q4 w w.heap.size da db dc dv rm wr))
      case atStart => exact ⟨0, by omega, rfl, HQS⟩
      case round =>
        clear HQS
        obtain ⟨j, hk, rfl, HQ⟩ := hrel
        have hbw := HQ.out.below
        by_cases hlt : j < M
        · obtain ⟨k, rfl⟩ : ∃ k, gk = k + 1 := ⟨gk - 1, by omega⟩
          rcases HV2.out with rfl | ⟨b, off, rfl, hbl, hc⟩
          · exact absurd hlt (by rw [← HM.out]; simp)
          have hq := scr_at hbw hbl (hc j (by rw [HM.out]; exact hlt))
          have hK := HZ2.out _ (scr_mem (by rw [HM.out]; exact hlt))
          generalize ps.getD j o0 = o at *
          obtain ⟨kd, nm, A, B, S⟩ := o
          obtain ⟨k0, k1, k2, k3, k4⟩ := hq
          obtain ⟨hK1, hK2⟩ := hK
          simp only at k0 k1 k2 k3 k4 hK1 hK2
          have hltI : (j : Int) < M := by omega
          have hltD : decide ((j : Int) < M) = true := by simp; omega
          have HST := hid (HQ.out.first (fun K cl cb Vj hPj hSj => step_any wr K da db rm cl cb Vj kd nm A B S wr hPj hSj hK1 hK2))
          clear hc hbw hK1 hK2 HQ
          go_wp2_with (go_at_call 11; refine HST.out.mono ?_; rintro e w4 ⟨rfl, hq⟩; have HQ4 := hid hq; clear hq)
          go_roundg k
          case measure => omega
          case rel => exact ⟨j + 1, by omega, by first | exact congrArg (Value.int .i64) (EWN.out j (by omega)) | rfl, HQ4⟩
        · have hltD : decide ((j : Int) < M) = false := by simp; omega
          clear hbw
          go_wp2_with fail
          have HQS := HQ
          clear HQ
          go_loopg [13] N (fun k i wr => ∃ j : Nat, j + k = N ∧ i = .int .i64 j ∧ Hid (Q4 w w.heap.size da db dc dv rm wr))
          case atStart => exact ⟨0, by omega, rfl, HQS⟩
          case round =>
            clear HQS
            obtain ⟨j, hk, rfl, HQ⟩ := hrel
            have hbw := HQ.out.below
            by_cases hlt : j < N
            · obtain ⟨k, rfl⟩ : ∃ k, gk = k + 1 := ⟨gk - 1, by omega⟩
              rcases HV.out with rfl | ⟨b, off, rfl, hbl, hc⟩
              · exact absurd hlt (by rw [← HN.out]; simp)
              have hq := scr_at hbw hbl (hc j (by rw [HN.out]; exact hlt))
              have hK := HZ.out _ (scr_mem (by rw [HN.out]; exact hlt))
              generalize os.getD j o0 = o at *
              obtain ⟨kd, nm, A, B, S⟩ := o
              obtain ⟨k0, k1, k2, k3, k4⟩ := hq
              obtain ⟨hK1, hK2⟩ := hK
              simp only at k0 k1 k2 k3 k4 hK1 hK2
              have hltI : (j : Int) < N := by omega
              have hltD : decide ((j : Int) < N) = true := by simp; omega
              have HST := hid (HQ.out.swap.first (fun K cl cb Vj hPj hSj => step_any wr K dc dv rm cl cb Vj kd nm A B S wr hPj hSj hK1 hK2))
              clear hc hbw hK1 hK2 HQ
              go_wp2_with (go_at_call 11; refine HST.out.mono ?_; rintro e w4 ⟨rfl, hq⟩; have HQ4 := hid hq.swap; clear hq)
              go_roundg k
              case measure => omega
              case rel => exact ⟨j + 1, by omega, by first | exact congrArg (Value.int .i64) (EWN.out j (by omega)) | rfl, HQ4⟩
            · have hltD : decide ((j : Int) < N) = false := by simp; omega
              clear hbw
              go_wp2_with fail
              refine (HQ.out.first (fun K cl cb Vj hPj hSj => looks_stp _ K da db rm cl cb Vj _ hPj hSj)).mono ?_
              rintro e w7 ⟨rfl, hq7⟩
              have HQ7 := hid hq7
              clear hq7
              go_wp2_with fail
              refine (HQ7.out.swap.first (fun K cl cb Vj hPj hSj => looks_stp _ K dc dv rm cl cb Vj _ hPj hSj)).mono ?_
              rintro e w8 ⟨rfl, hq8⟩
              have HB8 := hid hq8.below
              clear hq8
              go_wp2_with fail
              go_ret
              exact ⟨rfl, HB8.out⟩
end Go.Proofs.Ytclelafnjfhdjaa
