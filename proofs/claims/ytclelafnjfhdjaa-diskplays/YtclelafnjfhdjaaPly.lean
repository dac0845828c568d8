/- DiskPlays: every call, in every order, as the document's disk answers it. -/
import Derived.Test.YtclelafnjfhdjaaStp
namespace Go.Proofs.Ytclelafnjfhdjaa
open Go.RowKit
set_option maxHeartbeats 8000000 in
set_option maxRecDepth 20000 in
theorem plays_walk (room : Int) (a : Option Addr) (cap : Nat) (os : List Op5) (w : World) (hl : os.length ≤ 9223372036854775807) (hz : ∀ o ∈ os, OpOk o) (V : Scr w a os) :
    Calls Try.prog 3 #[.int .i64 room, .slice a os.length cap] w fun e w' => e = .returned (.bool true) ∧ Below w.heap.size w w' := by
  have HV := hid V
  have HZ := hid hz
  clear V hz
  have HFX := hid (fixed_any w)
  generalize hN : os.length = N at *
  have HN := hid hN
  clear hN
  have hcl := clamp_le room
  go_enter Try.func3, Try.ntmps3
  go_wp2_with (first | (go_at_call 7; refine HFX.out.mono ?_; rintro e w1 ⟨rfl, hb1⟩; have HB1 := hid hb1; clear hb1) | (go_at_call 8; refine (new_any _ _).mono ?_; rintro e w' ⟨rfl, rfl⟩) | (go_at_call 9; refine (rnew_any _ _).mono ?_; rintro e w' ⟨rfl, rfl⟩))
  have hP0 := Pr.new w1 room w.heap.size w HB1.out HB1.out.size
  have HP0 := hid hP0
  clear hP0 HFX
  generalize clamp room = rm at *
  refine (looks_any w w.heap.size _ _ rm 0 0 [] _ HP0.out (SV.nil hcl)).mono ?_
  rintro e w2 ⟨rfl, c2, b2, hp2⟩
  have HP2 : Hid (Stp w w.heap.size w1.heap.size (w1.heap.size + 1) rm w2) := ⟨c2, b2, [], hp2, SV.nil hcl⟩
  clear hp2 HP0
  generalize w1.heap.size = da at *
  generalize da + 1 = db at *
  go_wp2_with fail
  go_loopg [7] N (fun k i wr => ∃ j : Nat, j + k = N ∧ i = .int .i64 j ∧ Hid (Stp w w.heap.size da db rm wr))
  case atStart => exact ⟨0, by omega, rfl, HP2⟩
  case round =>
    clear HP2
    obtain ⟨j, hk, rfl, HT⟩ := hrel
    by_cases hlt : j < N
    · obtain ⟨k, rfl⟩ : ∃ k, gk = k + 1 := ⟨gk - 1, by omega⟩
      rcases HV.out with rfl | ⟨b, off, rfl, hbl, hc⟩
      · exact absurd hlt (by rw [← HN.out]; simp)
      obtain ⟨q0, q1, q2, q3, q4⟩ := hc j (by rw [HN.out]; exact hlt)
      have hK := HZ.out _ (scr_mem (by rw [HN.out]; exact hlt))
      generalize os.getD j o0 = o at *
      obtain ⟨cl, cb, Vj, hPj, hSj⟩ := HT.out
      have hbw := hPj.below
      have k0 := (hbw.cell (p := ⟨b, off + j * 5, none⟩) hbl).trans q0
      have k1 := (hbw.cell (p := ⟨b, off + j * 5 + 1, none⟩) hbl).trans q1
      have k2 := (hbw.cell (p := ⟨b, off + j * 5 + 2, none⟩) hbl).trans q2
      have k3 := (hbw.cell (p := ⟨b, off + j * 5 + 3, none⟩) hbl).trans q3
      have k4 := (hbw.cell (p := ⟨b, off + j * 5 + 4, none⟩) hbl).trans q4
      have hltI : (j : Int) < N := by omega
      have hltD : decide ((j : Int) < N) = true := by simp; omega
      have EW : Hid (wrap64 ((j : Int) + 1) = ((j + 1 : Nat) : Int)) := by show _ = _; unfold wrap64; omega
      obtain ⟨kd, nm, A, B, S⟩ := o
      obtain ⟨hK1, hK2⟩ := hK
      simp only at k0 k1 k2 k3 k4 hK1 hK2
      have HST := hid (step_any w w.heap.size da db rm cl cb Vj kd nm A B S wr hPj hSj hK1 hK2)
      clear hc q0 q1 q2 q3 q4 hbw hPj hSj hK1 hK2 HT
      go_wp2_with (go_at_call 11; refine HST.out.mono ?_; rintro e w3 ⟨rfl, c3, b3, V3, hp3, hs3⟩)
      refine (looks_any w w.heap.size da db rm c3 b3 V3 w3 hp3 hs3).mono ?_
      rintro e w4 ⟨rfl, c4, b4, hp4⟩
      have HT4 : Hid (Stp w w.heap.size da db rm w4) := ⟨c4, b4, V3, hp4, hs3⟩
      clear hp4 hp3 hs3 HST k0 k1 k2 k3 k4
      go_wp2_with fail
      go_roundg k
      case measure => omega
      case rel => exact ⟨j + 1, by omega, by first | exact congrArg (Value.int .i64) EW.out | rfl, HT4⟩
    · have hltD : decide ((j : Int) < N) = false := by simp; omega
      have HBB : Hid (Below w.heap.size w wr) := by obtain ⟨_, _, _, hp, _⟩ := HT.out; exact hp.below
      go_wp2_with fail
      go_ret
      exact ⟨rfl, HBB.out⟩
end Go.Proofs.Ytclelafnjfhdjaa
