/- Next: the program's. -/
import Derived.Test.YtgffipkbbenddaaDoorNxt
namespace Go.Proofs.YtgffipkbbenddaaDoor
open Go.RowKit Go.Lib
set_option maxRecDepth 20000 in
set_option maxHeartbeats 1000000 in
theorem next_any (base : Int) (l : List Sg) (a : Option Addr) (cap : Nat) (w : World) (hv : Sgs w a l) (hn : l.length ≤ 140737488355328) :
    Calls Tryd.prog 19 #[.int .i64 base, .slice a l.length cap] w fun e w' => e = .returned (.tuple #[.int .i64 (nxs base l).1, .bool (nxs base l).2]) ∧ Below w.heap.size w w' := by
  have HV := hid hv
  obtain ⟨N, hN⟩ : ∃ N, N = l.length := ⟨_, rfl⟩
  have HN := hid hN
  rw [← hN] at hn ⊢
  have HE : Hid (nxs base (l.take N) = nxs base l) := by show _ = _; rw [hN, List.take_length]
  clear hv hN
  go_enter Tryd.func19, Tryd.ntmps19
  go_wp2_with fail
  go_loopg [6, 7, 12] N (fun k vb vf vi wr => ∃ (j : Nat) (x : Int) (f : Bool), j + k = N ∧ vb = .int .i64 x ∧ vf = .bool f ∧ vi = .int .i64 j ∧ Hid (nxs base (l.take j) = (x, f)) ∧ Hid (Below w.heap.size w wr))
  case atStart => exact ⟨0, 0, false, by omega, rfl, rfl, rfl, rfl, Below.refl _ _⟩
  case round =>
    obtain ⟨j, x, f, hj, rfl, rfl, rfl, HX, HW⟩ := hrel
    by_cases hlt : j < N
    · obtain ⟨k', rfl⟩ : ∃ k', gk = k' + 1 := ⟨gk - 1, by omega⟩
      have hltI : (j : Int) < N := by omega
      rcases HV.out with e | ⟨b1, o1, rfl, hb1, hc1⟩
      · exact absurd hlt (by rw [HN.out, e]; simp)
      obtain ⟨p0, p1, p2, p3⟩ := hc1 j (by rw [← HN.out]; exact hlt)
      have HS := hid (nxs_step (base := base) (l := l) (j := j) (by rw [← HN.out]; exact hlt))
      rw [HX.out] at HS
      generalize l.getD j sg0 = s at *
      obtain ⟨sb, sx, sy, sz⟩ := s
      simp only at p0 p1 p2 p3
      have hw0 := HW.out
      have q0 := (hw0.cell (p := ⟨b1, o1 + j * 4, none⟩) hb1).trans p0
      have q1 := (hw0.cell (p := ⟨b1, o1 + j * 4 + 1, none⟩) hb1).trans p1
      have q2 := (hw0.cell (p := ⟨b1, o1 + j * 4 + 2, none⟩) hb1).trans p2
      have q3 := (hw0.cell (p := ⟨b1, o1 + j * 4 + 3, none⟩) hb1).trans p3
      have HJ := hid (And.intro hj hn)
      clear p0 p1 p2 p3 hc1 hj HW HX
      have HW' := hid hw0
      cases sx
      · have HS' : Hid (nxs base (l.take (j + 1)) = (x, f)) := by
          show _ = _
          rw [HS.out]
          unfold nx1
          rw [if_neg (by simp)]
        go_wp2_with fail
        go_roundg k'
        case measure => omega
        case rel => exact ⟨j + 1, x, f, by have := HJ.out.1; omega, rfl, rfl, congrArg (Value.int .i64) (by omega), HS', HW'.out.alloc HW'.out.size _⟩
      · by_cases hbb : base < sb
        · cases f
          · have HS' : Hid (nxs base (l.take (j + 1)) = (sb, true)) := by
              show _ = _
              rw [HS.out]
              unfold nx1
              rw [if_pos ⟨rfl, hbb, Or.inl rfl⟩]
            go_wp2_with fail
            go_roundg k'
            case measure => omega
            case rel => exact ⟨j + 1, sb, true, by have := HJ.out.1; omega, rfl, rfl, congrArg (Value.int .i64) (by omega), HS', HW'.out.alloc HW'.out.size _⟩
          · by_cases hx : sb < x
            · have HS' : Hid (nxs base (l.take (j + 1)) = (sb, true)) := by
                show _ = _
                rw [HS.out]
                unfold nx1
                rw [if_pos ⟨rfl, hbb, Or.inr hx⟩]
              go_wp2_with fail
              go_roundg k'
              case measure => omega
              case rel => exact ⟨j + 1, sb, true, by have := HJ.out.1; omega, rfl, rfl, congrArg (Value.int .i64) (by omega), HS', HW'.out.alloc HW'.out.size _⟩
            · have HS' : Hid (nxs base (l.take (j + 1)) = (x, true)) := by
                show _ = _
                rw [HS.out]
                unfold nx1
                rw [if_neg (fun h => by rcases h.2.2 with e | e; cases e; exact hx e)]
              go_wp2_with fail
              go_roundg k'
              case measure => omega
              case rel => exact ⟨j + 1, x, true, by have := HJ.out.1; omega, rfl, rfl, congrArg (Value.int .i64) (by omega), HS', HW'.out.alloc HW'.out.size _⟩
        · have HS' : Hid (nxs base (l.take (j + 1)) = (x, f)) := by
            show _ = _
            rw [HS.out]
            unfold nx1
            rw [if_neg (fun h => hbb h.2.1)]
          go_wp2_with fail
          go_roundg k'
          case measure => omega
          case rel => exact ⟨j + 1, x, f, by have := HJ.out.1; omega, rfl, rfl, congrArg (Value.int .i64) (by omega), HS', HW'.out.alloc HW'.out.size _⟩
    · have hltI : ¬ (j : Int) < N := by omega
      obtain rfl : j = N := by omega
      have hx := HX.out
      rw [HE.out] at hx
      have HX' := hid hx
      clear hx
      have HW' := HW
      clear HW HX
      go_wp2_with fail
      go_ret2
      exact ⟨by rw [HX'.out]; rfl, HW'.out⟩
end Go.Proofs.YtgffipkbbenddaaDoor
