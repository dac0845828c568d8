/- Two rows of texts that say the same. -/
import Derived.Test.YtgffipkbbenddaaDoorTxs
import Derived.Deep.QuietTactic
import Derived.BigQuiet
namespace Go.Proofs.YtgffipkbbenddaaDoor
open Go.RowKit Go.Lib
set_option maxRecDepth 20000 in
set_option maxHeartbeats 1000000 in
theorem sameTexts_yes (l : List ByteArray) (a b : Option Addr) (ca cb : Nat) (w : World) (ha : Txs w a l) (hb : Txs w b l) (hn : l.length ≤ 140737488355328) :
    Calls Tryd.prog 17 #[.slice a l.length ca, .slice b l.length cb] w fun e w' => e = .returned (.bool true) ∧ Below w.heap.size w w' := by
  have HA := hid ha
  have HB := hid hb
  obtain ⟨N, hN⟩ : ∃ N, N = l.length := ⟨_, rfl⟩
  have HN := hid hN
  rw [← hN] at hn ⊢
  clear ha hb hN
  go_enter Tryd.func17, Tryd.ntmps17
  go_wp2_with fail
  go_loopg [5] N (fun k i wr => ∃ j : Nat, j + k = N ∧ i = .int .i64 (j : Int) ∧ Hid (Below w.heap.size w wr))
  case atStart => exact ⟨0, by omega, rfl, Below.refl _ _⟩
  case round =>
    obtain ⟨j, hj, rfl, HW⟩ := hrel
    by_cases hlt : j < N
    · obtain ⟨k', rfl⟩ : ∃ k', gk = k' + 1 := ⟨gk - 1, by omega⟩
      have hltI : (j : Int) < N := by omega
      have hjl : j < l.length := by rw [← HN.out]; exact hlt
      rcases HA.out with e | ⟨b1, o1, rfl, hb1, hc1⟩
      · exact absurd hjl (by rw [e]; simp)
      rcases HB.out with e | ⟨b2, o2, rfl, hb2, hc2⟩
      · exact absurd hjl (by rw [e]; simp)
      have hw0 := HW.out
      have p0 := (hw0.cell (p := ⟨b1, o1 + j, none⟩) hb1).trans (hc1 j hjl)
      have q0 := (hw0.cell (p := ⟨b2, o2 + j, none⟩) hb2).trans (hc2 j hjl)
      generalize l.getD j ByteArray.empty = s at *
      have HJ := hid hj
      have hq : (s.toList == s.toList) = true := by simp
      clear hc1 hc2 hj HW
      go_wp2_with fail
      go_big_quiet (fail)
      go_wp2_with fail
      go_roundg k'
      case measure => omega
      case rel => exact ⟨j + 1, by have := HJ.out; omega, congrArg (Value.int .i64) (by omega), below_drewN hw0 _⟩
    · have hltI : ¬ (j : Int) < N := by omega
      have HW' := HW
      clear HW
      go_wp2_with fail
      go_ret
      exact ⟨rfl, HW'.out⟩
end Go.Proofs.YtgffipkbbenddaaDoor
