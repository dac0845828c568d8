/- PowerEnds: its walk. -/
import Derived.Test.YthjbhfhdepepmaaFto
namespace Go.Proofs.Ythjbhfhdepepmaa
open Go.RowKit
set_option maxRecDepth 20000 in
set_option maxHeartbeats 4000000 in
theorem ends_walk (a : Option Addr) (cap : Nat) (ms : List Ft3) (fs : List Ftp) (sy : Int) (w : World) (hF : FtIn w a ms fs) (hl : ms.length ≤ 2932031007402) :
    Calls Try.prog 5 #[.slice a ms.length cap, .int .i64 sy] w fun e w' => e = .returned (.bool true) ∧ Below w.heap.size w w' := by
  have hz : ∀ f ∈ ms, f.1.size ≤ 140737488355328 := fun f hf => by
    obtain ⟨j, hj, rfl⟩ := List.getElem_of_mem hf
    have h1 := hF.at1 j (by rw [← hF.len]; exact hj)
    have e : ms.getD j t00 = ms[j] := by rw [List.getD_eq_getElem?_getD, List.getElem?_eq_getElem hj]; rfl
    rw [e] at h1
    rw [h1.1]
    exact h1.2.2.2.2.2.2.1
  have HFl := hid (fails_any w)
  have HCr : Hid (∀ wx, Below w.heap.size w wx → Calls Try.prog 25 #[.pointer none, .slice a ms.length cap] wx fun e w' => e = .returned (.tuple #[]) ∧ Below w.heap.size w w') := fun wx hx => (crash_nil a cap ms wx (hF.F.kept hx) (by omega) (fun f hf => by have := hz f hf; unfold FtOk maxLen; omega)).mono fun e w' ⟨h1, h2⟩ => ⟨h1, hx.trans (h2.mono hx.size)⟩
  have HHa : Hid (∀ wx, Below w.heap.size w wx → Calls Try.prog 23 #[.pointer none, .slice a ms.length cap] wx fun e w' => e = .returned (.tuple #[]) ∧ Below w.heap.size w w') := fun wx hx => (harm_nil a cap ms wx (hF.F.kept hx) (by omega) hz).mono fun e w' ⟨h1, h2⟩ => ⟨h1, hx.trans (h2.mono hx.size)⟩
  have HCk : Hid (∀ wx, Below w.heap.size w wx → Calls Try.prog 16 #[.pointer none, .slice a ms.length cap] wx fun e w' => e = .returned (.int .i64 (ckN ms)) ∧ Below w.heap.size w w') := fun wx hx => (check_nil a cap ms wx (hF.F.kept hx) (by omega) hz).mono fun e w' ⟨h1, h2⟩ => ⟨h1, hx.trans (h2.mono hx.size)⟩
  have HLe : Hid (∀ wx, Below w.heap.size w wx → Calls Try.prog 19 #[.pointer none] wx fun e w' => (∃ a c, e = .returned (.slice a 0 c)) ∧ Below w.heap.size w w') := fun wx hx => (least_nil wx).mono fun e w' ⟨h1, h2⟩ => ⟨h1, hx.trans (h2.mono hx.size)⟩
  have HMo : Hid (∀ wx, Below w.heap.size w wx → Calls Try.prog 21 #[.pointer none] wx fun e w' => (∃ a c, e = .returned (.slice a 0 c)) ∧ Below w.heap.size w w') := fun wx hx => (most_nil wx).mono fun e w' ⟨h1, h2⟩ => ⟨h1, hx.trans (h2.mono hx.size)⟩
  have HLf : Hid (∀ wx j, j < ms.length → Below w.heap.size w wx → ∃ b off nm kp oa on oc, a = some ⟨b, off, none⟩ ∧ ms.getD j t00 = (nm, kp, oa, on, oc) ∧ wx.cell? ⟨b, off + j * 3, none⟩ = some (.string nm) ∧ wx.cell? ⟨b, off + j * 3 + 1, none⟩ = some (.int .i64 kp) ∧ wx.cell? ⟨b, off + j * 3 + 2, none⟩ = some (.slice oa on oc) ∧ nm.size ≤ 140737488355328 ∧ Hid (∀ wy, Below w.heap.size w wy → Calls Try.prog 10 #[.string nm, .int .i64 sy, .agg #[.string nm, .int .i64 kp, .slice oa on oc]] wy fun e w' => (∃ s, e = .returned (.string s)) ∧ Below wy.heap.size wy w') ∧ Hid (∀ wy, Below w.heap.size w wy → Calls Try.prog 12 #[.string nm, .int .i64 sy, .agg #[.string nm, .int .i64 kp, .slice oa on oc]] wy fun e w' => (∃ s, e = .returned (.int .i64 s)) ∧ Below wy.heap.size wy w')) := fun wx j hj hx => by
    have h1 := hF.at1 j (by rw [← hF.len]; exact hj)
    rcases hF.F.kept hx with h | ⟨b, off, h2, _, h3⟩
    · rw [h] at hj; cases hj
    obtain ⟨c0, c1, c2⟩ := h3 j hj
    generalize ms.getD j t00 = m at *
    generalize fs.getD j p00 = p at *
    obtain ⟨nm, kp, oa, on, oc⟩ := m
    obtain ⟨pn, pk, ws⟩ := p
    simp only [ovS] at h1 c0 c1 c2
    obtain ⟨rfl, rfl, rfl, hw, hl2, hok, hsz, _⟩ := h1
    refine ⟨b, off, nm, kp, oa, ws.length, oc, h2, rfl, c0, c1, c2, hsz, fun wy hy => ?_, fun wy hy => ?_⟩
    · exact (left_any nm sy nm kp oa oc ws wy hsz (hw.kept hy) hl2 hok).mono fun e w' ⟨h4, h5⟩ => ⟨⟨_, h4⟩, h5⟩
    · exact (of_any nm sy nm kp oa oc ws wy hsz (hw.kept hy) hl2 hok).mono fun e w' ⟨h4, h5⟩ => ⟨⟨_, h4⟩, h5⟩
  have HCN : Hid (∀ nm kp oa on oc, 0 < ms.length → ms.getD 0 t00 = (nm, kp, oa, on, oc) → ckN ms = if 1 ≤ nm.size ∧ nm.size ≤ 255 then 4 else 3) := fun nm kp oa on oc h1 h2 => by
    cases ms with
    | nil => cases h1
    | cons f r =>
      have : f = (nm, kp, oa, on, oc) := h2
      rw [this]
      rfl
  have HCZ : Hid (ms.length = 0 → ckN ms = 0) := fun h => by rw [List.eq_nil_of_length_eq_zero h]; rfl
  generalize ckN ms = ck at *
  obtain ⟨N, hN⟩ : ∃ N, N = ms.length := ⟨_, rfl⟩
  rw [← hN] at hl HCr HHa HCk HLf HCN HCZ ⊢
  clear hF hz hN
  by_cases h0 : N = 0
  · have hck : ck = 0 := HCZ.out h0
    subst hck
    subst h0
    go_enter Try.func5, Try.ntmps5
    go_wp2_with (first | (go_at_call 9; refine HFl.out.mono ?_; rintro e w1 ⟨rfl, hb1⟩; have HB1 := hid hb1; clear hb1) | (go_at_call 25; refine (HCr.out _ HB1.out).mono ?_; rintro e w2 ⟨rfl, hb2⟩; have HB2 := hid hb2; clear hb2) | (go_at_call 23; refine (HHa.out _ HB2.out).mono ?_; rintro e w3 ⟨rfl, hb3⟩; have HB3 := hid hb3; clear hb3))
    go_loopg [34] 0 (fun k vi wr => ∃ j : Nat, j + k = 0 ∧ vi = .int .i64 j ∧ Hid (Below w.heap.size w wr))
    case atStart => exact ⟨0, by omega, rfl, HB3.out⟩
    case round =>
      obtain ⟨j, hj, rfl, HB⟩ := hrel
      by_cases hlt : j < 0
      · exact absurd hlt (by omega)
      · have hltI : ¬ (j : Int) < 0 := by omega
        go_wp2_with (first | (go_at_call 16; refine (HCk.out _ HB.out).mono ?_; rintro e w5 ⟨rfl, hb5⟩; have HB5 := hid hb5; clear hb5) | (go_at_call 19; refine (HLe.out _ HB5.out).mono ?_; rintro e w6 ⟨⟨a6, c6, rfl⟩, hb6⟩; have HB6 := hid hb6; clear hb6) | (go_at_call 21; refine (HMo.out _ HB6.out).mono ?_; rintro e w7 ⟨⟨a7, c7, rfl⟩, hb7⟩; have HB7 := hid hb7; clear hb7))
        go_ret
        exact ⟨rfl, HB7.out⟩
  · have hN0 : (0 : Int) < N := by omega
    have hN1 : 0 < N := by omega
    obtain ⟨b, off, nm, kp, oa, on, oc, rfl, h1, _, _, _, hsz, _, _⟩ := HLf.out w 0 (by omega) (Below.refl _ _)
    have HQ0 : Hid (∀ wx, Below w.heap.size w wx → wx.cell? ⟨b, off, none⟩ = some (.string nm) ∧ wx.cell? ⟨b, off + 1, none⟩ = some (.int .i64 kp) ∧ wx.cell? ⟨b, off + 2, none⟩ = some (.slice oa on oc)) := fun wx hx => by
      obtain ⟨b', off', nm', kp', oa', on', oc', e', h1', q0, q1, q2, _⟩ := HLf.out wx 0 (by omega) hx
      cases e'
      rw [h1] at h1'
      cases h1'
      exact ⟨by simpa using q0, by simpa using q1, by simpa using q2⟩
    have HC1 := hid (HCN.out nm kp oa on oc (by omega) h1)
    clear h1
    by_cases hg1 : nm.size < 1
    · have hck : ck = 3 := by rw [HC1.out, if_neg (by omega)]
      subst hck
      have hg1I : (nm.size : Int) < 1 := by omega
      go_enter Try.func5, Try.ntmps5
      go_wp2_with (first | (go_at_call 9; refine HFl.out.mono ?_; rintro e w1 ⟨rfl, hb1⟩; have HB1 := hid hb1; clear hb1) | (go_at_call 25; refine (HCr.out _ HB1.out).mono ?_; rintro e w2 ⟨rfl, hb2⟩; have HB2 := hid hb2; clear hb2) | (go_at_call 23; refine (HHa.out _ HB2.out).mono ?_; rintro e w3 ⟨rfl, hb3⟩; have HB3 := hid hb3; obtain ⟨q0, q1, q2⟩ := HQ0.out _ hb3; clear hb3))
      go_loopg [34] N (fun k vi wr => ∃ j : Nat, j + k = N ∧ vi = .int .i64 j ∧ Hid (Below w.heap.size w wr))
      case atStart => exact ⟨0, by omega, rfl, HB3.out⟩
      case round =>
        obtain ⟨j, hj, rfl, HB⟩ := hrel
        by_cases hlt : j < N
        · obtain ⟨k', rfl⟩ : ∃ k', gk = k' + 1 := ⟨gk - 1, by omega⟩
          have hltI : (j : Int) < N := by omega
          obtain ⟨b2, off2, nm2, kp2, oa2, on2, oc2, e2, _, p0, p1, p2, hsz2, HL, HO⟩ := HLf.out wr j hlt HB.out
          cases e2
          have HBa := hid (HB.out.alloc HB.out.size (.cells #[.string nm2, .int .i64 kp2, .slice oa2 on2 oc2] 24))
          have HEa : Hid ((wr.alloc (.cells #[.string nm2, .int .i64 kp2, .slice oa2 on2 oc2] 24)).heap[wr.heap.size]? = some (.cells #[.string nm2, .int .i64 kp2, .slice oa2 on2 oc2] 24 (0, 0))) := heap_new _ _
          have HJ := hid hj
          clear hj
          go_wp2_with (first | (go_at_call 10; refine (HL.out _ HBa.out).mono ?_; rintro e w5 ⟨⟨s5, rfl⟩, hb5⟩; have HB5 := hid (HBa.out.trans (hb5.mono HBa.out.size)); have he5 := (hb5.block _ (lt_of_heap HEa.out)).trans HEa.out; have y0 : w5.cell? ⟨wr.heap.size, 0, none⟩ = some (.string nm2) := (cell_of he5).trans rfl; have y1 : w5.cell? ⟨wr.heap.size, 1, none⟩ = some (.int .i64 kp2) := (cell_of he5).trans rfl; have y2 : w5.cell? ⟨wr.heap.size, 2, none⟩ = some (.slice oa2 on2 oc2) := (cell_of he5).trans rfl; clear hb5 he5) | (go_at_call 12; refine (HO.out _ HB5.out).mono ?_; rintro e w6 ⟨⟨s6, rfl⟩, hb6⟩; have HB6 := hid (HB5.out.trans (hb6.mono HB5.out.size)); clear hb6))
          go_roundg k'
          case measure => omega
          case rel => exact ⟨j + 1, by have := HJ.out; omega, congrArg (Value.int .i64) (by omega), HB6.out⟩
        · have hltI : ¬ (j : Int) < N := by omega
          go_wp2_with (first | (go_at_call 16; refine (HCk.out _ HB.out).mono ?_; rintro e w5 ⟨rfl, hb5⟩; have HB5 := hid hb5; clear hb5) | (go_at_call 19; refine (HLe.out _ HB5.out).mono ?_; rintro e w6 ⟨⟨a6, c6, rfl⟩, hb6⟩; have HB6 := hid hb6; clear hb6) | (go_at_call 21; refine (HMo.out _ HB6.out).mono ?_; rintro e w7 ⟨⟨a7, c7, rfl⟩, hb7⟩; have HB7 := hid hb7; clear hb7))
          go_ret
          exact ⟨rfl, HB7.out⟩
    · have hg1I : ¬ (nm.size : Int) < 1 := by omega
      by_cases hg2 : 255 < nm.size
      · have hck : ck = 3 := by rw [HC1.out, if_neg (by omega)]
        subst hck
        have hg2I : (255 : Int) < nm.size := by omega
        go_enter Try.func5, Try.ntmps5
        go_wp2_with (first | (go_at_call 9; refine HFl.out.mono ?_; rintro e w1 ⟨rfl, hb1⟩; have HB1 := hid hb1; clear hb1) | (go_at_call 25; refine (HCr.out _ HB1.out).mono ?_; rintro e w2 ⟨rfl, hb2⟩; have HB2 := hid hb2; clear hb2) | (go_at_call 23; refine (HHa.out _ HB2.out).mono ?_; rintro e w3 ⟨rfl, hb3⟩; have HB3 := hid hb3; obtain ⟨q0, q1, q2⟩ := HQ0.out _ hb3; clear hb3))
        go_loopg [34] N (fun k vi wr => ∃ j : Nat, j + k = N ∧ vi = .int .i64 j ∧ Hid (Below w.heap.size w wr))
        case atStart => exact ⟨0, by omega, rfl, HB3.out⟩
        case round =>
          obtain ⟨j, hj, rfl, HB⟩ := hrel
          by_cases hlt : j < N
          · obtain ⟨k', rfl⟩ : ∃ k', gk = k' + 1 := ⟨gk - 1, by omega⟩
            have hltI : (j : Int) < N := by omega
            obtain ⟨b2, off2, nm2, kp2, oa2, on2, oc2, e2, _, p0, p1, p2, hsz2, HL, HO⟩ := HLf.out wr j hlt HB.out
            cases e2
            have HBa := hid (HB.out.alloc HB.out.size (.cells #[.string nm2, .int .i64 kp2, .slice oa2 on2 oc2] 24))
            have HEa : Hid ((wr.alloc (.cells #[.string nm2, .int .i64 kp2, .slice oa2 on2 oc2] 24)).heap[wr.heap.size]? = some (.cells #[.string nm2, .int .i64 kp2, .slice oa2 on2 oc2] 24 (0, 0))) := heap_new _ _
            have HJ := hid hj
            clear hj
            go_wp2_with (first | (go_at_call 10; refine (HL.out _ HBa.out).mono ?_; rintro e w5 ⟨⟨s5, rfl⟩, hb5⟩; have HB5 := hid (HBa.out.trans (hb5.mono HBa.out.size)); have he5 := (hb5.block _ (lt_of_heap HEa.out)).trans HEa.out; have y0 : w5.cell? ⟨wr.heap.size, 0, none⟩ = some (.string nm2) := (cell_of he5).trans rfl; have y1 : w5.cell? ⟨wr.heap.size, 1, none⟩ = some (.int .i64 kp2) := (cell_of he5).trans rfl; have y2 : w5.cell? ⟨wr.heap.size, 2, none⟩ = some (.slice oa2 on2 oc2) := (cell_of he5).trans rfl; clear hb5 he5) | (go_at_call 12; refine (HO.out _ HB5.out).mono ?_; rintro e w6 ⟨⟨s6, rfl⟩, hb6⟩; have HB6 := hid (HB5.out.trans (hb6.mono HB5.out.size)); clear hb6))
            go_roundg k'
            case measure => omega
            case rel => exact ⟨j + 1, by have := HJ.out; omega, congrArg (Value.int .i64) (by omega), HB6.out⟩
          · have hltI : ¬ (j : Int) < N := by omega
            go_wp2_with (first | (go_at_call 16; refine (HCk.out _ HB.out).mono ?_; rintro e w5 ⟨rfl, hb5⟩; have HB5 := hid hb5; clear hb5) | (go_at_call 19; refine (HLe.out _ HB5.out).mono ?_; rintro e w6 ⟨⟨a6, c6, rfl⟩, hb6⟩; have HB6 := hid hb6; clear hb6) | (go_at_call 21; refine (HMo.out _ HB6.out).mono ?_; rintro e w7 ⟨⟨a7, c7, rfl⟩, hb7⟩; have HB7 := hid hb7; clear hb7))
            go_ret
            exact ⟨rfl, HB7.out⟩
      · have hck : ck = 4 := by rw [HC1.out, if_pos (by omega)]
        subst hck
        have hg2I : ¬ (255 : Int) < nm.size := by omega
        go_enter Try.func5, Try.ntmps5
        go_wp2_with (first | (go_at_call 9; refine HFl.out.mono ?_; rintro e w1 ⟨rfl, hb1⟩; have HB1 := hid hb1; clear hb1) | (go_at_call 25; refine (HCr.out _ HB1.out).mono ?_; rintro e w2 ⟨rfl, hb2⟩; have HB2 := hid hb2; clear hb2) | (go_at_call 23; refine (HHa.out _ HB2.out).mono ?_; rintro e w3 ⟨rfl, hb3⟩; have HB3 := hid hb3; obtain ⟨q0, q1, q2⟩ := HQ0.out _ hb3; clear hb3))
        go_loopg [34] N (fun k vi wr => ∃ j : Nat, j + k = N ∧ vi = .int .i64 j ∧ Hid (Below w.heap.size w wr))
        case atStart => exact ⟨0, by omega, rfl, HB3.out⟩
        case round =>
          obtain ⟨j, hj, rfl, HB⟩ := hrel
          by_cases hlt : j < N
          · obtain ⟨k', rfl⟩ : ∃ k', gk = k' + 1 := ⟨gk - 1, by omega⟩
            have hltI : (j : Int) < N := by omega
            obtain ⟨b2, off2, nm2, kp2, oa2, on2, oc2, e2, _, p0, p1, p2, hsz2, HL, HO⟩ := HLf.out wr j hlt HB.out
            cases e2
            have HBa := hid (HB.out.alloc HB.out.size (.cells #[.string nm2, .int .i64 kp2, .slice oa2 on2 oc2] 24))
            have HEa : Hid ((wr.alloc (.cells #[.string nm2, .int .i64 kp2, .slice oa2 on2 oc2] 24)).heap[wr.heap.size]? = some (.cells #[.string nm2, .int .i64 kp2, .slice oa2 on2 oc2] 24 (0, 0))) := heap_new _ _
            have HJ := hid hj
            clear hj
            go_wp2_with (first | (go_at_call 10; refine (HL.out _ HBa.out).mono ?_; rintro e w5 ⟨⟨s5, rfl⟩, hb5⟩; have HB5 := hid (HBa.out.trans (hb5.mono HBa.out.size)); have he5 := (hb5.block _ (lt_of_heap HEa.out)).trans HEa.out; have y0 : w5.cell? ⟨wr.heap.size, 0, none⟩ = some (.string nm2) := (cell_of he5).trans rfl; have y1 : w5.cell? ⟨wr.heap.size, 1, none⟩ = some (.int .i64 kp2) := (cell_of he5).trans rfl; have y2 : w5.cell? ⟨wr.heap.size, 2, none⟩ = some (.slice oa2 on2 oc2) := (cell_of he5).trans rfl; clear hb5 he5) | (go_at_call 12; refine (HO.out _ HB5.out).mono ?_; rintro e w6 ⟨⟨s6, rfl⟩, hb6⟩; have HB6 := hid (HB5.out.trans (hb6.mono HB5.out.size)); clear hb6))
            go_roundg k'
            case measure => omega
            case rel => exact ⟨j + 1, by have := HJ.out; omega, congrArg (Value.int .i64) (by omega), HB6.out⟩
          · have hltI : ¬ (j : Int) < N := by omega
            go_wp2_with (first | (go_at_call 16; refine (HCk.out _ HB.out).mono ?_; rintro e w5 ⟨rfl, hb5⟩; have HB5 := hid hb5; clear hb5) | (go_at_call 19; refine (HLe.out _ HB5.out).mono ?_; rintro e w6 ⟨⟨a6, c6, rfl⟩, hb6⟩; have HB6 := hid hb6; clear hb6) | (go_at_call 21; refine (HMo.out _ HB6.out).mono ?_; rintro e w7 ⟨⟨a7, c7, rfl⟩, hb7⟩; have HB7 := hid hb7; clear hb7))
            go_ret
            exact ⟨rfl, HB7.out⟩
end Go.Proofs.Ythjbhfhdepepmaa
