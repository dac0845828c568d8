/- PowerFresh: its walk. -/
import Derived.Test.YthjbhfhdepepmabPMC
import Derived.Test.YthjbhfhdepepmabFlo
namespace Go.Proofs.Ythjbhfhdepepmab
open Go.RowKit
theorem own_keep {w w' : World} {B n : Nat} {v : Value} {T : TypeId} {sz : Nat} {l : List Value} (h : w.ownsRow B T sz v n l) (hb : ∀ g, v.ownBlock = some g → g < w.heap.size → w'.heap[g]? = w.heap[g]?) : w'.ownsRow B T sz v n l := by
  refine ⟨h.1, ?_⟩
  rcases h.2 with h2 | ⟨g, cap, cur, rfl, h3, h4, h5⟩
  · exact Or.inl h2
  · exact Or.inr ⟨g, cap, cur, rfl, h3, (hb g rfl (lt_of_heap h4)).trans h4, h5⟩
theorem own_bel {w w' : World} {B n : Nat} {v : Value} {T : TypeId} {sz : Nat} {l : List Value} (h : w.ownsRow B T sz v n l) (hb : Below w.heap.size w w') : w'.ownsRow B T sz v n l := own_keep h (fun g _ hg => hb.block g hg)
set_option maxRecDepth 20000 in
set_option maxHeartbeats 4000000 in
theorem fresh_walk (a : Option Addr) (cap : Nat) (fs : List (ByteArray × ByteArray × Nat)) (w : World) (hF : Fls w a fs) (hl : fs.length ≤ 9223372036854775806) (hn : ∀ f ∈ fs, FlOk f) :
    Calls Try.prog 3 #[.slice a fs.length cap] w fun e w' => e = .returned (.bool true) ∧ Below w.heap.size w w' := by
  have HFl := hid (fails_any w)
  have HLd : Hid (∀ wx, Below w.heap.size w wx → Calls Try.prog 5 #[.int .i64 1048576, .slice a fs.length cap] wx fun e w' => ∃ d r, e = .returned (.tuple #[.pointer (some ⟨d, 0, none⟩), .pointer (some ⟨r, 0, none⟩), .bool true]) ∧ Pr wx wx.heap.size w' d r (clamp 1048576) 0 0 (lds (clamp 1048576) fs) 0 0 (lds (clamp 1048576) fs)) := fun wx hx => laid_any 1048576 a cap fs wx (by
    rcases hF with h | ⟨b, off, h1, h2, h3⟩
    · exact Or.inl h
    · refine Or.inr ⟨b, off, h1, Nat.lt_of_lt_of_le h2 hx.size, fun j hj => ?_⟩
      have hh : wx.heap[b]? = w.heap[b]? := hx.block b h2
      have hc : ∀ o, wx.cell? ⟨b, o, none⟩ = w.cell? ⟨b, o, none⟩ := fun o => by simp [World.cell?, hh]
      rw [hc, hc, hc]
      exact h3 j hj) hl hn
  have hSV : SV (clamp 1048576) (lds (clamp 1048576) fs) := SV.lds (clamp_le _) fs
  have HMo : Hid (∀ wx d ft, Ds wx d ft (clamp 1048576) 0 0 (lds (clamp 1048576) fs) → Calls Try.prog 6 #[.pointer (some ⟨d, 0, none⟩)] wx fun e w' => ∃ g N, e = .returned (.slice (some ⟨g, 0, none⟩) N N) ∧ N = (lds (clamp 1048576) fs).length ∧ wx.heap.size ≤ g ∧ w'.ownsRow wx.heap.size 33 3 (.slice (some ⟨g, 0, none⟩) N N) N (fcs (mst (lds (clamp 1048576) fs))) ∧ Below wx.heap.size wx w') := fun wx d ft h => most_any d ft _ 0 0 _ wx h hSV
  have hct := hSV.cnt
  generalize fs.length = M at *
  clear hF hn hSV
  go_enter Try.func3, Try.ntmps3
  go_wp2_with (first | (go_at_call 4; refine HFl.out.mono ?_; rintro e w1 ⟨rfl, hb1⟩; have HB1 := hid hb1; clear hb1) | (go_at_call 5; refine (HLd.out _ HB1.out).mono ?_; rintro e w2 ⟨d, r, rfl, hp2⟩; obtain ⟨fd, fr, hd2, _, _, _, _, hs2, hb2⟩ := hp2; have HD2 := hid hd2; have HB2 := hid (HB1.out.trans (hb2.mono HB1.out.size)); clear hd2 hb2) | (go_at_call 6; (with_reducible refine (HMo.out _ _ _ HD2.out).mono ?_); rintro e w3 ⟨g1, N, rfl, hN3, hg3, ho3, hb3⟩; have HN3 := hid hN3; have HG3 := hid hg3; have HO3 := hid ho3; have HD3 := hid (HD2.out.kept hb3); have HB3 := hid (HB2.out.trans (hb3.mono HB2.out.size)); clear hN3 hg3 ho3 hb3) | (go_at_call 6; (with_reducible refine (HMo.out _ _ _ HD3.out).mono ?_); rintro e w4 ⟨g2, N4, rfl, hN4, hg4, ho4, hb4⟩; obtain rfl : N4 = N := (by rw [hN4, HN3.out]); have HG4 := hid hg4; have HO4 := hid ho4; have HA4 := hid (own_bel HO3.out hb4); have HB4 := hid (HB3.out.trans (hb4.mono HB3.out.size)); clear hN4 hg4 ho4 hb4) | (go_at_call 7; refine (copied_mst (mst (lds (clamp 1048576) fs)) _ _ _ _ HO4.out (by rw [HN3.out]; unfold mst; rw [List.length_map]) (by rw [HN3.out]; exact hct)).mono ?_; rintro e w5 ⟨v5, rfl, L5, hL5, hE5, ho5, hb5⟩; have HL5 := hid hL5; have HE5 := hid hE5; have HK5 := hid ho5; have HA5 := hid (own_bel HA4.out hb5); have HO5 := hid (own_bel HO4.out hb5); have HB5 := hid (HB4.out.trans (hb5.mono HB4.out.size)); clear hL5 hE5 ho5 hb5))
  have HNl : Hid (N4 = (mst (lds (clamp 1048576) fs)).length) := by show _ = _; rw [HN3.out]; unfold mst; rw [List.length_map]
  have hN4 : N4 ≤ 65536 := by rw [HN3.out]; exact hct
  have HX1 : Hid (g1 < w3.heap.size) := (HO3.out.lt g1 rfl).2
  have HX2 : Hid (g1 < g2) := Nat.lt_of_lt_of_le HX1.out HG4.out
  have HX5 : Hid (∀ k, v5.ownBlock = some k → g1 ≠ k) := fun k hk => by
    have h1 := (HK5.out.lt k hk).1
    have h2 := (HO4.out.lt g2 rfl).2
    have := HX2.out
    omega
  have HX6 : Hid (w.heap.size ≤ g1) := Nat.le_trans HB2.out.size HG3.out
  have HD5 : Hid (∀ wx, Ch (fun i => i = g1) w5 wx → Calls Try.prog 8 #[.slice (some ⟨g2, 0, none⟩) N4 N4, v5] wx fun e w' => e = .returned (.bool true) ∧ Below w.heap.size w w') := fun wx hx => by
    have h1 := own_keep HO5.out (w' := wx) (fun k hk hlt => hx.block k hlt (fun e => by have hk' : g2 = k := Option.some.inj hk; have e' : k = g1 := e; have := HX2.out; omega))
    have h2 := own_keep HK5.out (w' := wx) (fun k hk hlt => hx.block k hlt (fun e => HX5.out k hk e.symm))
    have hB := HB5.out.trans (hx.below HB5.out.size (fun i hi e => by have := HX6.out; omega))
    exact (samefates_yes _ L5 g2 N4 _ _ v5 wx h1 h2 HL5.out HE5.out HNl.out hN4).mono fun e w' ⟨h3, h4⟩ => ⟨h3, hB.trans (h4.mono hB.size)⟩
  generalize mst (lds (clamp 1048576) fs) = l at *
  obtain ⟨a5, c5, rfl⟩ := row_form8 HK5.out
  clear HFl HLd HMo HD2 HD3 HO3 HO4 HA4 HN3 hs2
  go_loopg [28] N4 (fun k vi wr => ∃ (j : Nat) (A : List (ByteArray × Int)), j + k = N4 ∧ vi = .int .i64 j ∧ Hid (A.length = N4) ∧ Hid (wr.ownsRow w2.heap.size 33 3 (.slice (some ⟨g1, 0, none⟩) N4 N4) N4 (fcs A)) ∧ Hid (Ch (fun i => i = g1) w5 wr))
  case atStart => exact ⟨0, l, by omega, rfl, HNl.out.symm, HA5.out, Ch.refl _ _⟩
  case round =>
    clear HA5
    obtain ⟨j, A, hj, rfl, HAl, HW, HC⟩ := hrel
    by_cases hlt : j < N4
    · obtain ⟨k', rfl⟩ : ∃ k', gk = k' + 1 := ⟨gk - 1, by omega⟩
      have hltI : (j : Int) < N4 := by omega
      have hjA : j < A.length := by rw [HAl.out]; exact hlt
      have hsp : A = A.take j ++ A.getD j f0p :: A.drop (j + 1) := by
        rw [List.getD_eq_getElem?_getD, List.getElem?_eq_getElem hjA]
        simp
      have htl : (A.take j).length = j := by rw [List.length_take]; omega
      have HST : Hid (((((fcs A).set (j * 3) (.string ⟨#[119, 114, 105, 116, 116, 101, 110, 32, 111, 118, 101, 114]⟩)).set (j * 3 + 1) (.int .i64 0)).set (j * 3 + 2) (.slice none 0 0)) = fcs (A.take j ++ (⟨#[119, 114, 105, 116, 116, 101, 110, 32, 111, 118, 101, 114]⟩, 0) :: A.drop (j + 1))) := by
        have := fcs_set (A.take j) (A.getD j f0p) (⟨#[119, 114, 105, 116, 116, 101, 110, 32, 111, 118, 101, 114]⟩, 0) (A.drop (j + 1))
        rw [htl, ← hsp] at this
        exact this
      have HAl2 : Hid ((A.take j ++ ((⟨#[119, 114, 105, 116, 116, 101, 110, 32, 111, 118, 101, 114]⟩ : ByteArray), (0 : Int)) :: A.drop (j + 1)).length = N4) := by
        show _ = _
        rw [List.length_append, htl, List.length_cons, List.length_drop, HAl.out]
        omega
      have hcl : ∀ k, k < 3 → wr.cell? ⟨g1, j * 3 + k, none⟩ = (fcell (A.getD j f0p))[k]? := fun k hk => (HW.out.cellAt (j * 3 + k) (by omega)).trans (fcs_at (l := A) (j := j) hjA hk)
      have y0 : wr.cell? ⟨g1, j * 3, none⟩ = some (.string (A.getD j f0p).1) := hcl 0 (by omega)
      have y1 : wr.cell? ⟨g1, j * 3 + 1, none⟩ = some (.int .i64 (A.getD j f0p).2) := hcl 1 (by omega)
      have y2 : wr.cell? ⟨g1, j * 3 + 2, none⟩ = some (.slice none 0 0) := hcl 2 (by omega)
      generalize A.getD j f0p = x at *
      have z0 : wr.frozen? ⟨g1, j * 3, none⟩ = false := HW.out.frozenAt _
      have z1 : wr.frozen? ⟨g1, j * 3 + 1, none⟩ = false := HW.out.frozenAt _
      have z2 : wr.frozen? ⟨g1, j * 3 + 2, none⟩ = false := HW.out.frozenAt _
      have HJ := hid hj
      clear hcl hsp htl hjA hj
      go_wp2_with fail
      go_roundg k'
      case measure => omega
      case rel =>
        refine ⟨j + 1, _, by have := HJ.out; omega, congrArg (Value.int .i64) (by omega), HAl2.out, ?_, ((HC.out.setCell _ _ (fun _ => rfl)).setCell _ _ (fun _ => rfl)).setCell _ _ (fun _ => rfl)⟩
        rw [← HST.out]
        exact own_set3 (own_set3 (own_set3 HW.out _ _) _ _) _ _
    · have hltI : ¬ (j : Int) < N4 := by omega
      have hnf : ¬ 281474976710656 < Builtin.nextslicecap (N4 + 30) N4 * Try.t33.bytes := by
        have h1 := nextslicecap_le (need := N4 + 30) (old := N4) (by omega)
        have h2 : Try.t33.bytes = 48 := rfl
        rw [h2]
        omega
      obtain ⟨arr, hld⟩ : ∃ arr, (loadCellsFrom ⟨g1, 0, none⟩ 0 (N4 * 3) #[]).run Try.prog wr.drew = .ok arr wr.drew := by
        have h1 := run_loadCellsFrom (P := Try.prog) (w := wr.drew) ⟨g1, 0, none⟩ (fun i => (fcs A).getD i undef) (N4 * 3) 0 #[] (fun j hj => by
          have h2 := HW.out.cellAt j (by omega)
          have h3 : (fcs A)[j]? = some ((fcs A).getD j undef) := by
            have : j < (fcs A).length := by rw [fcs_len, HAl.out]; exact hj
            rw [List.getD_eq_getElem?_getD, List.getElem?_eq_getElem this]
            rfl
          rw [Nat.zero_add, Go.WideShapes.add_plain, Nat.zero_add]
          exact h2.trans h3)
        exact ⟨_, h1⟩
      clear hj
      go_wp2_with (go_at_call 8; refine (HD5.out _ ((HC.out.drew).alloc _)).mono ?_; rintro e w7 ⟨rfl, hb7⟩)
      go_ret
      exact ⟨rfl, hb7⟩
end Go.Proofs.Ythjbhfhdepepmab
