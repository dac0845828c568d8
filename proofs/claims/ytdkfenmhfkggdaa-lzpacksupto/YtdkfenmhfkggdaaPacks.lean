/- LzPacks' walk: every Pack is the document's. -/
import Derived.Test.YtdkfenmhfkggdaaRFrm
import Derived.Test.YtdkfenmhfkggdaaTl
namespace Go.Proofs.Ytdkfenmhfkggdaa
open Go.RowKit
set_option maxHeartbeats 1000000 in
theorem rpack_any (s : ByteArray) (w : World) (hs : s.size ≤ 1048576) :
    Calls Try.prog 11 #[.string s] w fun e w' => e = .returned (.string (ba (M.pack s.data.toList))) ∧ Below w.heap.size w w' := by
  have cp := fun w => rpacked_any s w (by omega)
  have hfm := frm_toks (M.packT s.data.toList) (M.pk_ok 0 0 (Nat.le_refl _))
  have hpl := pk_len (l := s.data.toList) 0 0 (Nat.le_refl _) (Nat.zero_le _)
  have hpl' : (M.packT s.data.toList).length ≤ s.size := by have h1 : (M.packT s.data.toList).length ≤ s.data.toList.length - 0 := hpl; have := len_ s; omega
  have hfv : frmV (frm ((M.packT s.data.toList).map rt)) = .tuple #[.string (ba (M.pack s.data.toList)), .int .i64 0] := by rw [hfm]; rfl
  generalize M.packT s.data.toList = P at *
  generalize ba (M.pack s.data.toList) = PB at *
  have hml : (P.map rt).length = P.length := by simp
  generalize P.map rt = rs at *
  have CP := hid cp
  have HFV := hid hfv
  clear cp hfm hpl hfv
  go_enter Try.func11, Try.ntmps11
  go_wp2_with fail
  refine (CP.out _).mono ?_
  rintro e w1 ⟨v, rfl, ho, hb1⟩
  obtain ⟨a, cap, rfl, _, hT⟩ := OwnT.slice ho
  have cf := rform_any a cap rs w1 (by omega) hT
  rw [HFV.out] at cf
  have CF := hid cf
  have HB1 := hid hb1
  clear cf hT ho hb1
  have hml2 : rs.length = rs.length := rfl
  clear hml hml2
  go_wp2_with fail
  refine CF.out.mono ?_
  rintro e w2 ⟨rfl, hb2⟩
  have HB2 := hid (bel_bel HB1.out hb2 HB1.out.size)
  clear hb2
  go_wp2_with fail
  go_ret
  exact ⟨rfl, HB2.out⟩
/-- The texts of a slice, where they lie. -/
def Strs (w : World) (a : Option Addr) (ss : List ByteArray) : Prop := ss = [] ∨ ∃ b off, a = some ⟨b, off, none⟩ ∧ b < w.heap.size ∧ ∀ j, j < ss.length → w.cell? ⟨b, off + j, none⟩ = some (.string (ss.getD j ByteArray.empty))
theorem getD_in {ss : List ByteArray} {j : Nat} (h : j < ss.length) : ss.getD j ByteArray.empty ∈ ss := by
  rw [List.getD_eq_getElem?_getD, List.getElem?_eq_getElem h]; exact List.getElem_mem h
theorem held_of {w x : World} {b off : Nat} {v : Value} (h : b < w.heap.size ∧ w.cell? ⟨b, off, none⟩ = some v) (k : Below w.heap.size w x) : x.cell? ⟨b, off, none⟩ = some v ∧ Below w.heap.size w x :=
  ⟨(k.cell (p := ⟨b, off, none⟩) h.1).trans h.2, k⟩
set_option maxHeartbeats 4000000 in
set_option maxRecDepth 20000 in
theorem packs_walk (a : Option Addr) (cap : Nat) (ss : List ByteArray) (w : World) (hl : ss.length ≤ 9223372036854775807) (hz : ∀ s ∈ ss, s.size ≤ 1048576) (V : Strs w a ss) :
    Calls Try.prog 3 #[.slice a ss.length cap] w fun e w' => e = .returned (.bool true) ∧ Below w.heap.size w w' := by
  have HV := hid V
  have HZ := hid hz
  clear V hz
  go_enter Try.func3, Try.ntmps3
  go_wp2_with fail
  refine (fixed_any w).mono ?_
  rintro e w1 ⟨rfl, hb1⟩
  go_wp2_with fail
  go_loopg [3] ss.length (fun k u wr => ∃ j : Nat, j + k = ss.length ∧ u = .int .i64 j ∧ Below w.heap.size w wr)
  case atStart => exact ⟨0, by omega, rfl, hb1⟩
  case round =>
    clear hb1
    obtain ⟨j, hk, rfl, hb⟩ := hrel
    by_cases hlt : j < ss.length
    · obtain ⟨k, rfl⟩ : ∃ k, gk = k + 1 := ⟨gk - 1, by omega⟩
      rcases HV.out with rfl | ⟨b, off, rfl, hbl, hc⟩
      · simp at hlt
      have hcz := hc j hlt
      have hsz := HZ.out _ (getD_in hlt)
      generalize ss.getD j ByteArray.empty = s at *
      have HC : Hid (b < w.heap.size ∧ w.cell? ⟨b, off + j, none⟩ = some (.string s)) := ⟨hbl, hcz⟩
      have c1 := fun x (h : Below w.heap.size w x) => (pack_any s x (by omega)).mono (R' := fun e w' => e = .returned (.string (ba (M.pack s.data.toList))) ∧ Below w.heap.size w w') fun e w' ⟨he, k⟩ => ⟨he, bel_bel h k h.size⟩
      have c2 := fun x (h : Below w.heap.size w x) => (rpack_any s x (by omega)).mono (R' := fun e w' => e = .returned (.string (ba (M.pack s.data.toList))) ∧ Below w.heap.size w w') fun e w' ⟨he, k⟩ => ⟨he, bel_bel h k h.size⟩
      generalize ba (M.pack s.data.toList) = R1 at *
      have C1 := hid c1; have C2 := hid c2
      clear c1 c2 hc hcz hsz
      go_wp2_with fail
      go_region_held3 (fun x => x.cell? ⟨b, off + j, none⟩ = some (.string s) ∧ Below w.heap.size w x) (first | exact held_of HC.out (by assumption) | exact held_of HC.out (Below.drew (by assumption)) | exact held_of HC.out (Below.alloc (by assumption) (Below.size (by assumption)) _)) (first | (go_at_call 10; refine (C1.out _ ?_).mono ?_; (first | assumption | exact Below.drew (by assumption)); rintro e w' ⟨rfl, hbel⟩) | (go_at_call 11; refine (C2.out _ ?_).mono ?_; (first | assumption | exact Below.drew (by assumption)); rintro e w' ⟨rfl, hbel⟩))
      all_goals
        go_wp2_with fail
        go_roundg k
        case measure => omega
        case rel => exact ⟨j + 1, by omega, by first | rfl | simp, by assumption⟩
    · go_wp2_with fail
      go_ret
      exact ⟨rfl, hb⟩
end Go.Proofs.Ytdkfenmhfkggdaa
