/- CrcSums' walk: every Sum and More is the document's; nothing that was there before is turned. -/
import Derived.Test.YtohpjbhjcgihkaaRef
import Derived.Deep.RegionHeld3
namespace Go.Proofs.Ytohpjbhjcgihkaa
open Go.RowKit
theorem hid {p : Prop} (h : p) : Hid p := h
/-- The texts of a slice, where they lie. -/
def Strs (w : World) (a : Option Addr) (ss : List ByteArray) : Prop := ss = [] ∨ ∃ b off, a = some ⟨b, off, none⟩ ∧ b < w.heap.size ∧ ∀ j, j < ss.length → w.cell? ⟨b, off + j, none⟩ = some (.string (ss.getD j ByteArray.empty))
theorem getD_in {ss : List ByteArray} {j : Nat} (h : j < ss.length) : ss.getD j ByteArray.empty ∈ ss := by
  rw [List.getD_eq_getElem?_getD, List.getElem?_eq_getElem h]; exact List.getElem_mem h
theorem held_of {w x : World} {b off : Nat} {v : Value} (h : b < w.heap.size ∧ w.cell? ⟨b, off, none⟩ = some v) (k : Below w.heap.size w x) : x.cell? ⟨b, off, none⟩ = some v ∧ Below w.heap.size w x :=
  ⟨(k.cell (p := ⟨b, off, none⟩) h.1).trans h.2, k⟩
set_option maxHeartbeats 4000000 in
set_option maxRecDepth 20000 in
theorem sums_walk (a : Option Addr) (cap : Nat) (ss : List ByteArray) (sum : Nat) (w : World) (hsum : sum < 4294967296) (hl : ss.length ≤ 9223372036854775807) (hz : ∀ s ∈ ss, s.size ≤ 9223372036854775807) (V : Strs w a ss) :
    Calls Try.prog 3 #[.slice a ss.length cap, .int .u32 sum] w fun e w' => e = .returned (.bool true) ∧ Below w.heap.size w w' := by
  have HV : Hid (Strs w a ss) := V
  have HZ : Hid (∀ s ∈ ss, s.size ≤ 9223372036854775807) := hz
  clear V hz
  go_enter Try.func3, Try.ntmps3
  go_wp2_with fail
  refine (awake_any w).mono ?_
  rintro e w1 ⟨rfl, hb1⟩
  go_wp2_with fail
  go_loopg [5] ss.length (fun k u wr => ∃ j : Nat, j + k = ss.length ∧ u = .int .i64 j ∧ Below w.heap.size w wr)
  case atStart => exact ⟨0, by omega, rfl, hb1⟩
  case round =>
    clear hb1
    obtain ⟨j, hk, rfl, hb⟩ := hrel
    by_cases hlt : j < ss.length
    · obtain ⟨k, rfl⟩ : ∃ k, gk = k + 1 := ⟨gk - 1, by omega⟩
      rcases HV.out with rfl | ⟨b, off, rfl, hbl, hc⟩
      · simp at hlt
      have hcz := hc j hlt
      have hsz := HZ.out _ (getD_in hlt)
      generalize ss.getD j ByteArray.empty = s at *
      have HC : Hid (b < w.heap.size ∧ w.cell? ⟨b, off + j, none⟩ = some (.string s)) := ⟨hbl, hcz⟩
      have c1 := fun x (h : Below w.heap.size w x) => (sum_any s x hsz).mono (R' := fun e w' => e = .returned (.int .u32 (M.more 0 s.data.toList : Nat)) ∧ Below w.heap.size w w') fun e w' ⟨he, k⟩ => ⟨he, bel_bel h k h.size⟩
      have c2 := fun x => rsum_any s x hsz
      have c3 := fun x (h : Below w.heap.size w x) => (more_any sum s x hsum hsz).mono (R' := fun e w' => e = .returned (.int .u32 (M.more sum s.data.toList : Nat)) ∧ Below w.heap.size w w') fun e w' ⟨he, k⟩ => ⟨he, bel_bel h k h.size⟩
      have c4 := fun x => rmore_any sum s x hsum hsz
      generalize M.more 0 s.data.toList = R1 at *
      generalize M.more sum s.data.toList = R2 at *
      have C1 := hid c1; have C2 := hid c2; have C3 := hid c3; have C4 := hid c4
      clear c1 c2 c3 c4 hc hcz hsz
      go_wp2_with fail
      go_region_held3 (fun x => x.cell? ⟨b, off + j, none⟩ = some (.string s) ∧ Below w.heap.size w x) (first | exact held_of HC.out (by assumption) | exact held_of HC.out (Below.drew (by assumption)) | exact held_of HC.out (Below.alloc (by assumption) (Below.size (by assumption)) _)) (first | (go_at_call 10; refine (C1.out _ ?_).mono ?_; (first | assumption | exact Below.drew (by assumption)); rintro e w' ⟨rfl, hbel⟩) | (go_at_call 11; refine (C2.out _).mono ?_; rintro e w' ⟨rfl, rfl⟩) | (go_at_call 12; refine (C3.out _ ?_).mono ?_; (first | assumption | exact Below.drew (by assumption)); rintro e w' ⟨rfl, hbel⟩) | (go_at_call 13; refine (C4.out _).mono ?_; rintro e w' ⟨rfl, rfl⟩))
      go_wp2_with fail
      go_roundg k
      case measure => omega
      case rel => exact ⟨j + 1, by omega, by first | rfl | simp, by assumption⟩
    · go_wp2_with fail
      go_ret
      exact ⟨rfl, hb⟩
theorem sums_walkZ (a : Option Addr) (cap : Nat) (ss : List ByteArray) (sum : Int) (w : World) (h1 : 0 ≤ sum) (h2 : sum ≤ 4294967295) (hl : ss.length ≤ 9223372036854775807) (hz : ∀ s ∈ ss, s.size ≤ 9223372036854775807) (V : Strs w a ss) :
    Calls Try.prog 3 #[.slice a ss.length cap, .int .u32 sum] w fun e w' => e = .returned (.bool true) ∧ Below w.heap.size w w' := by
  obtain ⟨S, rfl⟩ := Int.eq_ofNat_of_zero_le h1
  exact sums_walk a cap ss S w (by omega) hl hz V
end Go.Proofs.Ytohpjbhjcgihkaa
