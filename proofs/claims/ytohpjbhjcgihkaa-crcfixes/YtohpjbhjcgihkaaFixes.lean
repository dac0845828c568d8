/- CrcFixes' walk: every Fix is the document's; nothing that was there before is turned. -/
import Derived.Test.YtohpjbhjcgihkaaRef
namespace Go.Proofs.Ytohpjbhjcgihkaa
open Go.RowKit
set_option maxHeartbeats 4000000 in
set_option maxRecDepth 20000 in
theorem fixes_walk (s t : Nat) (w : World) (hs : s < 4294967296) (ht : t < 4294967296) :
    Calls Try.prog 5 #[.int .u32 s, .int .u32 t] w fun e w' => e = .returned (.bool true) ∧ Below w.heap.size w w' := by
  have cF := fun v => fix_any s t v hs ht
  have cR := fun v => rfix_any s t v hs ht
  generalize ByteArray.mk (M.four (M.need s t)).toArray = z at *
  go_enter Try.func5, Try.ntmps5
  go_wp2_with fail
  refine (awake_any w).mono ?_
  rintro e w1 ⟨rfl, hb1⟩
  go_wp2_with fail
  refine (cF w1).mono ?_
  rintro e w2 ⟨rfl, k2⟩
  have hb2 := bel_bel hb1 k2 hb1.size
  clear k2 hb1
  go_wp2_with fail
  refine (cR w2).mono ?_
  rintro e w3 ⟨rfl, k3⟩
  have hb3 := bel_bel hb2 k3 hb2.size
  clear k3 hb2
  go_wp2_with fail
  go_ret
  exact ⟨by simp, hb3⟩
theorem fixes_walkZ (s t : Int) (w : World) (h1 : 0 ≤ s) (h2 : s ≤ 4294967295) (h3 : 0 ≤ t) (h4 : t ≤ 4294967295) :
    Calls Try.prog 5 #[.int .u32 s, .int .u32 t] w fun e w' => e = .returned (.bool true) ∧ Below w.heap.size w w' := by
  obtain ⟨S, rfl⟩ := Int.eq_ofNat_of_zero_le h1
  obtain ⟨T, rfl⟩ := Int.eq_ofNat_of_zero_le h3
  exact fixes_walk S T w (by omega) (by omega)
end Go.Proofs.Ytohpjbhjcgihkaa
