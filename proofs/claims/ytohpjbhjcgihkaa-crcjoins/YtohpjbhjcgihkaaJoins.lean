/- CrcJoins' walk: every Join and Behind is the document's; nothing that was there before is turned. -/
import Derived.Test.YtohpjbhjcgihkaaZer
namespace Go.Proofs.Ytohpjbhjcgihkaa
open Go.RowKit
set_option maxHeartbeats 4000000 in
set_option maxRecDepth 20000 in
theorem joins_walk (a b : Nat) (n : Int) (w : World) (ha : a < 4294967296) (hb : b < 4294967296) (h1 : -9223372036854775808 ≤ n) (h2 : n ≤ 9223372036854775807) :
    Calls Try.prog 4 #[.int .u32 a, .int .u32 b, .int .i64 n] w fun e w' => e = .returned (.bool true) ∧ Below w.heap.size w w' := by
  have c1 := fun v => join_any a b n v ha hb h1 h2
  have c2 := fun v => rjoin_any a b n v ha hb h1 h2
  have c3 := fun v => behind_any a b n v ha hb h1 h2
  have c4 := fun v => rbehind_any a b n v ha hb h1 h2
  generalize M.join a b n.toNat = R at *
  go_enter Try.func4, Try.ntmps4
  go_wp2_with fail
  refine (awake_any w).mono ?_
  rintro e w1 ⟨rfl, hb1⟩
  go_wp2_with fail
  refine (c1 w1).mono ?_
  rintro e w2 ⟨rfl, k2⟩
  have hb2 := bel_bel hb1 k2 hb1.size
  clear k2 hb1
  go_wp2_with fail
  refine (c2 w2).mono ?_
  rintro e w3 ⟨rfl, k3⟩
  have hb3 := bel_bel hb2 k3 hb2.size
  clear k3 hb2
  go_wp2_with fail
  refine (c3 w3).mono ?_
  rintro e w4 ⟨rfl, k4⟩
  have hb4 := bel_bel hb3 k4 hb3.size
  clear k4 hb3
  go_wp2_with fail
  refine (c4 w4).mono ?_
  rintro e w5 ⟨rfl, k5⟩
  have hb5 := bel_bel hb4 k5 hb4.size
  clear k5 hb4
  go_wp2_with fail
  go_ret
  exact ⟨rfl, hb5⟩
theorem joins_walkZ (a b n : Int) (w : World) (h1 : 0 ≤ a) (h2 : a ≤ 4294967295) (h3 : 0 ≤ b) (h4 : b ≤ 4294967295) (h5 : -9223372036854775808 ≤ n) (h6 : n ≤ 9223372036854775807) :
    Calls Try.prog 4 #[.int .u32 a, .int .u32 b, .int .i64 n] w fun e w' => e = .returned (.bool true) ∧ Below w.heap.size w w' := by
  obtain ⟨A, rfl⟩ := Int.eq_ofNat_of_zero_le h1
  obtain ⟨B, rfl⟩ := Int.eq_ofNat_of_zero_le h3
  exact joins_walk A B n w (by omega) (by omega) h5 h6
end Go.Proofs.Ytohpjbhjcgihkaa
