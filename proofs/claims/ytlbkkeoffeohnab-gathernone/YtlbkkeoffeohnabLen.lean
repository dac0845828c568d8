import Derived.Test.YtlbkkeoffeohnabProg
import Derived.Lib.Strings
import Derived.Lib.Slices
import Derived.Lib.Small
import Derived.Lib.Walk
import Derived.Lib.BitFns
import Derived.Lib.ItoaNum
/- math/bits.Len64, as its own text computes it: how many halvings of its argument there are till nothing is left; the world stays as it was. -/
namespace Go.Proofs.Ytlbkkeoffeohnab
/-- The table's byte of what is left behind k bits, with k for these. -/
theorem len_cut (x y : Int) (k : Nat) (h0 : 0 ≤ x) (h1 : x ≤ 18446744073709551615) (hk : k = 0 ∨ 2 ^ k ≤ x.toNat) (hy : y.toNat = x.toNat / 2 ^ k) (hy0 : 0 ≤ y) (hy1 : y ≤ 255) :
    Lib.len8 y = (Lib.bitLen x.toNat : Int) - k ∧ Lib.bitLen y.toNat ≤ 8 := by
  refine ⟨?_, Lib.bitLen_le8' y hy0 hy1⟩
  rw [Lib.len8_of y hy0 hy1, hy]
  rcases hk with rfl | hk
  · simp
  · rw [Lib.bitLen_shift k x.toNat hk (by omega)]; omega
set_option maxHeartbeats 4000000 in
set_option maxRecDepth 100000 in
theorem len64_any (x : Int) (w : World) (h0 : 0 ≤ x) (h1 : x ≤ 18446744073709551615) :
    Calls Try.prog 46 #[.int .u64 x] w fun e w' => e = .returned (.int .i64 (Lib.bitLen x.toNat)) ∧ w' = w := by
  have hb := Lib.bitLen_le x.toNat 64 (by omega) (by omega)
  go_enter Try.func46, Try.ntmps46
  go_wp2
  all_goals (go_ret; refine ⟨congrArg Ending.returned (congrArg (Value.int IntKind.i64) ?_), rfl⟩)
  · have c := len_cut x (x / 4294967296 / 65536 / 256 % 256) 56 h0 h1 (by omega) (by omega) (by omega) (by omega)
    rw [c.1]; omega
  · have c := len_cut x (x / 4294967296 / 65536 % 256) 48 h0 h1 (by omega) (by omega) (by omega) (by omega)
    rw [c.1]; omega
  · have c := len_cut x (x / 4294967296 / 256 % 256) 40 h0 h1 (by omega) (by omega) (by omega) (by omega)
    rw [c.1]; omega
  · have c := len_cut x (x / 4294967296 % 256) 32 h0 h1 (by omega) (by omega) (by omega) (by omega)
    rw [c.1]; omega
  · have c := len_cut x (x / 65536 / 256 % 256) 24 h0 h1 (by omega) (by omega) (by omega) (by omega)
    rw [c.1]; omega
  · have c := len_cut x (x / 65536 % 256) 16 h0 h1 (by omega) (by omega) (by omega) (by omega)
    rw [c.1]; omega
  · have c := len_cut x (x / 256 % 256) 8 h0 h1 (by omega) (by omega) (by omega) (by omega)
    rw [c.1]; omega
  · have c := len_cut x (x % 256) 0 h0 h1 (by omega) (by omega) (by omega) (by omega)
    rw [c.1]; omega
end Go.Proofs.Ytlbkkeoffeohnab
