/- math/bits.Len64, as its own text computes it: how many halvings of its argument there are till nothing is left; the world stays as it was. -/
import Derived.Test.YtpfaioncaolmjaaGreatProg
import Derived.Lib.Strings
import Derived.Lib.Slices
import Derived.Lib.Small
import Derived.Lib.Walk
import Derived.Lib.BitFns
import Derived.Lib.ItoaNum
namespace Go.Proofs.YtpfaioncaolmjaaGreat
/-- The table's byte of what is left behind k bits, with k for these. -/
theorem len_cut (x y : Int) (k : Nat) (h0 : 0 ≤ x) (h1 : x ≤ 18446744073709551615) (hk : k = 0 ∨ 2 ^ k ≤ x.toNat) (hy : y.toNat = x.toNat / 2 ^ k) (hy0 : 0 ≤ y) (hy1 : y ≤ 255) :
    Lib.len8 y = (Lib.bitLen x.toNat : Int) - k ∧ Lib.bitLen y.toNat ≤ 8 := by
  refine ⟨?_, Lib.bitLen_le8' y hy0 hy1⟩
  rw [Lib.len8_of y hy0 hy1, hy]
  rcases hk with rfl | hk
  · simp
  · rw [Lib.bitLen_shift k x.toNat hk (by omega)]; omega
end Go.Proofs.YtpfaioncaolmjaaGreat
