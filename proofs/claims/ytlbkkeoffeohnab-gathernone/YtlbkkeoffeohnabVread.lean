import Derived.Test.YtlbkkeoffeohnabRows
import Derived.Test.YtlbkkeoffeohnabMath
import Derived.WalkKit
import Derived.WalkSpells
import Derived.WalkLawsBesides
/- What layer 1's calls answer, as layer 2 uses them: zigzag, the forms written and read, of the program and of the document's answer. -/
namespace Go.Proofs.Ytlbkkeoffeohnab
open Go.RowKit
theorem ret_int {k : IntKind} {a b : Int} (h : a = b) : Ending.returned (.int k a) = .returned (.int k b) := by rw [h]
theorem zz_any (v : Int) (w : World) (h1 : -9223372036854775808 ≤ v) (h2 : v ≤ 9223372036854775807) :
    Calls Try.prog 44 #[.int .i64 v] w fun e w' => e = .returned (.int .u64 (M.zz v)) ∧ w' = w := by
  go_enter Try.func44, Try.ntmps44
  go_wp2
  go_ret
  exact ⟨ret_int (M.zz_code h1 h2), rfl⟩
/-- The bytes of a text, as numbers. -/
def bl (s : ByteArray) : List Nat := s.data.toList.map UInt8.toNat
theorem bl_len (s : ByteArray) : (bl s).length = s.size := by simp [bl]
def rdv (s : ByteArray) : Nat := (M.rd 0 0 (bl s)).1
def rdn (s : ByteArray) : Nat := (M.rd 0 0 (bl s)).2.1
def rde (s : ByteArray) : Nat := (M.rd 0 0 (bl s)).2.2
end Go.Proofs.Ytlbkkeoffeohnab
