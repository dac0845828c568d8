/- strings.Clone: the library's own contract, laid at this program. -/
import Derived.Test.YthjbhfhdepepmabDop
import Derived.Shelf.LaysM
import Derived.Shelf.Strconv.Clone
namespace Go.Proofs
def Ythjbhfhdepepmab.cren : Go.Shelf.Ren := ⟨fun | 316 => 55 | n => n, fun | 37 => 63 | 127 => 108 | n => n, fun n => n⟩
theorem Ythjbhfhdepepmab.clays : LaysM.n316 Try.prog Ythjbhfhdepepmab.cren := {
  mixed := by kernel_rfl,
  f316 := Try.func55.trans (congrArg some (by kernel_rfl)),
  t0 := Try.underlying0,
  a0 := Try.isAgg0,
  z0 := Try.sizeOf0,
  v0 := Try.zeroValue0,
  t3 := Try.underlying3,
  a3 := Try.isAgg3,
  z3 := Try.sizeOf3,
  v3 := Try.zeroValue3,
  t4 := Try.underlying4,
  a4 := Try.isAgg4,
  z4 := Try.sizeOf4,
  v4 := Try.zeroValue4,
  t9 := Try.underlying9,
  a9 := Try.isAgg9,
  z9 := Try.sizeOf9,
  v9 := Try.zeroValue9,
  t37 := Try.underlying63,
  a37 := Try.isAgg63,
  z37 := Try.sizeOf63,
  v37 := Try.zeroValue63,
  t127 := Try.underlying108,
  a127 := Try.isAgg108,
  z127 := Try.sizeOf108,
  v127 := Try.zeroValue108,
  t5 := Try.underlying5,
  a5 := Try.isAgg5,
  z5 := Try.sizeOf5,
  v5 := Try.zeroValue5,
  i0 := by kernel_rfl,
  i3 := by kernel_rfl,
  i4 := by kernel_rfl,
  i5 := by kernel_rfl,
  i9 := by kernel_rfl,
  i37 := by kernel_rfl,
  i127 := by kernel_rfl }
namespace Ythjbhfhdepepmab
open Go.RowKit
theorem sclone_any (s : ByteArray) (w : World) (h : s.size ≤ 281474976710656) : Calls Try.prog 55 #[.string s] w fun e w' => e = .returned (.string s) ∧ Below w.heap.size w w' := Any.stringslite_Clone Ythjbhfhdepepmab.clays s w h
theorem clone_any (s : ByteArray) (w : World) (h : s.size ≤ 281474976710656) : Calls Try.prog 42 #[.string s] w fun e w' => e = .returned (.string s) ∧ Below w.heap.size w w' := by
  have HC := Hid.mk (sclone_any s w h)
  clear h
  go_enter Try.func42, Try.ntmps42
  go_wp2_with (go_at_call 55; refine HC.out.mono ?_; rintro e w' ⟨rfl, hb⟩)
  go_ret
  exact ⟨rfl, hb⟩
end Ythjbhfhdepepmab
end Go.Proofs
