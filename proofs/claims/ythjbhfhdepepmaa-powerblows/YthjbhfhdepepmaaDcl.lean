/- strings.Clone: the library's own contract, laid at this program. -/
import Derived.Test.YthjbhfhdepepmaaDop
import Derived.Shelf.LaysM
import Derived.Shelf.Strconv.Clone
namespace Go.Proofs
def Ythjbhfhdepepmaa.cren : Go.Shelf.Ren := ⟨fun | 316 => 82 | n => n, fun | 37 => 81 | 127 => 127 | n => n, fun n => n⟩
theorem Ythjbhfhdepepmaa.clays : LaysM.n316 Try.prog Ythjbhfhdepepmaa.cren := {
  mixed := by kernel_rfl,
  f316 := Try.func82.trans (congrArg some (by kernel_rfl)),
  t0 := Try.underlying0,
  a0 := Try.isAgg0,
  z0 := Try.sizeOf0,
  v0 := Try.zeroValue0,
  t3 := Try.underlying3,
  a3 := Try.isAgg3,
  z3 := Try.sizeOf3,
  v3 := Try.zeroValue3,
  t4 := Try.underlying4,
  a4 := Try.isAgg4,
  z4 := Try.sizeOf4,
  v4 := Try.zeroValue4,
  t9 := Try.underlying9,
  a9 := Try.isAgg9,
  z9 := Try.sizeOf9,
  v9 := Try.zeroValue9,
  t37 := Try.underlying81,
  a37 := Try.isAgg81,
  z37 := Try.sizeOf81,
  v37 := Try.zeroValue81,
  t127 := Try.underlying127,
  a127 := Try.isAgg127,
  z127 := Try.sizeOf127,
  v127 := Try.zeroValue127,
  t5 := Try.underlying5,
  a5 := Try.isAgg5,
  z5 := Try.sizeOf5,
  v5 := Try.zeroValue5,
  i0 := by kernel_rfl,
  i3 := by kernel_rfl,
  i4 := by kernel_rfl,
  i5 := by kernel_rfl,
  i9 := by kernel_rfl,
  i37 := by kernel_rfl,
  i127 := by kernel_rfl }
namespace Ythjbhfhdepepmaa
open Go.RowKit
theorem sclone_any (s : ByteArray) (w : World) (h : s.size ≤ 281474976710656) : Calls Try.prog 82 #[.string s] w fun e w' => e = .returned (.string s) ∧ Below w.heap.size w w' := Any.stringslite_Clone Ythjbhfhdepepmaa.clays s w h
theorem clone_any (s : ByteArray) (w : World) (h : s.size ≤ 281474976710656) : Calls Try.prog 67 #[.string s] w fun e w' => e = .returned (.string s) ∧ Below w.heap.size w w' := by
  have HC := Hid.mk (sclone_any s w h)
  clear h
  go_enter Try.func67, Try.ntmps67
  go_wp2_with (go_at_call 82; refine HC.out.mono ?_; rintro e w' ⟨rfl, hb⟩)
  go_ret
  exact ⟨rfl, hb⟩
end Ythjbhfhdepepmaa
end Go.Proofs
