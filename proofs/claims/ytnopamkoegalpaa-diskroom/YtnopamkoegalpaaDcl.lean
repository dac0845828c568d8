/- strings.Clone: the library's own contract, laid at this program. -/
import Derived.Test.YtnopamkoegalpaaDop
import Derived.Shelf.LaysM
import Derived.Shelf.Strconv.Clone
namespace Go.Proofs
def Ytnopamkoegalpaa.cren : Go.Shelf.Ren := ⟨fun | 316 => 59 | n => n, fun | 37 => 36 | 127 => 88 | n => n, fun n => n⟩
theorem Ytnopamkoegalpaa.clays : LaysM.n316 Try.prog Ytnopamkoegalpaa.cren := {
  mixed := by kernel_rfl,
  f316 := Try.func59.trans (congrArg some (by kernel_rfl)),
  t0 := Try.underlying0,
  a0 := Try.isAgg0,
  z0 := Try.sizeOf0,
  v0 := Try.zeroValue0,
  t3 := Try.underlying3,
  a3 := Try.isAgg3,
  z3 := Try.sizeOf3,
  v3 := Try.zeroValue3,
  t4 := Try.underlying4,
  a4 := Try.isAgg4,
  z4 := Try.sizeOf4,
  v4 := Try.zeroValue4,
  t9 := Try.underlying9,
  a9 := Try.isAgg9,
  z9 := Try.sizeOf9,
  v9 := Try.zeroValue9,
  t37 := Try.underlying36,
  a37 := Try.isAgg36,
  z37 := Try.sizeOf36,
  v37 := Try.zeroValue36,
  t127 := Try.underlying88,
  a127 := Try.isAgg88,
  z127 := Try.sizeOf88,
  v127 := Try.zeroValue88,
  t5 := Try.underlying5,
  a5 := Try.isAgg5,
  z5 := Try.sizeOf5,
  v5 := Try.zeroValue5,
  i0 := by kernel_rfl,
  i3 := by kernel_rfl,
  i4 := by kernel_rfl,
  i5 := by kernel_rfl,
  i9 := by kernel_rfl,
  i37 := by kernel_rfl,
  i127 := by kernel_rfl }
namespace Ytnopamkoegalpaa
open Go.RowKit
theorem sclone_any (s : ByteArray) (w : World) (h : s.size ≤ 281474976710656) : Calls Try.prog 59 #[.string s] w fun e w' => e = .returned (.string s) ∧ Below w.heap.size w w' := Any.stringslite_Clone Ytnopamkoegalpaa.clays s w h
theorem clone_any (s : ByteArray) (w : World) (h : s.size ≤ 281474976710656) : Calls Try.prog 47 #[.string s] w fun e w' => e = .returned (.string s) ∧ Below w.heap.size w w' := by
  have HC := Hid.mk (sclone_any s w h)
  clear h
  go_enter Try.func47, Try.ntmps47
  go_wp2_with (go_at_call 59; refine HC.out.mono ?_; rintro e w' ⟨rfl, hb⟩)
  go_ret
  exact ⟨rfl, hb⟩
end Ytnopamkoegalpaa
end Go.Proofs
