/- Texts of the proof, put together: Brb. -/
import Derived.Test.YtajmcnlbkdfloaaGreatMB7
import Derived.Test.YtajmcnlbkdfloaaGreatMBX
namespace Go.Proofs.YtajmcnlbkdfloaaGreat
open Go.RowKit
set_option maxHeartbeats 1000000 in
set_option maxRecDepth 20000 in
theorem rebases_walk (s : ByteArray) (base : Int) (w : World) (hs : s.size ≤ 9223372036854775000) :
    Calls Tryz.prog 5 #[.string s, .int .i64 base] w fun e w' => e = .returned (.bool true) ∧ Below w.heap.size w w' := by
  have CA := hid (fun w => awake6_any w)
  have CR := hid (fun w => rebase_any s base w hs)
  have CX := hid (fun w => xrebase_any s base w hs)
  generalize rbt s base = T at *
  generalize rbe s base = E at *
  go_enter Tryz.func5, Tryz.ntmps5
  go_wp2_with fail
  refine (CA.out _).mono ?_
  rintro e w1 ⟨rfl, b1⟩
  go_wp2_with fail
  refine (CR.out _).mono ?_
  rintro e w2 ⟨rfl, b2⟩
  have HB2 := hid (b1.trans (b2.mono b1.size))
  clear b1 b2
  go_wp2_with fail
  refine (CX.out _).mono ?_
  rintro e w3 ⟨rfl, b3⟩
  have HB3 := hid (HB2.out.trans (b3.mono HB2.out.size))
  clear b3
  go_wp2_with fail
  go_ret
  exact ⟨by simp, HB3.out⟩
end Go.Proofs.YtajmcnlbkdfloaaGreat
