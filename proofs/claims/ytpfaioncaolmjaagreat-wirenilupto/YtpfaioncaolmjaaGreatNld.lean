/- What a reader's calls answer upon nil. -/
import Derived.Test.YtpfaioncaolmjaaGreatNlb
import Derived.Test.YtpfaioncaolmjaaGreatRmA
import Derived.Test.YtpfaioncaolmjaaGreatRmB
namespace Go.Proofs.YtpfaioncaolmjaaGreat
open Go.RowKit
/-- What a call of a nil reader answers; nothing that was there has turned. -/
def NAns (v : Value) (e' : Nat) (w : World) (e : Ending) (w' : World) : Prop := e = .returned (.tuple #[v, .int .i64 e']) ∧ Below w.heap.size w w'
theorem nil_sz : (⟨#[]⟩ : ByteArray).size ≤ 9223372036854775807 := Nat.zero_le _
theorem nil_rde : ¬ rde (tl ⟨#[]⟩ 0) = 0 := by
  first
    | decide
    | simp [rde, tl, bl, M.rd]
set_option maxHeartbeats 1000000 in
set_option maxRecDepth 20000 in
theorem nilu8_any (w : World) :
    Calls Tryz.prog 29 #[.pointer none] w (NAns (.int .u8 ((fx 1 ⟨#[]⟩ 0 0).1 : Int)) (fx 1 ⟨#[]⟩ 0 0).2.2 w) := by
  rw [fx_short (n := 1) (s := ⟨#[]⟩) (k := 0) (by show ¬ 0 + 1 ≤ 0; omega)]
  dsimp only
  have ha := nil_quit_u8 20 81 #[] w cU8_in (fun w1 hb hr => by simpa using cU8_short _ ⟨#[]⟩ 0 w1 hr (Nat.zero_le _) nil_sz (by show ¬ 0 + 1 ≤ 0; omega))
  go_enter Tryz.func29, Tryz.ntmps29
  go_wp2_with (go_at_call 80; refine ha.mono ?_; rintro e w' ⟨rfl, hch⟩)
  go_ret2
  exact ⟨rfl, hch⟩
set_option maxHeartbeats 1000000 in
set_option maxRecDepth 20000 in
theorem nilu16_any (w : World) :
    Calls Tryz.prog 50 #[.pointer none] w (NAns (.int .u16 ((fx 2 ⟨#[]⟩ 0 0).1 : Int)) (fx 2 ⟨#[]⟩ 0 0).2.2 w) := by
  rw [fx_short (n := 2) (s := ⟨#[]⟩) (k := 0) (by show ¬ 0 + 2 ≤ 0; omega)]
  dsimp only
  have ha := nil_quit_u16 20 87 #[] w cU16_in (fun w1 hb hr => by simpa using cU16_short _ ⟨#[]⟩ 0 w1 hr (Nat.zero_le _) nil_sz (by show ¬ 0 + 2 ≤ 0; omega))
  go_enter Tryz.func50, Tryz.ntmps50
  go_wp2_with (go_at_call 86; refine ha.mono ?_; rintro e w' ⟨rfl, hch⟩)
  go_ret2
  exact ⟨rfl, hch⟩
set_option maxHeartbeats 1000000 in
set_option maxRecDepth 20000 in
theorem nilu32_any (w : World) :
    Calls Tryz.prog 51 #[.pointer none] w (NAns (.int .u32 ((fx 4 ⟨#[]⟩ 0 0).1 : Int)) (fx 4 ⟨#[]⟩ 0 0).2.2 w) := by
  rw [fx_short (n := 4) (s := ⟨#[]⟩) (k := 0) (by show ¬ 0 + 4 ≤ 0; omega)]
  dsimp only
  have ha := nil_quit_u32 20 89 #[] w cU32_in (fun w1 hb hr => by simpa using cU32_short _ ⟨#[]⟩ 0 w1 hr (Nat.zero_le _) nil_sz (by show ¬ 0 + 4 ≤ 0; omega))
  go_enter Tryz.func51, Tryz.ntmps51
  go_wp2_with (go_at_call 88; refine ha.mono ?_; rintro e w' ⟨rfl, hch⟩)
  go_ret2
  exact ⟨rfl, hch⟩
set_option maxHeartbeats 1000000 in
set_option maxRecDepth 20000 in
theorem nilu64_any (w : World) :
    Calls Tryz.prog 17 #[.pointer none] w (NAns (.int .u64 ((fx 8 ⟨#[]⟩ 0 0).1 : Int)) (fx 8 ⟨#[]⟩ 0 0).2.2 w) := by
  rw [fx_short (n := 8) (s := ⟨#[]⟩) (k := 0) (by show ¬ 0 + 8 ≤ 0; omega)]
  dsimp only
  have ha := nil_quit_u64 20 62 #[] w cU64_in (fun w1 hb hr => by simpa using cU64_short _ ⟨#[]⟩ 0 w1 hr (Nat.zero_le _) nil_sz (by show ¬ 0 + 8 ≤ 0; omega))
  go_enter Tryz.func17, Tryz.ntmps17
  go_wp2_with (go_at_call 61; refine ha.mono ?_; rintro e w' ⟨rfl, hch⟩)
  go_ret2
  exact ⟨rfl, hch⟩
set_option maxHeartbeats 1000000 in
set_option maxRecDepth 20000 in
theorem nili32_any (w : World) :
    Calls Tryz.prog 52 #[.pointer none] w (NAns (.int .i32 (wrap32 ((fx 4 ⟨#[]⟩ 0 0).1 : Int))) (fx 4 ⟨#[]⟩ 0 0).2.2 w) := by
  rw [fx_short (n := 4) (s := ⟨#[]⟩) (k := 0) (by show ¬ 0 + 4 ≤ 0; omega)]
  dsimp only
  rw [show wrap32 ((0 : Nat) : Int) = 0 by unfold wrap32; omega]
  have ha := nil_quit_i32 20 91 #[] w cI32_in (fun w1 hb hr => by simpa using cI32_short _ ⟨#[]⟩ 0 w1 hr (Nat.zero_le _) nil_sz (by show ¬ 0 + 4 ≤ 0; omega))
  go_enter Tryz.func52, Tryz.ntmps52
  go_wp2_with (go_at_call 90; refine ha.mono ?_; rintro e w' ⟨rfl, hch⟩)
  go_ret2
  exact ⟨rfl, hch⟩
set_option maxHeartbeats 1000000 in
set_option maxRecDepth 20000 in
theorem nili64_any (w : World) :
    Calls Tryz.prog 53 #[.pointer none] w (NAns (.int .i64 (wrap64 ((fx 8 ⟨#[]⟩ 0 0).1 : Int))) (fx 8 ⟨#[]⟩ 0 0).2.2 w) := by
  rw [fx_short (n := 8) (s := ⟨#[]⟩) (k := 0) (by show ¬ 0 + 8 ≤ 0; omega)]
  dsimp only
  rw [show wrap64 ((0 : Nat) : Int) = 0 by unfold wrap64; omega]
  have ha := nil_quit_i64 20 93 #[] w cI64_in (fun w1 hb hr => by simpa using cI64_short _ ⟨#[]⟩ 0 w1 hr (Nat.zero_le _) nil_sz (by show ¬ 0 + 8 ≤ 0; omega))
  go_enter Tryz.func53, Tryz.ntmps53
  go_wp2_with (go_at_call 92; refine ha.mono ?_; rintro e w' ⟨rfl, hch⟩)
  go_ret2
  exact ⟨rfl, hch⟩
end Go.Proofs.YtpfaioncaolmjaaGreat
