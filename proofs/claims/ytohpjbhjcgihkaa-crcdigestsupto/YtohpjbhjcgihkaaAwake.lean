/- The statements' first test, of answers that the document fixes, comes out true; nothing that was there before is turned. -/
import Derived.Test.YtohpjbhjcgihkaaIdx
namespace Go.Proofs.Ytohpjbhjcgihkaa
open Go.RowKit
theorem s4 : M.more 0 [49, 50, 51, 52] = 4131058926 := by kernel_rfl
theorem s5 : M.more 0 [53, 54, 55, 56, 57] = 2209703384 := by kernel_rfl
theorem s9 : M.more 0 [49, 50, 51, 52, 53, 54, 55, 56, 57] = 3808858755 := by kernel_rfl
theorem s45 : M.more 4131058926 [53, 54, 55, 56, 57] = 3808858755 := by kernel_rfl
theorem j45 : M.join 4131058926 2209703384 5 = 3808858755 := by kernel_rfl
theorem t1 : M.mvN 8 1 = 4067132163 := by kernel_rfl
set_option maxHeartbeats 4000000 in
set_option maxRecDepth 20000 in
theorem awake_any (w : World) :
    Calls Try.prog 9 #[] w fun e w' => e = .returned (.bool true) ∧ Below w.heap.size w w' := by
  go_enter Try.func9, Try.ntmps9
  go_wp2_with fail
  refine (new_any _).mono ?_
  rintro e w1 ⟨rfl, hD, hb1⟩
  have hsz := hb1.size
  have cW := write_any _ _ _ ⟨#[49, 50, 51, 52]⟩ _ hD (by omega) (show 0 + 4 ≤ _ by omega)
  rw [show M.more 0 (ByteArray.mk #[49, 50, 51, 52]).data.toList = 4131058926 from s4, show (ByteArray.mk #[49, 50, 51, 52]).size = 4 from rfl] at cW
  clear hD
  go_wp2_with fail
  refine cW.mono ?_
  rintro e w2 ⟨rfl, hD2, hc2⟩
  have hb2 := ch_bel hb1 hc2 hb1.size (fun i hi h => by omega)
  clear cW hc2 hb1 hsz
  have cW := write_any _ _ _ ⟨#[53, 54, 55, 56, 57]⟩ _ hD2 (by omega) (show 0 + 4 + 5 ≤ _ by omega)
  rw [show M.more 4131058926 (ByteArray.mk #[53, 54, 55, 56, 57]).data.toList = 3808858755 from s45, show (ByteArray.mk #[53, 54, 55, 56, 57]).size = 5 from rfl] at cW
  clear hD2
  go_wp2_with fail
  refine cW.mono ?_
  rintro e w3 ⟨rfl, hD3, hc3⟩
  have hb3 := ch_bel hb2 hc3 hb2.size (fun i hi h => by omega)
  clear cW hc3 hb2
  have cS := dsum_any _ _ _ _ hD3
  have cL := dlen_any _ _ _ _ hD3
  clear hD3
  go_wp2_with fail
  refine cS.mono ?_
  rintro e w4 ⟨rfl, rfl⟩
  clear cS
  go_wp2_with fail
  refine cL.mono ?_
  rintro e w5 ⟨rfl, rfl⟩
  clear cL
  go_wp2_with fail
  have c1 := sum_any ⟨#[49, 50, 51, 52, 53, 54, 55, 56, 57]⟩ w5 (show 9 ≤ _ by omega)
  rw [show M.more 0 (ByteArray.mk #[49, 50, 51, 52, 53, 54, 55, 56, 57]).data.toList = 3808858755 from s9] at c1
  refine c1.mono ?_
  rintro e w6 ⟨rfl, k6⟩
  clear c1
  have hb6 := bel_bel hb3 k6 hb3.size
  clear k6
  go_wp2_with fail
  have c2 := sum_any ⟨#[49, 50, 51, 52]⟩ w6 (show 4 ≤ _ by omega)
  rw [show M.more 0 (ByteArray.mk #[49, 50, 51, 52]).data.toList = 4131058926 from s4] at c2
  refine c2.mono ?_
  rintro e w7 ⟨rfl, k7⟩
  clear c2
  have hb7 := bel_bel hb6 k7 hb6.size
  clear k7
  go_wp2_with fail
  have c3 := sum_any ⟨#[53, 54, 55, 56, 57]⟩ w7 (show 5 ≤ _ by omega)
  rw [show M.more 0 (ByteArray.mk #[53, 54, 55, 56, 57]).data.toList = 2209703384 from s5] at c3
  refine c3.mono ?_
  rintro e w8 ⟨rfl, k8⟩
  clear c3
  have hb8 := bel_bel hb7 k8 hb7.size
  clear k8
  go_wp2_with fail
  have c4 := join_any 4131058926 2209703384 5 w8 (by omega) (by omega) (by omega) (by omega)
  rw [show M.join 4131058926 2209703384 (5 : Int).toNat = 3808858755 from j45] at c4
  refine c4.mono ?_
  rintro e w9 ⟨rfl, k9⟩
  clear c4
  have hb9 := bel_bel hb8 k9 hb8.size
  clear k9
  go_wp2_with fail
  have c5 := fix_any 0 3808858755 w9 (by omega) (by omega)
  have hfm := M.fix_more (sum := 0) (want := 3808858755) (by omega) (by omega)
  have hfl : (ByteArray.mk (M.four (M.need 0 3808858755)).toArray).size ≤ 9223372036854775807 := show 4 ≤ _ by omega
  have hfd : (ByteArray.mk (M.four (M.need 0 3808858755)).toArray).data.toList = M.four (M.need 0 3808858755) := rfl
  rw [← hfd] at hfm
  generalize (ByteArray.mk (M.four (M.need 0 3808858755)).toArray) = z at *
  clear hfd
  refine c5.mono ?_
  rintro e w10 ⟨rfl, k10⟩
  clear c5
  have hb10 := bel_bel hb9 k10 hb9.size
  clear k10
  go_wp2_with fail
  have c6 := more_any 0 z w10 (by omega) hfl
  rw [hfm] at c6
  refine c6.mono ?_
  rintro e w11 ⟨rfl, k11⟩
  clear c6 hfm hfl
  have hb11 := bel_bel hb10 k11 hb10.size
  clear k11
  go_wp2_with fail
  refine (table_any w11).mono ?_
  rintro e w12 ⟨c, rfl, hU, k12⟩
  have hb12 := bel_bel hb11 k12 hb11.size
  have hc1 := hU.2.1 1 (by omega)
  rw [t1] at hc1
  have hix : (Instr.index 32 (.agg c) (.int .i64 1)).run Try.prog w12 = .ok (.int .u32 4067132163) w12 := index_tab w12 1 (by omega) hc1
  clear k12 hU hb3 hb6 hb7 hb8 hb9 hb10 hb11
  go_wp2_with fail
  go_ret
  exact ⟨rfl, hb12⟩
end Go.Proofs.Ytohpjbhjcgihkaa
