/- The law's look whether two lists of tokens are one. -/
import Derived.Test.YtdkfenmhfkggdaaFrm
import Derived.Laws.StructEq
namespace Go.Proofs.Ytdkfenmhfkggdaa
open Go.RowKit
theorem Try.tokStruct : Try.prog.underlying 47 = some (.struct (Try.prog.fieldsOf 47)) := by kernel_rfl
theorem Try.tokHeld : Try.prog.stoodInHeld 47 = false := by kernel_rfl
theorem Try.tokGuard : Try.prog.eqGuardType Try.prog.depth 47 = false := by kernel_rfl
theorem neq_tok (S : ByteArray) (n d : Int) (w : World) : (binOp .neq 47 (.agg #[.string S, .int .i64 n, .int .i64 d]) (.agg #[.string S, .int .i64 n, .int .i64 d])).run Try.prog w = .ok (.bool false) w := by
  rw [run_neq_struct, run_equalIn_agg w 9999 _ _ _ Try.tokStruct Try.tokHeld]
  have hf : (Try.prog.fieldsOf 47) = (match Try.prog.underlying 47 with | some (.struct fs) => fs | _ => #[]) := rfl
  rw [hf, Try.underlying47]
  simp [go_sem, Op.eqFields, Try.underlying9, Try.underlying3]
set_option maxHeartbeats 2000000 in
set_option maxRecDepth 20000 in
theorem same_any (a1 a2 : Option Addr) (cap1 cap2 : Nat) (rs : List (ByteArray × Int × Int)) (w : World) (hl : rs.length ≤ 9223372036854775807) (V1 : Trip w a1 rs) (V2 : Trip w a2 rs) :
    Calls Try.prog 23 #[.slice a1 rs.length cap1, .slice a2 rs.length cap2] w fun e w' => e = .returned (.bool true) ∧ Qt w w' := by
  have HV1 := hid V1
  have HV2 := hid V2
  clear V1 V2
  go_enter Try.func23, Try.ntmps23
  go_wp2_with fail
  go_loopg [5] rs.length (fun k i wr => ∃ j : Nat, j + k = rs.length ∧ i = .int .i64 j ∧ Qt w wr)
  case atStart => exact ⟨0, by omega, rfl, Qt.refl _⟩
  case round =>
    obtain ⟨j, hk, rfl, hq⟩ := hrel
    by_cases hlt : j < rs.length
    · obtain ⟨k, rfl⟩ : ∃ k, gk = k + 1 := ⟨gk - 1, by omega⟩
      rcases HV1.out with rfl | ⟨b, off, rfl, hbl, hc⟩
      · simp at hlt
      rcases HV2.out with rfl | ⟨b2, off2, rfl, hbl2, hc2⟩
      · simp at hlt
      obtain ⟨q0, q1, q2⟩ := hc j hlt
      obtain ⟨p0, p1, p2⟩ := hc2 j hlt
      generalize rs.getD j (ByteArray.empty, 0, 0) = r at *
      obtain ⟨S, n, d⟩ := r
      simp only at q0 q1 q2 p0 p1 p2
      have hcw : ∀ b o, wr.cell? ⟨b, o, none⟩ = w.cell? ⟨b, o, none⟩ := fun b o => by obtain ⟨n, rfl⟩ := hq; rfl
      have k0 := (hcw b (off + j * 3)).trans q0
      have k1 := (hcw b (off + j * 3 + 1)).trans q1
      have k2 := (hcw b (off + j * 3 + 2)).trans q2
      have l0 := (hcw b2 (off2 + j * 3)).trans p0
      have l1 := (hcw b2 (off2 + j * 3 + 1)).trans p1
      have l2 := (hcw b2 (off2 + j * 3 + 2)).trans p2
      have hne := neq_tok S n d
      have hgd := fun x y w => run_eqGuard_agg (P := Try.prog) w BinOp.neq 47 x y #[.string S, .int .i64 n, .int .i64 d] #[.string S, .int .i64 n, .int .i64 d] Try.tokGuard
      have b1 : (0 : Int) ≤ (j : Int) := by omega
      have b2' : (j : Int) < rs.length := by omega
      clear hcw q0 q1 q2 p0 p1 p2 hc hc2
      go_wp2_with fail
      go_quiet (fail)
      go_wp2_with fail
      go_roundg k
      case measure => omega
      case rel => exact ⟨j + 1, by omega, by go_num, hq.drewN _⟩
    · go_wp2_with fail
      go_ret
      exact ⟨rfl, hq⟩
end Go.Proofs.Ytdkfenmhfkggdaa
