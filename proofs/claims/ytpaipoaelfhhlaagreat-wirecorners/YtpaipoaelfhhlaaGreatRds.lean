/- WireReads' walk: any calls of a reader of any bytes, one behind the other: every answer is the document's, and both stand the same behind each. -/
import Derived.Test.YtpaipoaelfhhlaaGreatRead2
import Derived.Test.YtpaipoaelfhhlaaGreatSpl
import Derived.Deep.LoopGhost
namespace Go.Proofs.YtpaipoaelfhhlaaGreat
open Go.RowKit
theorem hid {p : Prop} (h : p) : Hid p := h
/-- The calls of a script, where they lie. -/
def Opq (w : World) (a : Option Addr) (os : List (Nat × Nat × ByteArray)) : Prop := os = [] ∨ ∃ b off, a = some ⟨b, off, none⟩ ∧ b < w.heap.size ∧ ∀ j, j < os.length → w.cell? ⟨b, off + j * 3, none⟩ = some (.int .u8 (os.getD j (0, 0, ByteArray.empty)).1) ∧ w.cell? ⟨b, off + j * 3 + 1, none⟩ = some (.int .u64 (os.getD j (0, 0, ByteArray.empty)).2.1) ∧ w.cell? ⟨b, off + j * 3 + 2, none⟩ = some (.string (os.getD j (0, 0, ByteArray.empty)).2.2)
theorem opq_mem {os : List (Nat × Nat × ByteArray)} {k : Nat} (h : k < os.length) : os.getD k (0, 0, ByteArray.empty) ∈ os := by
  simp [List.getD_eq_getElem?_getD, h]
set_option maxHeartbeats 8000000 in
set_option maxRecDepth 20000 in
theorem reads_walk (s : ByteArray) (a : Option Addr) (cap : Nat) (os : List (Nat × Nat × ByteArray)) (w : World) (hs : s.size ≤ 9223372036854775807) (hl : os.length ≤ 9223372036854775807) (hz : ∀ o ∈ os, o.1 < 256) (V : Opq w a os) :
    Calls Tryz.prog 3 #[.string s, .slice a os.length cap] w fun e w' => e = .returned (.bool true) ∧ Below w.heap.size w w' := by
  have HV := hid V
  have HZ := hid hz
  clear V hz
  go_enter Tryz.func3, Tryz.ntmps3
  go_wp2_with fail
  refine (spells_any w).mono ?_
  rintro e w1 ⟨rfl, hb1⟩
  go_wp2_with fail
  refine (newreader_any _ _).mono ?_
  rintro e w2 ⟨rfl, rfl⟩
  go_wp2_with fail
  refine (xnew_any _ _).mono ?_
  rintro e w3 ⟨rfl, rfl⟩
  have HR0 : Hid (Rd ((w1.alloc (.cells #[.int .i64 0, .string s, .int .i64 0] 62)).alloc (.cells #[.string s, .int .i64 0, .int .i64 0] 73)) w1.heap.size s 0 0) := hid (heap_alloc_at (heap_new w1 _))
  have HX0 : Hid (RX ((w1.alloc (.cells #[.int .i64 0, .string s, .int .i64 0] 62)).alloc (.cells #[.string s, .int .i64 0, .int .i64 0] 73)) (w1.heap.size + 1) s 0 0) := hid (heap_new' _ _ _ (by simp))
  have hsz1 := hb1.size
  have HB0 := hid ((hb1.alloc hsz1 (.cells #[.int .i64 0, .string s, .int .i64 0] 62)).alloc (by simp; omega) (.cells #[.string s, .int .i64 0, .int .i64 0] 73))
  have HZ0 : Hid (w1.heap.size + 2 ≤ ((w1.alloc (.cells #[.int .i64 0, .string s, .int .i64 0] 62)).alloc (.cells #[.string s, .int .i64 0, .int .i64 0] 73)).heap.size) := by show _ ≤ _; simp
  generalize (w1.alloc (.cells #[.int .i64 0, .string s, .int .i64 0] 62)).alloc (.cells #[.string s, .int .i64 0, .int .i64 0] 73) = w3 at *
  obtain ⟨H, hH⟩ : ∃ H, H = w1.heap.size := ⟨_, rfl⟩
  have hHw : w.heap.size ≤ H := by omega
  rw [← hH] at HR0 HX0 HZ0
  rw [show w1.heap.size = H from hH.symm]
  go_wp2_with fail
  rw [show w1.heap.size = H from hH.symm]
  clear hb1 hsz1 hH
  go_loopg [8, 17] os.length (fun k x1 i wr => ∃ j k' e' : Nat, j + k = os.length ∧ i = .int .i64 j ∧ k' ≤ s.size ∧ Hid (Rd wr H s k' e') ∧ Hid (RX wr (H + 1) s k' e') ∧ Hid (Below w.heap.size w wr) ∧ Hid (H + 2 ≤ wr.heap.size))
  case atStart => exact ⟨0, 0, 0, by omega, rfl, by omega, HR0, HX0, HB0, HZ0⟩
  case round =>
    clear HR0 HX0 HB0 HZ0
    obtain ⟨j, k', e', hk, rfl, hk', HR, HX, HB, HS⟩ := hrel
    by_cases hlt : j < os.length
    · obtain ⟨k, rfl⟩ : ∃ k, gk = k + 1 := ⟨gk - 1, by omega⟩
      rcases HV.out with rfl | ⟨b, off, rfl, hbl, hc⟩
      · simp at hlt
      obtain ⟨q0, q1, q2⟩ := hc j hlt
      have hK := HZ.out _ (opq_mem hlt)
      generalize os.getD j (0, 0, ByteArray.empty) = o at *
      obtain ⟨Kd, N, S⟩ := o
      simp only at q0 q1 q2 hK
      have k0 := (HB.out.cell (p := ⟨b, off + j * 3, none⟩) hbl).trans q0
      have k1 := (HB.out.cell (p := ⟨b, off + j * 3 + 1, none⟩) hbl).trans q1
      have k2 := (HB.out.cell (p := ⟨b, off + j * 3 + 2, none⟩) hbl).trans q2
      have cr := readop_any H (H + 1) s k' e' Kd N S (wr.alloc (.cells #[.int .u8 Kd, .int .u64 N, .string S] 30)) (HR.out.alloc _) (HX.out.alloc _) (by omega) hk' hs hK
      have CR := hid cr
      have hsz := HS.out
      have HBA := hid (HB.out.alloc (by omega) (.cells #[.int .u8 Kd, .int .u64 N, .string S] 30))
      clear hc q0 q1 q2 cr
      go_wp2_with fail
      refine CR.out.mono ?_
      rintro r w4 ⟨rfl, k3, e3, hk3, hP3, hQ3, hC3⟩
      have HB4 := hid (ch_bel HBA.out hC3 (fun i hi h => by omega))
      have HS4 : Hid (H + 2 ≤ w4.heap.size) := by have := hC3.size; simp at this; show _ ≤ _; omega
      have HP3 := hid hP3
      have HQ3 := hid hQ3
      have td := fun w' h' => rdone_any H s k3 e3 w' h' hk3 hs
      have tx := fun w' h' => xdone_any (H + 1) s k3 e3 w' h' hk3 hs
      have hdd : dqx s k3 e3 = dq s k3 e3 := rfl
      rw [hdd] at tx
      generalize dq s k3 e3 = D at td tx
      have TD := hid td
      have TX := hid tx
      clear hdd td tx hP3 hQ3 hC3 k0 k1 k2 CR HBA
      go_wp2_with fail
      refine (rat_any H s k3 e3 _ HP3.out).mono ?_
      rintro r w5 ⟨rfl, rfl⟩
      go_wp2_with fail
      refine (xat_any (H + 1) s k3 e3 _ HQ3.out).mono ?_
      rintro r w5 ⟨rfl, rfl⟩
      go_wp2_with fail
      refine (rleft_any H s k3 e3 _ HP3.out hk3 hs).mono ?_
      rintro r w5 ⟨rfl, m1, rfl⟩
      go_wp2_with fail
      refine (xleft_any (H + 1) s k3 e3 _ (HQ3.out.drewN _) hk3 hs).mono ?_
      rintro r w5 ⟨rfl, m2, rfl⟩
      go_wp2_with fail
      refine (rerr_any H s k3 e3 _ (HP3.out.drewN _)).mono ?_
      rintro r w5 ⟨rfl, rfl⟩
      go_wp2_with fail
      refine (xerr_any (H + 1) s k3 e3 _ (HQ3.out.drewN _)).mono ?_
      rintro r w5 ⟨rfl, rfl⟩
      go_wp2_with fail
      refine (TD.out _ (HP3.out.drewN _)).mono ?_
      rintro r w5 ⟨rfl, m3, rfl⟩
      go_wp2_with fail
      refine (TX.out _ (HQ3.out.drewN _)).mono ?_
      rintro r w5 ⟨rfl, m4, rfl⟩
      have HP4 := fun m => hid (HP3.out.drewN m)
      have HQ4 := fun m => hid (HQ3.out.drewN m)
      have HB5 := fun m => hid (drewN_bel HB4.out m)
      go_wp2_with fail
      go_roundg k
      case measure => omega
      case rel => exact ⟨j + 1, k3, e3, by omega, by go_num, hk3, HP4 _, HQ4 _, HB5 _, HS4⟩
    · go_wp2_with fail
      go_ret
      exact ⟨rfl, HB.out⟩
end Go.Proofs.YtpaipoaelfhhlaaGreat
