/- WireBack's walk: what is written is read again; of a beginning the first call that can't be read says so. -/
import Derived.Test.YtpfaioncaolmjaaGreatAgw
import Derived.Test.YtpfaioncaolmjaaGreatApl
import Derived.Deep.LoopGhost
namespace Go.Proofs.YtpfaioncaolmjaaGreat
open Go.RowKit
theorem opq_bel {w w' : World} {a : Option Addr} {os : List (Nat × Nat × ByteArray)} (h : Opq w a os) (hb : Below w.heap.size w w') : Opq w' a os := by
  rcases h with rfl | ⟨b, off, rfl, hbl, hc⟩
  · exact Or.inl rfl
  · exact Or.inr ⟨b, off, rfl, Nat.lt_of_lt_of_le hbl hb.size, fun j hj => ⟨(hb.cell hbl).trans (hc j hj).1, (hb.cell hbl).trans (hc j hj).2.1, (hb.cell hbl).trans (hc j hj).2.2⟩⟩
set_option maxHeartbeats 8000000 in
set_option maxRecDepth 20000 in
theorem back_walkW (a : Option Addr) (cap : Nat) (os : List (Nat × Nat × ByteArray)) (cut : Nat) (w : World) (hl : os.length ≤ 1048576) (hcap : os.length ≤ cap) (hz : ∀ o ∈ os, o.1 < 256 ∧ o.2.1 < 18446744073709551616 ∧ o.2.2.size ≤ 1048576) (hcut : cut < 65536) (V : Opq w a os) :
    Calls Tryz.prog 3 #[.slice a os.length cap, .int .u16 cut] w fun e w' => e = .returned (.bool true) ∧ Below w.heap.size w w' := by
  have HV := hid V
  have HZ := hid hz
  clear V hz
  go_enter Tryz.func3, Tryz.ntmps3
  go_wp2_with fail
  refine (spells_any w).mono ?_
  rintro e w1 ⟨rfl, hb1⟩
  have V1 : Opq w1 a os := opq_bel HV.out hb1
  go_wp2_with fail
  refine (plain_any a cap os w1 hl hcap (fun o ho => (HZ.out o ho).1) V1).mono ?_
  rintro e w2 ⟨v, rfl, ho2, hb2⟩
  obtain ⟨a2, cap2, rfl, hcap2, V2⟩ := ho2.slice
  have HZ2 : Hid (∀ o ∈ pl os, o.1 % 14 < 12 ∧ o.2.1 < 18446744073709551616 ∧ o.2.2.size ≤ 1048576) := fun o ho => ⟨(pl_mem ho).2, (HZ.out o (pl_mem ho).1).2⟩
  have hl2 : (pl os).length ≤ 1048576 := Nat.le_trans (pl_len os) hl
  have hs1 := hb1.size
  have HB2 := hid (hb1.trans (hb2.mono hs1))
  have hs2 := HB2.out.size
  have HV2 := hid V2
  clear V1 ho2 V2 hb2 hb1 HV HZ hl hcap hs1
  generalize pl os = ls at *
  go_wp2_with fail
  refine (newwriter_any _).mono ?_
  rintro e w3 ⟨rfl, rfl⟩
  go_wp2_with fail
  refine (xnewwriter_any _).mono ?_
  rintro e w4 ⟨rfl, rfl⟩
  have HN := hid (ww_new w2)
  have HC := hid (((Below.refl w2.heap.size w2).alloc (Nat.le_refl _) (.cells #[.int .i64 0, .slice none 0 0] 52)).alloc (by simp) (.cells #[.string ⟨#[]⟩] 70))
  obtain ⟨H, hH⟩ : ∃ H, H = w2.heap.size := ⟨_, rfl⟩
  rw [← hH] at HN
  generalize (w2.alloc (.cells #[.int .i64 0, .slice none 0 0] 52)).alloc (.cells #[.string ⟨#[]⟩] 70) = w3 at *
  rw [show w2.heap.size = H from hH.symm]
  go_wp2_with fail
  rw [show w2.heap.size = H from hH.symm]
  have HB0 : Hid (Below H w2 w3) := by rw [hH]; exact HC.out
  have hHw : w.heap.size ≤ H := by omega
  have HVH : Hid (∀ x, Below H w2 x → Opq x a2 ls) := fun x hx => opq_bel HV2.out (hH ▸ hx)
  clear HC hH hs2 HV2
  have HL2 := hid hl2
  go_loopg [31] ls.length (fun k i wr => ∃ j : Nat, j + k = ls.length ∧ i = .int .i64 j ∧ Hid (WW H (H + 1) (H + 2) (at' ls j) wr) ∧ Hid (Below H w2 wr))
  case atStart => exact ⟨0, by omega, rfl, HN, HB0⟩
  case round =>
    clear HN HB0
    obtain ⟨j, hk, rfl, HW, HB⟩ := hrel
    have hsz : H + 2 ≤ wr.heap.size := by
      obtain ⟨_, _, _, _, _, _, _, h2, _⟩ := HW.out.a
      exact h2
    by_cases hlt : j < ls.length
    · obtain ⟨k, rfl⟩ : ∃ k, gk = k + 1 := ⟨gk - 1, by omega⟩
      rcases HVH.out wr HB.out with rfl | ⟨b, off, rfl, hbl, hc⟩
      · simp at hlt
      obtain ⟨k0, k1, k2⟩ := hc j hlt
      have hK := HZ2.out _ (opq_mem hlt)
      have hal := at_len (fun o ho => (HZ2.out o ho).2.2) j (by omega)
      have hj : j * 1048596 ≤ 1048576 * 1048596 := Nat.mul_le_mul_right _ (by omega)
      have AS := hid (at_succ hlt)
      generalize ls.getD j (0, 0, ByteArray.empty) = o at *
      obtain ⟨Kd, N, S⟩ := o
      simp only at k0 k1 k2 hK
      have CR := hid (write_enc Kd N S (at' ls j) hK.1 hK.2.1 (by omega) (by omega) H (H + 1) (H + 2) (wr.alloc (.cells #[.int .u8 Kd, .int .u64 N, .string S] 32)) (HW.out.alloc _))
      have HBA := hid (HB.out.alloc (by omega) (.cells #[.int .u8 Kd, .int .u64 N, .string S] 32))
      clear hc hK hal hj hl2
      go_wp2_with fail
      refine CR.out.mono ?_
      rintro r w4 ⟨rfl, h4, o4⟩
      have HB4 := hid (HBA.out.trans (o4.bel H (by omega) (by omega) (by omega) (by simp; omega)))
      have H4 : Hid (WW H (H + 1) (H + 2) (at' ls (j + 1)) w4) := by rw [AS.out]; exact h4
      have hl2 := HL2.out
      clear h4 o4 HBA CR k0 k1 k2
      go_wp2_with fail
      go_roundg k
      case measure => omega
      case rel => exact ⟨j + 1, by omega, by go_num, H4, HB4⟩
    · obtain rfl : j = ls.length := by omega
      have C1 := hid (wbytes_any H (H + 2) (at' ls ls.length) wr HW.out.a)
      have hlen := at_len (fun o ho => (HZ2.out o ho).2.2) ls.length (Nat.le_refl _)
      have hbyte : ∀ b ∈ at' ls ls.length, b < 256 := by
        obtain ⟨_, _, _, _, _, _, _, _, h3⟩ := HW.out.a
        exact h3
      rw [at_all] at C1 hlen hbyte
      have hs1 : bl (bs (wencs ls)) = wencs ls := bl_bs _ hbyte
      have hs2 : (bs (wencs ls)).size = (wencs ls).length := bs_size _
      have hs3 : (bs (wencs ls)).size ≤ 1200000000000 := by rw [hs2]; exact Nat.le_trans hlen (Nat.le_trans (Nat.mul_le_mul_right _ HL2.out) (by decide))
      clear hlen hbyte HW
      go_wp2_with fail
      refine C1.out.mono ?_
      rintro r w5 ⟨rfl, rfl⟩
      generalize bs (wencs ls) = s at *
      have HS2 := hid hs2
      have HS1 := hid hs1
      clear C1 hs1 hs2
      go_wp2_with fail
      refine (newreader_any _ _).mono ?_
      rintro e w6 ⟨rfl, rfl⟩
      have HR0 := hid (show Rd _ w5.heap.size s 0 0 from heap_new w5 _)
      have HB0 := hid (HB.out.alloc (by omega) (.cells #[.int .i64 0, .string s, .int .i64 0] 56))
      obtain ⟨R, hR⟩ : ∃ R, R = w5.heap.size := ⟨_, rfl⟩
      have hHR : H ≤ R := by omega
      rw [← hR] at HR0
      generalize w5.alloc (.cells #[.int .i64 0, .string s, .int .i64 0] 56) = w6 at *
      rw [show w5.heap.size = R from hR.symm]
      clear HB hsz hlt hk
      go_wp2_with fail
      rw [show w5.heap.size = R from hR.symm]
      clear hR
      go_loopg [46] ls.length (fun k i wr => ∃ j : Nat, j + k = ls.length ∧ i = .int .i64 j ∧ Hid (Rd wr R s (at' ls j).length 0) ∧ Hid (Below H w2 wr))
      case atStart => exact ⟨0, by omega, rfl, HR0, HB0⟩
      case round =>
        clear HR0 HB0
        obtain ⟨j, hk, rfl, HR, HB⟩ := hrel
        by_cases hlt : j < ls.length
        · obtain ⟨k, rfl⟩ : ∃ k, gk = k + 1 := ⟨gk - 1, by omega⟩
          rcases HVH.out wr HB.out with rfl | ⟨b, off, rfl, hbl, hc⟩
          · simp at hlt
          obtain ⟨k0, k1, k2⟩ := hc j hlt
          have hK := HZ2.out _ (opq_mem hlt)
          have AS := hid (at_succ hlt)
          have ST := at_stands HS1.out hlt
          have hlr := HR.out.lt
          generalize ls.getD j (0, 0, ByteArray.empty) = o at *
          obtain ⟨Kd, N, S⟩ := o
          simp only at k0 k1 k2 hK
          have CR := hid (again_yes R s (at' ls j).length Kd N S (wr.alloc (.cells #[.int .u8 Kd, .int .u64 N, .string S] 32)) (HR.out.alloc _) ST (by omega) hK.1 hK.2.1 (by omega))
          have HBA := hid (HB.out.alloc (by omega) (.cells #[.int .u8 Kd, .int .u64 N, .string S] 32))
          clear hc hK ST
          go_wp2_with fail
          refine CR.out.mono ?_
          rintro r w7 ⟨rfl, h7, c7⟩
          have HB7 := hid (HBA.out.trans (c7.below (by simp; omega) (fun i hi hs => by omega)))
          have H7 : Hid (Rd w7 R s (at' ls (j + 1)).length 0) := by rw [AS.out, List.length_append]; exact h7
          clear h7 c7 HBA CR k0 k1 k2
          go_wp2_with fail
          go_roundg k
          case measure => omega
          case rel => exact ⟨j + 1, by omega, by go_num, H7, HB7⟩
        · obtain rfl : j = ls.length := by omega
          rw [at_all, ← HS2.out] at HR
          have hsI : s.size ≤ 9223372036854775807 := by omega
          have hdq : dq s s.size 0 = 0 := by unfold dq; rw [if_neg (by omega)]
          have TD := rdone_any R s s.size 0 wr HR.out (Nat.le_refl _) hsI
          rw [hdq] at TD
          clear hdq
          go_wp2_with fail
          refine TD.mono ?_
          rintro r wd ⟨rfl, m1, rfl⟩
          go_wp2_with fail
          refine (rleft_any R s s.size 0 _ (HR.out.drewN _) (Nat.le_refl _) hsI).mono ?_
          rintro r wd ⟨rfl, m2, rfl⟩
          go_wp2_with fail
          refine (rat_any R s s.size 0 _ (HR.out.drewN _)).mono ?_
          rintro r wd ⟨rfl, rfl⟩
          go_wp2_with fail
          refine (rerr_any R s s.size 0 _ (HR.out.drewN _)).mono ?_
          rintro r wd ⟨rfl, rfl⟩
          have HBD := hid (drewN_bel HB.out (m1 + m2))
          have hwd : R < (wr.drewN (m1 + m2)).heap.size := HR.out.lt
          generalize wr.drewN (m1 + m2) = wd at *
          clear TD HB HR
          by_cases h0 : s.size = 0
          · have hse : s = ⟨#[]⟩ := bl_inj (List.eq_nil_of_length_eq_zero (by rw [bl_len]; exact h0))
            subst hse
            go_wp2_with fail
            go_ret
            exact ⟨rfl, HB2.out.trans (HBD.out.mono hHw)⟩
          · have hse : ¬ s = ⟨#[]⟩ := fun h => h0 (by rw [h]; rfl)
            obtain ⟨n, hn⟩ : ∃ n, n = cut % s.size := ⟨_, rfl⟩
            have hns : n < s.size := by rw [hn]; exact Nat.mod_lt _ (by omega)
            have hcn : (cut : Int) % (s.size : Int) = (n : Int) := by rw [hn]; rfl
            clear hn
            go_wp2_with fail
            · go_ret
              exact ⟨rfl, HB2.out.trans (HBD.out.mono hHw)⟩
            refine (newreader_any _ _).mono ?_
            rintro e w8 ⟨rfl, rfl⟩
            have HR0 := hid (show Rd _ wd.heap.size (s.extract 0 n) 0 0 from heap_new wd _)
            have hsd : H ≤ wd.heap.size := by omega
            have HB0 := hid (HBD.out.alloc hsd (.cells #[.int .i64 0, .string (s.extract 0 n), .int .i64 0] 56))
            obtain ⟨Q, hQ⟩ : ∃ Q, Q = wd.heap.size := ⟨_, rfl⟩
            rw [← hQ] at HR0
            have hHQ : H ≤ Q := by omega
            generalize wd.alloc (.cells #[.int .i64 0, .string (s.extract 0 n), .int .i64 0] 56) = w8 at *
            rw [show wd.heap.size = Q from hQ.symm]
            clear HBD
            go_wp2_with fail
            rw [show wd.heap.size = Q from hQ.symm]
            clear hQ
            have hsp : (s.extract 0 n).size = n := by rw [ByteArray.size_extract]; omega
            have HSP := hid hsp
            go_loopg [88] ls.length (fun k i wr => ∃ j : Nat, j + k = ls.length ∧ i = .int .i64 j ∧ (at' ls j).length ≤ n ∧ Hid (Rd wr Q (s.extract 0 n) (at' ls j).length 0) ∧ Hid (Below H w2 wr))
            case atStart => exact ⟨0, by omega, rfl, Nat.zero_le _, HR0, HB0⟩
            case round =>
              clear HR0 HB0 hsp
              obtain ⟨j, hk, rfl, hjn, HR, HB⟩ := hrel
              by_cases hlt : j < ls.length
              · obtain ⟨k, rfl⟩ : ∃ k, gk = k + 1 := ⟨gk - 1, by omega⟩
                rcases HVH.out wr HB.out with rfl | ⟨b, off, rfl, hbl, hc⟩
                · simp at hlt
                obtain ⟨k0, k1, k2⟩ := hc j hlt
                have hK := HZ2.out _ (opq_mem hlt)
                have AS := hid (at_succ hlt)
                have AP := at_part HS1.out hlt (by omega) hjn
                have hlr := HR.out.lt
                generalize ls.getD j (0, 0, ByteArray.empty) = o at *
                obtain ⟨Kd, N, S⟩ := o
                simp only at k0 k1 k2 hK
                have HBA := hid (HB.out.alloc (by omega) (.cells #[.int .u8 Kd, .int .u64 N, .string S] 32))
                rcases AP with ⟨ST, hnx⟩ | CU
                · have CR := hid (again_yes Q (s.extract 0 n) (at' ls j).length Kd N S (wr.alloc (.cells #[.int .u8 Kd, .int .u64 N, .string S] 32)) (HR.out.alloc _) ST (by rw [HSP.out]; omega) hK.1 hK.2.1 (by omega))
                  clear hc hK ST
                  go_wp2_with fail
                  refine CR.out.mono ?_
                  rintro r w9 ⟨rfl, h9, c9⟩
                  have HB9 := hid (HBA.out.trans (c9.below (by simp; omega) (fun i hi hs => by omega)))
                  have H9 : Hid (Rd w9 Q (s.extract 0 n) (at' ls (j + 1)).length 0) := by rw [AS.out, List.length_append]; exact h9
                  clear h9 c9 HBA CR k0 k1 k2
                  go_wp2_with fail
                  go_roundg k
                  case measure => omega
                  case rel => exact ⟨j + 1, by omega, by go_num, hnx, H9, HB9⟩
                · have CR := hid (again_no Q (s.extract 0 n) (at' ls j).length Kd N S (wr.alloc (.cells #[.int .u8 Kd, .int .u64 N, .string S] 32)) (HR.out.alloc _) CU (by rw [HSP.out]; omega) hK.1 hK.2.1 (by omega))
                  clear hc hK CU
                  go_wp2_with fail
                  refine CR.out.mono ?_
                  rintro r w9 ⟨rfl, e9, he9, h9, c9⟩
                  have HB9 := hid (HBA.out.trans (c9.below (by simp; omega) (fun i hi hs => by omega)))
                  have H9 := hid h9
                  have hsw9 := h9.lt
                  have HSW : Hid (H ≤ w9.heap.size) := by show H ≤ _; omega
                  have hks : (at' ls j).length ≤ (s.extract 0 n).size := by rw [HSP.out]; exact hjn
                  have hsI2 : (s.extract 0 n).size ≤ 9223372036854775807 := by rw [HSP.out]; omega
                  have uc := fun x hx => u64_any Q (s.extract 0 n) (at' ls j).length e9 x hx hks hsI2
                  have tc := fun x hx => rtext_any Q (s.extract 0 n) (at' ls j).length e9 9 x hx hks hsI2 (by omega) (by omega)
                  have dc := fun x hx => rdone_any Q (s.extract 0 n) (at' ls j).length e9 x hx hks hsI2
                  rw [fx_stale (by omega)] at uc
                  rw [tq_stale (by omega)] at tc
                  rw [show dq (s.extract 0 n) (at' ls j).length e9 = e9 from by unfold dq; rw [if_neg (by omega)]] at dc
                  have UC := hid uc
                  have TC := hid tc
                  have DC := hid dc
                  generalize (at' ls j).length = K at *
                  clear h9 c9 HBA CR k0 k1 k2 uc tc dc hks hsI2 AS
                  rcases he9 with rfl | rfl
                  · go_wp2_with fail
                    refine (rat_any Q _ _ _ _ H9.out).mono ?_
                    rintro r wx ⟨rfl, rfl⟩
                    go_wp2_with fail
                    refine (rerr_any Q _ _ _ _ H9.out).mono ?_
                    rintro r wx ⟨rfl, rfl⟩
                    go_wp2_with fail
                    refine (UC.out _ H9.out).mono ?_
                    rintro r wx ⟨rfl, hx, cx⟩
                    have HX := hid hx
                    have HBX := hid (HB9.out.trans (cx.below HSW.out (fun i hi hs => by omega)))
                    have hxs := cx.size
                    clear hx cx
                    go_wp2_with fail
                    refine (TC.out _ HX.out).mono ?_
                    rintro r wy ⟨rfl, hy, cy⟩
                    have HY := hid hy
                    have HBY := hid (HBX.out.trans (cy.below (Nat.le_trans HSW.out hxs) (fun i hi hs => by omega)))
                    clear hy cy
                    go_wp2_with fail
                    refine (DC.out _ HY.out).mono ?_
                    rintro r wz ⟨rfl, m3, rfl⟩
                    go_wp2_with fail
                    refine (rat_any Q _ _ _ _ (HY.out.drewN _)).mono ?_
                    rintro r wx ⟨rfl, rfl⟩
                    go_wp2_with fail
                    go_ret
                    exact ⟨rfl, HB2.out.trans ((drewN_bel HBY.out m3).mono hHw)⟩
                  · go_wp2_with fail
                    refine (rat_any Q _ _ _ _ H9.out).mono ?_
                    rintro r wx ⟨rfl, rfl⟩
                    go_wp2_with fail
                    refine (rerr_any Q _ _ _ _ H9.out).mono ?_
                    rintro r wx ⟨rfl, rfl⟩
                    go_wp2_with fail
                    refine (UC.out _ H9.out).mono ?_
                    rintro r wx ⟨rfl, hx, cx⟩
                    have HX := hid hx
                    have HBX := hid (HB9.out.trans (cx.below HSW.out (fun i hi hs => by omega)))
                    have hxs := cx.size
                    clear hx cx
                    go_wp2_with fail
                    refine (TC.out _ HX.out).mono ?_
                    rintro r wy ⟨rfl, hy, cy⟩
                    have HY := hid hy
                    have HBY := hid (HBX.out.trans (cy.below (Nat.le_trans HSW.out hxs) (fun i hi hs => by omega)))
                    clear hy cy
                    go_wp2_with fail
                    refine (DC.out _ HY.out).mono ?_
                    rintro r wz ⟨rfl, m3, rfl⟩
                    go_wp2_with fail
                    refine (rat_any Q _ _ _ _ (HY.out.drewN _)).mono ?_
                    rintro r wx ⟨rfl, rfl⟩
                    go_wp2_with fail
                    go_ret
                    exact ⟨rfl, HB2.out.trans ((drewN_bel HBY.out m3).mono hHw)⟩
              · obtain rfl : j = ls.length := by omega
                rw [at_all, ← HS2.out] at hjn
                omega
end Go.Proofs.YtpfaioncaolmjaaGreat
