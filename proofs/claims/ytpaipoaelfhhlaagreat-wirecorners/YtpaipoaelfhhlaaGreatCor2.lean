/- WireCorners' walk: each call by itself, of each beginning of some bytes; nothing that was there before is turned. -/
import Derived.Test.YtpaipoaelfhhlaaGreatRds
import Derived.Deep.RegionHeld3
import Derived.Deep.DeepCutAuto
namespace Go.Proofs.YtpaipoaelfhhlaaGreat
open Go.RowKit
set_option maxHeartbeats 16000000 in
set_option maxRecDepth 20000 in
theorem corners_walk (s : ByteArray) (n : Int) (w : World) (hs : s.size ≤ 9223372036854775000) :
    Calls Tryz.prog 4 #[.string s, .int .i64 n] w fun e w' => e = .returned (.bool true) ∧ Below w.heap.size w w' := by
  have hN : Hid (IntKind.u64.wrap n = ((n % 18446744073709551616).toNat : Int)) := by show IntKind.u64.wrap n = _; rw [IntKind.wrap_u64]; omega
  by_cases h6 : 60 < s.size
  · have h60 : (60 : Int) < s.size := by omega
    clear h6
    go_enter Tryz.func4, Tryz.ntmps4
    go_wp2_with fail
    refine (spells_any w).mono ?_
    rintro e w1 ⟨rfl, hb1⟩
    go_wp2_with fail
    go_loopg [5, 6, 7, 8, 10, 17, 20, 35] (60 + 1) (fun k x5 x6 x7 x8 x10 i x20 x35 wr => ∃ j : Nat, j + k = 60 + 1 ∧ i = .int .i64 j ∧ Hid (Below w.heap.size w wr))
    case atStart => exact ⟨0, by omega, rfl, hb1⟩
    case round =>
      clear hb1
      obtain ⟨j, hk, rfl, HB⟩ := hrel
      by_cases hlt : j < 60 + 1
      · obtain ⟨k, rfl⟩ : ∃ k, gk = k + 1 := ⟨gk - 1, by omega⟩
        obtain ⟨S0, hS0⟩ : ∃ S0, S0 = s.extract 0 j := ⟨_, rfl⟩
        have hds : S0.size ≤ 9223372036854775807 := by rw [hS0, ByteArray.size_extract]; omega
        have hext : s.extract 0 j = S0 := hS0.symm
        have hltI : (j : Int) < (60 : Int) + 1 := by omega
        have hjs : (j : Int) ≤ s.size := by omega
        have hj0 : (0 : Int) ≤ (j : Int) := by omega
        have hltD : decide ((j : Int) < 61) = true := decide_eq_true (by omega)
        clear hS0
        go_wp2_with fail
        go_loopg [6, 7, 8, 10, 20, 35] 14 (fun k x6 x7 x8 x10 i x35 wr => ∃ c : Nat, c + k = 14 ∧ i = .int .u8 c ∧ Hid (Below w.heap.size w wr))
        case atStart => exact ⟨0, by omega, rfl, HB⟩
        case round =>
          clear HB
          obtain ⟨c, hkc, rfl, HB⟩ := hrel
          by_cases hlc : c < 14
          · obtain ⟨kc, rfl⟩ : ∃ k, gk = k + 1 := ⟨gk - 1, by omega⟩
            have hsz := HB.out.size
            go_wp2_with fail
            go_cut [7, 8] (fun r x wc => ∃ b q : Nat, r = .pointer (some ⟨b, 0, none⟩) ∧ x = .pointer (some ⟨q, 0, none⟩) ∧ b ≠ q ∧ w.heap.size ≤ b ∧ w.heap.size ≤ q ∧ Hid (Rd wc b S0 0 0) ∧ Hid (RX wc q S0 0 0) ∧ Hid (Below w.heap.size w wc))
            case first =>
              go_region_held3 (fun _ => True) (trivial) (first | (go_at_call 8; refine (newreader_any _ _).mono ?_; rintro e w' ⟨rfl, rfl⟩) | (go_at_call 9; refine (xnew_any _ _).mono ?_; rintro e w' ⟨rfl, rfl⟩))
              all_goals
                go_wp2
                go_meet
                case rel => first | exact ⟨wr.heap.size, wr.heap.size + 1, rfl, rfl, by omega, by omega, by omega, heap_alloc_at (heap_new wr _), heap_new' _ _ _ (by simp), (((HB.out.alloc hsz _).alloc (by simp; omega) _).drew)⟩ | exact ⟨wr.heap.size + 1, wr.heap.size, rfl, rfl, by omega, by omega, by omega, heap_new' _ _ _ (by simp), heap_alloc_at (heap_new wr _), (((HB.out.alloc hsz _).alloc (by simp; omega) _).drew)⟩
            case rest =>
              obtain ⟨b, q, rfl, rfl, hbq, hbw, hqw, HR, HX, HBC⟩ := hcut
              clear HB hsz
              have hbl := HR.out.lt
              have hql := HX.out.lt
              go_wp2_with fail
              have HP0 : Hid (Rd (wc.alloc (.cells #[.int .i64 n, .int .i64 j] 3)) b S0 0 0) := HR.out.alloc _
              have HQ0 : Hid (RX (wc.alloc (.cells #[.int .i64 n, .int .i64 j] 3)) q S0 0 0) := HX.out.alloc _
              have HL0 : Hid ((wc.alloc (.cells #[.int .i64 n, .int .i64 j] 3)).heap[wc.heap.size]? = some (.cells #[.int .i64 n, .int .i64 j] 3 (0, 0))) := heap_new wc _
              have HC0 := hid (HBC.out.alloc HBC.out.size (.cells #[.int .i64 n, .int .i64 j] 3))
              generalize wc.alloc (.cells #[.int .i64 n, .int .i64 j] 3) = w8 at *
              obtain ⟨L, hL⟩ : ∃ L, L = wc.heap.size := ⟨_, rfl⟩
              rw [← hL] at HL0 hbl hql
              rw [← hL]
              clear hL HR HX HBC
              go_loopg [10, 35] 2 (fun k x10 i w9 => ∃ j3 k' e' : Nat, j3 + k = 2 ∧ i = .int .i64 j3 ∧ k' ≤ S0.size ∧ Hid (Rd w9 b S0 k' e') ∧ Hid (RX w9 q S0 k' e') ∧ Hid (w9.heap[L]? = some (.cells #[.int .i64 n, .int .i64 j] 3 (0, 0))) ∧ Hid (Below w.heap.size w w9))
              case atStart => exact ⟨0, 0, 0, by omega, rfl, by omega, HP0, HQ0, HL0, HC0⟩
              case round =>
                clear HP0 HQ0 HL0 HC0
                obtain ⟨j3, k', e', hj3, rfl, hk', HP, HQ, HL, HC⟩ := hrel
                rcases (show j3 = 0 ∨ j3 = 1 ∨ j3 = 2 by omega) with rfl | rfl | rfl
                · have cc : wr.cell? ⟨L, 0, none⟩ = some (.int .i64 n) := (cell_of HL.out).trans rfl
                  have cr := fun w9 (h1 : Rd w9 b S0 k' e') (h2 : RX w9 q S0 k' e') => readop_any b q S0 k' e' c (n % 18446744073709551616).toNat ⟨#[]⟩ w9 h1 h2 hbq hk' hds (by omega)
                  have CR := hid cr
                  clear cr
                  go_wp2_with fail
                  rw [hN.out]
                  refine (CR.out _ HP.out HQ.out).mono ?_
                  rintro r w4 ⟨rfl, k3, e3, hk3, hP3, hQ3, hC3⟩
                  have HB4 := hid (ch_bel HC.out hC3 (fun i hi h => by omega))
                  have HL4 : Hid (w4.heap[L]? = some (.cells #[.int .i64 n, .int .i64 j] 3 (0, 0))) := (hC3.block _ (lt_of_heap HL.out) (by omega)).trans HL.out
                  have HP3 := hid hP3
                  have HQ3 := hid hQ3
                  have td := fun w' h' => rdone_any b S0 k3 e3 w' h' hk3 hds
                  have tx := fun w' h' => xdone_any q S0 k3 e3 w' h' hk3 hds
                  have hdd : dqx S0 k3 e3 = dq S0 k3 e3 := rfl
                  rw [hdd] at tx
                  generalize dq S0 k3 e3 = D at td tx
                  have TD := hid td
                  have TX := hid tx
                  clear hdd td tx hP3 hQ3 hC3 cc CR HP HQ HL HC
                  go_wp2_with fail
                  refine (rat_any b S0 k3 e3 _ HP3.out).mono ?_
                  rintro r w5 ⟨rfl, rfl⟩
                  go_wp2_with fail
                  refine (xat_any q S0 k3 e3 _ HQ3.out).mono ?_
                  rintro r w5 ⟨rfl, rfl⟩
                  go_wp2_with fail
                  refine (rerr_any b S0 k3 e3 _ HP3.out).mono ?_
                  rintro r w5 ⟨rfl, rfl⟩
                  go_wp2_with fail
                  refine (xerr_any q S0 k3 e3 _ HQ3.out).mono ?_
                  rintro r w5 ⟨rfl, rfl⟩
                  go_wp2_with fail
                  refine (TD.out _ HP3.out).mono ?_
                  rintro r w5 ⟨rfl, m3, rfl⟩
                  go_wp2_with fail
                  refine (TX.out _ (HQ3.out.drewN _)).mono ?_
                  rintro r w5 ⟨rfl, m4, rfl⟩
                  have HP4 := fun m => hid (HP3.out.drewN m)
                  have HQ4 := fun m => hid (HQ3.out.drewN m)
                  have HB5 := fun m => hid (drewN_bel HB4.out m)
                  go_wp2_with fail
                  go_roundg 1
                  case measure => omega
                  case rel => exact ⟨1, k3, e3, by omega, by go_num, hk3, HP4 _, HQ4 _, HL4, HB5 _⟩
                · have cc : wr.cell? ⟨L, 1, none⟩ = some (.int .i64 j) := (cell_of HL.out).trans rfl
                  have cr := fun w9 (h1 : Rd w9 b S0 k' e') (h2 : RX w9 q S0 k' e') => readop_any b q S0 k' e' c j ⟨#[]⟩ w9 h1 h2 hbq hk' hds (by omega)
                  have CR := hid cr
                  clear cr
                  go_wp2_with fail
                  skip
                  refine (CR.out _ HP.out HQ.out).mono ?_
                  rintro r w4 ⟨rfl, k3, e3, hk3, hP3, hQ3, hC3⟩
                  have HB4 := hid (ch_bel HC.out hC3 (fun i hi h => by omega))
                  have HL4 : Hid (w4.heap[L]? = some (.cells #[.int .i64 n, .int .i64 j] 3 (0, 0))) := (hC3.block _ (lt_of_heap HL.out) (by omega)).trans HL.out
                  have HP3 := hid hP3
                  have HQ3 := hid hQ3
                  have td := fun w' h' => rdone_any b S0 k3 e3 w' h' hk3 hds
                  have tx := fun w' h' => xdone_any q S0 k3 e3 w' h' hk3 hds
                  have hdd : dqx S0 k3 e3 = dq S0 k3 e3 := rfl
                  rw [hdd] at tx
                  generalize dq S0 k3 e3 = D at td tx
                  have TD := hid td
                  have TX := hid tx
                  clear hdd td tx hP3 hQ3 hC3 cc CR HP HQ HL HC
                  go_wp2_with fail
                  refine (rat_any b S0 k3 e3 _ HP3.out).mono ?_
                  rintro r w5 ⟨rfl, rfl⟩
                  go_wp2_with fail
                  refine (xat_any q S0 k3 e3 _ HQ3.out).mono ?_
                  rintro r w5 ⟨rfl, rfl⟩
                  go_wp2_with fail
                  refine (rerr_any b S0 k3 e3 _ HP3.out).mono ?_
                  rintro r w5 ⟨rfl, rfl⟩
                  go_wp2_with fail
                  refine (xerr_any q S0 k3 e3 _ HQ3.out).mono ?_
                  rintro r w5 ⟨rfl, rfl⟩
                  go_wp2_with fail
                  refine (TD.out _ HP3.out).mono ?_
                  rintro r w5 ⟨rfl, m3, rfl⟩
                  go_wp2_with fail
                  refine (TX.out _ (HQ3.out.drewN _)).mono ?_
                  rintro r w5 ⟨rfl, m4, rfl⟩
                  have HP4 := fun m => hid (HP3.out.drewN m)
                  have HQ4 := fun m => hid (HQ3.out.drewN m)
                  have HB5 := fun m => hid (drewN_bel HB4.out m)
                  go_wp2_with fail
                  go_roundg 0
                  case measure => omega
                  case rel => exact ⟨2, k3, e3, by omega, by go_num, hk3, HP4 _, HQ4 _, HL4, HB5 _⟩
                · go_wp2_with fail
                  go_roundg kc
                  case measure => omega
                  case rel => exact ⟨c + 1, by omega, by go_num, HC⟩
          · go_wp2_with fail
            go_roundg k
            case measure => omega
            case rel => exact ⟨j + 1, by omega, by go_num, HB⟩
      · go_wp2_with fail
        go_ret
        exact ⟨rfl, HB.out⟩
  · have h60 : ¬ (60 : Int) < s.size := by omega
    clear h6
    go_enter Tryz.func4, Tryz.ntmps4
    go_wp2_with fail
    refine (spells_any w).mono ?_
    rintro e w1 ⟨rfl, hb1⟩
    go_wp2_with fail
    go_loopg [5, 6, 7, 8, 10, 17, 20, 35] (s.size + 1) (fun k x5 x6 x7 x8 x10 i x20 x35 wr => ∃ j : Nat, j + k = s.size + 1 ∧ i = .int .i64 j ∧ Hid (Below w.heap.size w wr))
    case atStart => exact ⟨0, by omega, rfl, hb1⟩
    case round =>
      clear hb1
      obtain ⟨j, hk, rfl, HB⟩ := hrel
      by_cases hlt : j < s.size + 1
      · obtain ⟨k, rfl⟩ : ∃ k, gk = k + 1 := ⟨gk - 1, by omega⟩
        obtain ⟨S0, hS0⟩ : ∃ S0, S0 = s.extract 0 j := ⟨_, rfl⟩
        have hds : S0.size ≤ 9223372036854775807 := by rw [hS0, ByteArray.size_extract]; omega
        have hext : s.extract 0 j = S0 := hS0.symm
        have hltI : (j : Int) < (s.size : Int) + 1 := by omega
        have hjs : (j : Int) ≤ s.size := by omega
        have hj0 : (0 : Int) ≤ (j : Int) := by omega
        have hltD : decide ((j : Int) < (s.size : Int) + 1) = true := decide_eq_true (by omega)
        clear hS0
        go_wp2_with fail
        go_loopg [6, 7, 8, 10, 20, 35] 14 (fun k x6 x7 x8 x10 i x35 wr => ∃ c : Nat, c + k = 14 ∧ i = .int .u8 c ∧ Hid (Below w.heap.size w wr))
        case atStart => exact ⟨0, by omega, rfl, HB⟩
        case round =>
          clear HB
          obtain ⟨c, hkc, rfl, HB⟩ := hrel
          by_cases hlc : c < 14
          · obtain ⟨kc, rfl⟩ : ∃ k, gk = k + 1 := ⟨gk - 1, by omega⟩
            have hsz := HB.out.size
            go_wp2_with fail
            go_cut [7, 8] (fun r x wc => ∃ b q : Nat, r = .pointer (some ⟨b, 0, none⟩) ∧ x = .pointer (some ⟨q, 0, none⟩) ∧ b ≠ q ∧ w.heap.size ≤ b ∧ w.heap.size ≤ q ∧ Hid (Rd wc b S0 0 0) ∧ Hid (RX wc q S0 0 0) ∧ Hid (Below w.heap.size w wc))
            case first =>
              go_region_held3 (fun _ => True) (trivial) (first | (go_at_call 8; refine (newreader_any _ _).mono ?_; rintro e w' ⟨rfl, rfl⟩) | (go_at_call 9; refine (xnew_any _ _).mono ?_; rintro e w' ⟨rfl, rfl⟩))
              all_goals
                go_wp2
                go_meet
                case rel => first | exact ⟨wr.heap.size, wr.heap.size + 1, rfl, rfl, by omega, by omega, by omega, heap_alloc_at (heap_new wr _), heap_new' _ _ _ (by simp), (((HB.out.alloc hsz _).alloc (by simp; omega) _).drew)⟩ | exact ⟨wr.heap.size + 1, wr.heap.size, rfl, rfl, by omega, by omega, by omega, heap_new' _ _ _ (by simp), heap_alloc_at (heap_new wr _), (((HB.out.alloc hsz _).alloc (by simp; omega) _).drew)⟩
            case rest =>
              obtain ⟨b, q, rfl, rfl, hbq, hbw, hqw, HR, HX, HBC⟩ := hcut
              clear HB hsz
              have hbl := HR.out.lt
              have hql := HX.out.lt
              go_wp2_with fail
              have HP0 : Hid (Rd (wc.alloc (.cells #[.int .i64 n, .int .i64 j] 3)) b S0 0 0) := HR.out.alloc _
              have HQ0 : Hid (RX (wc.alloc (.cells #[.int .i64 n, .int .i64 j] 3)) q S0 0 0) := HX.out.alloc _
              have HL0 : Hid ((wc.alloc (.cells #[.int .i64 n, .int .i64 j] 3)).heap[wc.heap.size]? = some (.cells #[.int .i64 n, .int .i64 j] 3 (0, 0))) := heap_new wc _
              have HC0 := hid (HBC.out.alloc HBC.out.size (.cells #[.int .i64 n, .int .i64 j] 3))
              generalize wc.alloc (.cells #[.int .i64 n, .int .i64 j] 3) = w8 at *
              obtain ⟨L, hL⟩ : ∃ L, L = wc.heap.size := ⟨_, rfl⟩
              rw [← hL] at HL0 hbl hql
              rw [← hL]
              clear hL HR HX HBC
              go_loopg [10, 35] 2 (fun k x10 i w9 => ∃ j3 k' e' : Nat, j3 + k = 2 ∧ i = .int .i64 j3 ∧ k' ≤ S0.size ∧ Hid (Rd w9 b S0 k' e') ∧ Hid (RX w9 q S0 k' e') ∧ Hid (w9.heap[L]? = some (.cells #[.int .i64 n, .int .i64 j] 3 (0, 0))) ∧ Hid (Below w.heap.size w w9))
              case atStart => exact ⟨0, 0, 0, by omega, rfl, by omega, HP0, HQ0, HL0, HC0⟩
              case round =>
                clear HP0 HQ0 HL0 HC0
                obtain ⟨j3, k', e', hj3, rfl, hk', HP, HQ, HL, HC⟩ := hrel
                rcases (show j3 = 0 ∨ j3 = 1 ∨ j3 = 2 by omega) with rfl | rfl | rfl
                · have cc : wr.cell? ⟨L, 0, none⟩ = some (.int .i64 n) := (cell_of HL.out).trans rfl
                  have cr := fun w9 (h1 : Rd w9 b S0 k' e') (h2 : RX w9 q S0 k' e') => readop_any b q S0 k' e' c (n % 18446744073709551616).toNat ⟨#[]⟩ w9 h1 h2 hbq hk' hds (by omega)
                  have CR := hid cr
                  clear cr
                  go_wp2_with fail
                  rw [hN.out]
                  refine (CR.out _ HP.out HQ.out).mono ?_
                  rintro r w4 ⟨rfl, k3, e3, hk3, hP3, hQ3, hC3⟩
                  have HB4 := hid (ch_bel HC.out hC3 (fun i hi h => by omega))
                  have HL4 : Hid (w4.heap[L]? = some (.cells #[.int .i64 n, .int .i64 j] 3 (0, 0))) := (hC3.block _ (lt_of_heap HL.out) (by omega)).trans HL.out
                  have HP3 := hid hP3
                  have HQ3 := hid hQ3
                  have td := fun w' h' => rdone_any b S0 k3 e3 w' h' hk3 hds
                  have tx := fun w' h' => xdone_any q S0 k3 e3 w' h' hk3 hds
                  have hdd : dqx S0 k3 e3 = dq S0 k3 e3 := rfl
                  rw [hdd] at tx
                  generalize dq S0 k3 e3 = D at td tx
                  have TD := hid td
                  have TX := hid tx
                  clear hdd td tx hP3 hQ3 hC3 cc CR HP HQ HL HC
                  go_wp2_with fail
                  refine (rat_any b S0 k3 e3 _ HP3.out).mono ?_
                  rintro r w5 ⟨rfl, rfl⟩
                  go_wp2_with fail
                  refine (xat_any q S0 k3 e3 _ HQ3.out).mono ?_
                  rintro r w5 ⟨rfl, rfl⟩
                  go_wp2_with fail
                  refine (rerr_any b S0 k3 e3 _ HP3.out).mono ?_
                  rintro r w5 ⟨rfl, rfl⟩
                  go_wp2_with fail
                  refine (xerr_any q S0 k3 e3 _ HQ3.out).mono ?_
                  rintro r w5 ⟨rfl, rfl⟩
                  go_wp2_with fail
                  refine (TD.out _ HP3.out).mono ?_
                  rintro r w5 ⟨rfl, m3, rfl⟩
                  go_wp2_with fail
                  refine (TX.out _ (HQ3.out.drewN _)).mono ?_
                  rintro r w5 ⟨rfl, m4, rfl⟩
                  have HP4 := fun m => hid (HP3.out.drewN m)
                  have HQ4 := fun m => hid (HQ3.out.drewN m)
                  have HB5 := fun m => hid (drewN_bel HB4.out m)
                  go_wp2_with fail
                  go_roundg 1
                  case measure => omega
                  case rel => exact ⟨1, k3, e3, by omega, by go_num, hk3, HP4 _, HQ4 _, HL4, HB5 _⟩
                · have cc : wr.cell? ⟨L, 1, none⟩ = some (.int .i64 j) := (cell_of HL.out).trans rfl
                  have cr := fun w9 (h1 : Rd w9 b S0 k' e') (h2 : RX w9 q S0 k' e') => readop_any b q S0 k' e' c j ⟨#[]⟩ w9 h1 h2 hbq hk' hds (by omega)
                  have CR := hid cr
                  clear cr
                  go_wp2_with fail
                  skip
                  refine (CR.out _ HP.out HQ.out).mono ?_
                  rintro r w4 ⟨rfl, k3, e3, hk3, hP3, hQ3, hC3⟩
                  have HB4 := hid (ch_bel HC.out hC3 (fun i hi h => by omega))
                  have HL4 : Hid (w4.heap[L]? = some (.cells #[.int .i64 n, .int .i64 j] 3 (0, 0))) := (hC3.block _ (lt_of_heap HL.out) (by omega)).trans HL.out
                  have HP3 := hid hP3
                  have HQ3 := hid hQ3
                  have td := fun w' h' => rdone_any b S0 k3 e3 w' h' hk3 hds
                  have tx := fun w' h' => xdone_any q S0 k3 e3 w' h' hk3 hds
                  have hdd : dqx S0 k3 e3 = dq S0 k3 e3 := rfl
                  rw [hdd] at tx
                  generalize dq S0 k3 e3 = D at td tx
                  have TD := hid td
                  have TX := hid tx
                  clear hdd td tx hP3 hQ3 hC3 cc CR HP HQ HL HC
                  go_wp2_with fail
                  refine (rat_any b S0 k3 e3 _ HP3.out).mono ?_
                  rintro r w5 ⟨rfl, rfl⟩
                  go_wp2_with fail
                  refine (xat_any q S0 k3 e3 _ HQ3.out).mono ?_
                  rintro r w5 ⟨rfl, rfl⟩
                  go_wp2_with fail
                  refine (rerr_any b S0 k3 e3 _ HP3.out).mono ?_
                  rintro r w5 ⟨rfl, rfl⟩
                  go_wp2_with fail
                  refine (xerr_any q S0 k3 e3 _ HQ3.out).mono ?_
                  rintro r w5 ⟨rfl, rfl⟩
                  go_wp2_with fail
                  refine (TD.out _ HP3.out).mono ?_
                  rintro r w5 ⟨rfl, m3, rfl⟩
                  go_wp2_with fail
                  refine (TX.out _ (HQ3.out.drewN _)).mono ?_
                  rintro r w5 ⟨rfl, m4, rfl⟩
                  have HP4 := fun m => hid (HP3.out.drewN m)
                  have HQ4 := fun m => hid (HQ3.out.drewN m)
                  have HB5 := fun m => hid (drewN_bel HB4.out m)
                  go_wp2_with fail
                  go_roundg 0
                  case measure => omega
                  case rel => exact ⟨2, k3, e3, by omega, by go_num, hk3, HP4 _, HQ4 _, HL4, HB5 _⟩
                · go_wp2_with fail
                  go_roundg kc
                  case measure => omega
                  case rel => exact ⟨c + 1, by omega, by go_num, HC⟩
          · go_wp2_with fail
            go_roundg k
            case measure => omega
            case rel => exact ⟨j + 1, by omega, by go_num, HB⟩
      · go_wp2_with fail
        go_ret
        exact ⟨rfl, HB.out⟩
end Go.Proofs.YtpaipoaelfhhlaaGreat
