/- The reference's Form: the bytes of some tokens, or the fault. -/
import Derived.Test.YtdkfenmhfkggdaaRPk2
namespace Go.Proofs.Ytdkfenmhfkggdaa
open Go.RowKit
set_option maxHeartbeats 4000000 in
set_option maxRecDepth 20000 in
theorem rform_any (a : Option Addr) (cap : Nat) (rs : List (ByteArray × Int × Int)) (w : World) (hl : rs.length ≤ 100000000000) (V : Trip w a rs) :
    Calls Try.prog 22 #[.slice a rs.length cap] w fun e w' => e = .returned (frmV (frm rs)) ∧ Below w.heap.size w w' := by
  obtain ⟨i0, hi, hz0, hz1, hz2⟩ := info_parts Try.info5
  obtain ⟨R, hR⟩ : ∃ R, R = frm rs := ⟨_, rfl⟩
  rw [← hR]
  have HR : Hid (fpre [] (frm (rs.drop 0)) = R) := by show _ = R; rw [fpre_nil, hR]; rfl
  have HV := hid V
  clear hR V
  go_enter Try.func22, Try.ntmps22
  go_wp2_with fail
  go_loopg [4, 5, 6, 7] rs.length (fun k o i x y wr => ∃ (j : Nat) (pre : List UInt8), j + k = rs.length ∧ i = .int .i64 j ∧ Hid (pre.length ≤ 131 * j) ∧ Hid (fpre pre (frm (rs.drop j)) = R) ∧ Hid (Own wr w.heap.size o pre) ∧ Hid (Below w.heap.size w wr) ∧ Hid (w.heap.size ≤ wr.heap.size))
  case atStart => exact ⟨0, [], by omega, rfl, Nat.zero_le _, HR, World.ownsRow_nil _ _ _ _, Below.refl _ _, Nat.le_refl _⟩
  case round =>
    clear HR
    obtain ⟨j, pre, hk, rfl, HU, HP, HO, HB, HS⟩ := hrel
    have hU := HU.out
    by_cases hlt : j < rs.length
    · obtain ⟨k, rfl⟩ : ∃ k, gk = k + 1 := ⟨gk - 1, by omega⟩
      rcases HV.out with rfl | ⟨b, off, rfl, hbl, hc⟩
      · simp at hlt
      obtain ⟨q0, q1, q2⟩ := hc j hlt
      have hp := HP.out
      rw [drop_at rs j hlt] at hp
      generalize rs.getD j (ByteArray.empty, 0, 0) = r at *
      have hrl := fun a => rb_le (r := r) (a := a)
      obtain ⟨S, n, d⟩ := r
      simp only at q0 q1 q2
      have k0 := (HB.out.cell (p := ⟨b, off + j * 3, none⟩) hbl).trans q0
      have k1 := (HB.out.cell (p := ⟨b, off + j * 3 + 1, none⟩) hbl).trans q1
      have k2 := (HB.out.cell (p := ⟨b, off + j * 3 + 2, none⟩) hbl).trans q2
      have hsz := HS.out
      have ho := HO.out
      unfold Own at ho
      generalize hN : pre.length = N0 at *
      have HN := hid hN
      clear hN
      cases hlb : lB S n d with
      | true =>
        have hrb : rb (S, n, d) = some (M.bytesOf (M.runs S.data.toList)) := by unfold rb; rw [if_pos hlb]
        have hle := hrl _ hrb
        simp only [frm, hrb] at hp
        rw [fpre_fpre] at hp
        have HP2 := hid hp
        unfold lB at hlb
        rw [decide_eq_true_iff] at hlb
        obtain ⟨rfl, rfl, h1, h2⟩ := hlb
        obtain ⟨b0, hb0⟩ : ∃ b : UInt8, b = UInt8.ofNat (S.size - 1) := ⟨_, rfl⟩
        have hbe : (S.size : Int) - 1 = (b0.toNat : Int) := by rw [hb0, M.u8_of (by omega)]; omega
        have HBY : Hid (M.bytesOf (M.runs S.data.toList) = b0 :: S.data.toList) := by
          show _ = _
          rw [runs_one (by rw [len_]; exact h1) (by rw [len_]; exact h2), hb0]
          simp only [M.Tok.bytes, len_]
        have q9 := b0.toNat_lt
        clear hp hrb hrl q0 q1 q2 HP hc HO hb0
        go_wp2_with (at_builtin; refine wpList_append_own _ rfl _ _ 57 rfl w.heap.size 5 i0 (.int .u8 0) 1 1 Try.underBytes hi hz0 hz1 hz2 rfl (by decide) _ _ _ rfl ((ho.alloc _).alloc _) ⟨wr.heap.size + 1, 0, none⟩ 1 1 (bc [b0]) rfl rfl ?c1 ?c2 ?c3 ?c4 ?c5 ?_)
        case c1 => exact cells_newN _ (bc [b0]) 5 _ (by simp)
        case c2 => exact bc_one _
        case c3 => unfold maxLen; omega
        case c4 => omega
        case c5 => simp; omega
        intro v1 w1 hown1 hgrow1 _
        have HB1 := hid (bel_step (HB.out.alloc hsz (.cells #[.string S, .int .i64 0, .int .i64 0] 46)) (ho.alloc _) (by simp; omega) hgrow1)
        have gT : w1.heap[wr.heap.size]? = some (.cells #[.string S, .int .i64 0, .int .i64 0] 46 (0, 0)) := (hgrow1.block _ (by simp; omega) (fun e => own_ne ((ho.alloc (.cells #[.string S, .int .i64 0, .int .i64 0] 46)).alloc (.cells #[.int .u8 (b0.toNat : Int)] 5)) (heap_alloc_at (heap_new wr _)) (by decide) e.symm)).trans (heap_alloc_at (heap_new wr _))
        obtain ⟨m0, m1, m2⟩ := cells3 gT
        have hsz1 := HB1.out.size
        clear hgrow1 ho gT k0 k1 k2 m1 m2
        go_wp2_with (at_builtin; refine Lib.wpList_append_own_string _ rfl _ _ 57 9 rfl w.heap.size 5 i0 Try.underBytes Try.under9 hi hz0 hz1 hz2 _ _ _ rfl hown1 S rfl ?d1 ?d2 ?d3 ?_)
        case d1 => unfold maxLen; omega
        case d2 => omega
        case d3 => omega
        intro v2 w2 hown2 hgrow2 _
        have HB2 := hid (bel_step0 HB1.out hown1 hsz1 hgrow2)
        have HO2 : Hid (Own w2 w.heap.size v2 (pre ++ M.bytesOf (M.runs S.data.toList))) := by
          rw [HBY.out]
          refine own_mk (n := N0) (m := 1 + S.size) (xs := bc [b0] ++ bc S.data.toList) ?_ HN.out ?_ ?_
          · rw [← bc_str, ← Nat.add_assoc]; first | exact hown2 | (rw [← List.append_assoc]; exact hown2)
          · rw [List.length_cons, len_]; omega
          · rw [← bc_app]; rfl
        have HS2 : Hid (w.heap.size ≤ w2.heap.size) := HB2.out.size
        clear hown1 hown2 hgrow2 HB HS m0
        go_wp2_with fail
        go_roundg k
        case measure => omega
        case rel => exact ⟨j + 1, _, by omega, by go_num, by show _ ≤ _; rw [List.length_append, HN.out]; omega, HP2, HO2, HB2, HS2⟩
      | false =>
        cases hmb : mB S n d with
        | true =>
          have hrb : rb (S, n, d) = some (M.Tok.mat n.toNat d.toNat).bytes := by unfold rb; rw [hlb, if_neg (by decide), if_pos hmb]
          have hle := hrl _ hrb
          simp only [frm, hrb] at hp
          rw [fpre_fpre] at hp
          unfold mB at hmb
          rw [decide_eq_true_iff] at hmb
          obtain ⟨N, rfl⟩ := Int.eq_ofNat_of_zero_le (show 0 ≤ n by omega)
          obtain ⟨D, rfl⟩ := Int.eq_ofNat_of_zero_le (show 0 ≤ d by omega)
          rw [Int.toNat_natCast, Int.toNat_natCast] at hp hle
          have e0 := (empty_iff S).1 hmb.1
          subst e0
          have h1 : 4 ≤ N := by omega
          have h2 : N ≤ 131 := by omega
          have h3 : D ≤ 8192 := by omega
          have h4 : 1 ≤ D := by omega
          have e1 : (N : Int) + 124 = ((UInt8.ofNat (N + 124)).toNat : Int) := by rw [M.u8_of (by omega)]; omega
          have e2 : (D : Int) / 256 = ((UInt8.ofNat (D / 256)).toNat : Int) := by rw [M.u8_of (by omega)]; omega
          have e3 : (D : Int) % 256 = ((UInt8.ofNat (D % 256)).toNat : Int) := by rw [M.u8_of (by omega)]; omega
          have HBY : Hid ((M.Tok.mat N D).bytes = [UInt8.ofNat (N + 124), UInt8.ofNat (D / 256), UInt8.ofNat (D % 256)]) := rfl
          have HP2 := hid hp
          generalize (M.Tok.mat N D).bytes = bys at *
          generalize UInt8.ofNat (N + 124) = b1 at *
          generalize UInt8.ofNat (D / 256) = b2 at *
          generalize UInt8.ofNat (D % 256) = b3 at *
          have q7 := b1.toNat_lt
          have q8 := b2.toNat_lt
          have q9 := b3.toNat_lt
          clear hp hrb hrl q0 q1 q2 HP hc HO hmb hlb
          go_wp2_with (at_builtin; refine wpList_append_own _ rfl _ _ 57 rfl w.heap.size 5 i0 (.int .u8 0) 1 1 Try.underBytes hi hz0 hz1 hz2 rfl (by decide) _ _ _ rfl ((ho.alloc _).alloc _) ⟨wr.heap.size + 1, 0, none⟩ 3 3 (bc [b1, b2, b3]) rfl rfl ?c1 ?c2 ?c3 ?c4 ?c5 ?_)
          case c1 => exact cells_newN _ (bc [b1, b2, b3]) 5 _ (by simp)
          case c2 => exact bc_one _
          case c3 => unfold maxLen; omega
          case c4 => omega
          case c5 => simp; omega
          intro v1 w1 hown1 hgrow1 _
          have HB1 := hid (bel_step (HB.out.alloc hsz (.cells #[.string ⟨#[]⟩, .int .i64 N, .int .i64 D] 46)) (ho.alloc _) (by simp; omega) hgrow1)
          have HO1 : Hid (Own w1 w.heap.size v1 (pre ++ bys)) := by
            rw [HBY.out]
            exact own_mk (r := [b1, b2, b3]) hown1 HN.out rfl rfl
          have HS1 : Hid (w.heap.size ≤ w1.heap.size) := HB1.out.size
          clear hown1 hgrow1 ho HB HS k0 k1 k2
          go_wp2_with fail
          go_roundg k
          case measure => omega
          case rel => exact ⟨j + 1, _, by omega, by go_num, by show _ ≤ _; rw [List.length_append, HN.out]; omega, HP2, HO1, HB1, HS1⟩
        | false =>
          have hrb : rb (S, n, d) = none := by unfold rb; rw [hlb, hmb]; simp
          simp only [frm, hrb] at hp
          have HC : Hid (R = none) := hp.symm
          unfold lB at hlb
          unfold mB at hmb
          rw [decide_eq_false_iff_not] at hlb hmb
          have HLB := hid hlb
          have HMB := hid hmb
          clear hp hrb hlb hmb hrl q0 q1 q2 HP hc HO ho
          by_cases z0 : 1 ≤ S.size
          · have z1 : (1 : Int) ≤ S.size := by omega
            have z2 : ((S.size : Int) == 0) = false := by rw [beq_eq_false_iff_ne]; omega
            by_cases z3 : (S.size : Int) ≤ 128
            · by_cases z4 : n = 0
              · subst z4
                have z5 : (d == 0) = false := by rw [beq_eq_false_iff_ne]; have := HLB.out; omega
                go_wp2_with fail
                go_ret2
                exact ⟨by rw [HC.out]; rfl, HB.out.alloc hsz _⟩
              · have z5 : (n == 0) = false := by rw [beq_eq_false_iff_ne]; exact z4
                clear z4
                go_wp2_with fail
                go_ret2
                exact ⟨by rw [HC.out]; rfl, HB.out.alloc hsz _⟩
            · skip
              go_wp2_with fail
              go_ret2
              exact ⟨by rw [HC.out]; rfl, HB.out.alloc hsz _⟩
          · have z1 : ¬ (1 : Int) ≤ S.size := by omega
            have e0 := (empty_iff S).1 (by omega)
            subst e0
            have hmm : ¬ ((4 ≤ n ∧ n ≤ 131) ∧ 1 ≤ d ∧ d ≤ 8192) := fun h => HMB.out ⟨rfl, h.1, h.2⟩
            have HMB := hid hmm
            clear hmm z1 z0
            by_cases g1 : 4 ≤ n
            · by_cases g2 : n ≤ 131
              · by_cases g3 : 1 ≤ d
                · have g4 : ¬ d ≤ 8192 := by have := HMB.out; omega
                  go_wp2_with fail
                  go_ret2
                  exact ⟨by rw [HC.out]; rfl, HB.out.alloc hsz _⟩
                · skip
                  go_wp2_with fail
                  go_ret2
                  exact ⟨by rw [HC.out]; rfl, HB.out.alloc hsz _⟩
              · skip
                go_wp2_with fail
                go_ret2
                exact ⟨by rw [HC.out]; rfl, HB.out.alloc hsz _⟩
            · skip
              go_wp2_with fail
              go_ret2
              exact ⟨by rw [HC.out]; rfl, HB.out.alloc hsz _⟩
    · have hp := HP.out
      rw [List.drop_eq_nil_of_le (by omega)] at hp
      have HC : Hid (R = some pre) := by show R = _; rw [← hp]; simp [frm, fpre]
      have hcv := conv_own HO.out
      clear hp
      go_wp2_with fail
      go_ret2
      exact ⟨by rw [HC.out]; rfl, HB.out⟩
end Go.Proofs.Ytdkfenmhfkggdaa
