/- ProducerOnce: its walk. -/
import Derived.Test.YtolobmhbmajolaaPe2
import Derived.Laws.BitsLemmas
namespace Go.Proofs.Ytolobmhbmajolaa
open Go.RowKit
theorem mask_b (x : Int) : 0 ≤ bits BinOp.and IntKind.i32 x 2147483647 ∧ bits BinOp.and IntKind.i32 x 2147483647 < 2147483648 := by
  have h1 : (BitVec.ofInt 32 x).toNat &&& (BitVec.ofInt 32 2147483647).toNat ≤ 2147483647 := Nat.and_le_right
  have e : bits BinOp.and IntKind.i32 x 2147483647 = IntKind.i32.wrap (((BitVec.ofInt 32 x).toNat &&& (BitVec.ofInt 32 2147483647).toNat : Nat) : Int) := rfl
  rw [e]
  generalize (BitVec.ofInt 32 x).toNat &&& (BitVec.ofInt 32 2147483647).toNat = n at *
  have : IntKind.i32.wrap (n : Int) = n := by simp only [IntKind.wrap, IntKind.bits, IntKind.signed, Bool.true_and]; split <;> simp_all <;> omega
  rw [this]
  omega
/-- What is known at the outer loop's head. -/
structure Oc (p : Int) (j : Nat) (nxv bs : Int) (L : List Nt) (F : Int → List Nt) : Prop where
  len : L.length = j
  chn : Chn L
  ok : ∀ z ∈ L, NtOk z
  nxt : ∀ y, L.getLast? = some y → nxv = nx y
  f : F p = kp L
  n0 : 0 ≤ nxv
  n1 : nxv < 2147483648
  b0 : (j : Int) + 5 ≤ bs
  b1 : bs ≤ 1099577098240
theorem Oc.step {p : Int} {j : Nat} {nxv bs : Int} {L : List Nt} {F : Int → List Nt} (h : Oc p j nxv bs L F) {n : Int} (h0 : 1 ≤ n) (h1 : n ≤ 65536) (hb : bs ≤ 1099511627776) : Oc p (j + 1) ((nxv + n) % 2147483648) (bs + n) (L ++ [⟨bs, n, nxv⟩]) (kpF' F p ⟨bs, n, nxv⟩) where
  len := by rw [List.length_append, h.len]; rfl
  chn := chn_snoc h.chn h.nxt
  ok := fun z hz => by
    rcases List.mem_append.1 hz with hz | hz
    · exact h.ok z hz
    · rw [List.mem_singleton.1 hz]; have := h.b0; have := h.n0; have := h.n1; exact ⟨by show 0 ≤ bs; omega, by show bs ≤ _; omega, h0, h1, h.n0, h.n1⟩
  nxt := fun y hy => by rw [List.getLast?_concat] at hy; injection hy with hy; subst hy; rfl
  f := by unfold kpF'; rw [if_pos rfl, h.f, kp_kp]
  n0 := by omega
  n1 := by omega
  b0 := by have := h.b0; omega
  b1 := by omega
set_option maxRecDepth 20000 in
set_option maxHeartbeats 4000000 in
theorem once_walk (p : Nat) (hp : p < 4294967296) (fst : Int) (cs : List Nat) (a : Option Addr) (cap : Nat) (seq : Int) (hs1 : seq < 2147483648) (cn : Nat) (hc1 : cn < 65536) (w : World) (hv : U16 w a cs) (hn : cs.length ≤ 140737488355328) :
    Calls Try.prog 5 #[.int .u32 p, .int .i32 fst, .slice a cs.length cap, .int .i32 seq, .int .u16 cn] w fun e w' => e = .returned (.bool true) ∧ Below w.heap.size w w' := by
  have HK := Hid.mk (knows_any w)
  have HV := Hid.mk hv
  obtain ⟨N, hN⟩ : ∃ N, N = cs.length := ⟨_, rfl⟩
  have HN := Hid.mk hN
  rw [← hN] at hn ⊢
  obtain ⟨m0, m1⟩ := mask_b fst
  obtain ⟨n0, hn0⟩ : ∃ n0 : Int, bits BinOp.and IntKind.i32 fst 2147483647 = n0 := ⟨_, rfl⟩
  rw [hn0] at m0 m1
  clear hv hN
  go_enter Try.func5, Try.ntmps5
  go_wp2_with (first | (go_at_call 8; refine HK.out.mono ?_; rintro e w1 ⟨rfl, hb1⟩; have HB1 := Hid.mk hb1; have HS : Hid (On w1 w1.heap.size (fun _ => []) 0 (.slice none 0 0) [] (w1.alloc (.cells #[.map none] 60))) := ⟨Bo.new w1, World.ownsRow_nil _ _ _ _⟩; clear hb1) | (go_at_call 9; refine (new_any _).mono ?_; rintro e w' ⟨rfl, rfl⟩))
  have HBw : Hid (∀ wx, Below w1.heap.size w1 wx → Below w.heap.size w wx) := fun wx hx => HB1.out.trans (hx.mono HB1.out.size)
  generalize hX : w1.heap.size = X at *
  clear hX HK HB1
  obtain ⟨i0, hi, hz0, hz1, hz2⟩ := info_parts Try.infoS
  go_loopg [13, 14, 15, 42] N (fun k v13 v14 v15 v42 wr => ∃ (j : Nat) (nxv bs : Int) (L : List Nt) (F : Int → List Nt), j + k = N ∧ v42 = .int .i64 j ∧ v13 = .int .i32 nxv ∧ v14 = .int .i64 bs ∧ Hid (Oc p j nxv bs L F) ∧ Hid (On w1 X F j v15 L wr))
  case atStart => exact ⟨0, n0, 5, [], fun _ => [], by omega, rfl, rfl, rfl, ⟨rfl, trivial, (fun z hz => by cases hz), (fun y hy => by cases hy), rfl, m0, m1, by omega, by omega⟩, HS.out⟩
  case round =>
    clear HS m0 m1 hn0
    obtain ⟨j, nxv, bs, L, F, hj, rfl, rfl, rfl, HO, HW⟩ := hrel
    have g0 := HO.out.n0
    have g1 := HO.out.n1
    have g2 := HO.out.b0
    have g3 := HO.out.b1
    by_cases hlt : j < N
    · obtain ⟨k', rfl⟩ : ∃ k', gk = k' + 1 := ⟨gk - 1, by omega⟩
      have hltI : (j : Int) < N := by omega
      have hjl : j < cs.length := by rw [← HN.out]; exact hlt
      rcases HV.out with e | ⟨b, off, rfl, hb, hc⟩
      · rw [e] at hjl; cases hjl
      obtain ⟨p0, p1⟩ := hc j hjl
      have q0 := ((HBw.out _ HW.out.bo.bel).cell (p := ⟨b, off + j, none⟩) hb).trans p0
      generalize cs.getD j 0 = V at *
      by_cases hbs : 1099511627776 < bs
      · clear hc p0 hb hj hjl
        by_cases hj9 : j = 0
        · have hj9D : decide ((j : Int) = 0) = true := by simpa using hj9
          have hj9I : (j : Int) = 0 := by omega
          have HJ9 := Hid.mk hj9
          obtain ⟨va, vc, rfl⟩ : ∃ va vc, u15 = .slice va j vc := by
            have := HW.out.ro
            rw [HO.out.len] at this
            rcases this.2 with ⟨h1, _⟩ | ⟨g, cap', cur, h1, _⟩
            · exact ⟨_, _, by rw [h1, hj9]⟩
            · exact ⟨_, _, h1⟩
          clear hj9 hj9I
          go_wp2
          go_ret
          exact ⟨rfl, HBw.out _ HW.out.bo.bel⟩
        · have hrow := HW.out.ro
          rw [HO.out.len] at hrow
          rcases hrow.2 with ⟨_, h2⟩ | ⟨g, cap3, cur, rfl, _, _, cc1, cc2, _, _⟩
          · exact absurd h2 hj9
          clear hrow
          have hj9I : ¬ (j : Int) = 0 := by omega
          have hj9D : decide ((j : Int) = 0) = false := by simpa using hj9I
          by_cases hsq : seq < 0
          · have hsqD : decide (seq < 0) = true := by simpa using hsq
            go_wp2
            go_ret
            exact ⟨rfl, HBw.out _ HW.out.bo.bel⟩
          · have hsqD : decide (seq < 0) = false := by simpa using hsq
            obtain ⟨n9, hn9⟩ : ∃ n9 : Int, (cn : Int) + 1 = n9 := ⟨_, rfl⟩
            have hcm : (cn : Int) % 65536 = cn := by omega
            have z1 : 1 ≤ n9 := by omega
            have z2 : n9 ≤ 65536 := by omega
            obtain ⟨c1, c2, hch⟩ : ∃ c1 c2, chk (kp L) p seq n9 = (c1, c2) := ⟨_, _, rfl⟩
            have hLne : L ≠ [] := fun e => hj9 (by rw [← HO.out.len, e]; rfl)
            have HF1 : Hid (seq = nxv → c1 = 0 ∧ c2 = 0) := fun t => by
              have := chk_next (l := kp L) (p := p) (seq := seq) (cnt := n9) (by omega) (by omega) z1 z2 (fun y hy => by rw [t]; exact HO.out.nxt y (by rw [← kp_last]; exact hy))
              rw [hch] at this
              injection this with e1 e2
              exact ⟨e1, e2⟩
            have HF2 : Hid (¬ seq = nxv → if (kp L).any (isB seq n9) = true then c2 = 62 else c1 = 0 ∧ (c2 = 63 ∨ c2 = 64)) := fun t => by
              have := chk_else (l := kp L) (p := p) (seq := seq) (cnt := n9) (by omega) (by omega) z1 z2 (kp_ne' hLne) (fun y hy e => t (by rw [e]; exact (HO.out.nxt y (by rw [← kp_last]; exact hy)).symm))
              rw [hch] at this
              split
              · rename_i hb
                rw [if_pos hb] at this
                exact this
              · rename_i hb
                rw [if_neg hb] at this
                rcases this with e | e
                · injection e with e1 e2
                  exact ⟨e1, Or.inl e2⟩
                · injection e with e1 e2
                  exact ⟨e1, Or.inr e2⟩
            have HC9 : Hid (Calls Try.prog 19 #[.pointer (some ⟨X, 0, none⟩), .int .i64 p, .int .i32 seq, .int .i64 n9] wr fun e w' => e = .returned (.tuple #[.int .i64 c1, .int .i64 c2]) ∧ On w1 X F j (.slice (some ⟨g, 0, none⟩) j cap3) L w') := by
              have h1 := HW.out.bo.check p seq n9 (by omega) (by omega) hs1
              rw [HO.out.f, hch] at h1
              exact h1.mono fun e w' h => ⟨h.1, HW.out.call h.2⟩
            clear hch hLne
            by_cases h5 : 5 < j
            · obtain ⟨D, hD⟩ : ∃ D : Nat, D + 5 = j := ⟨j - 5, by omega⟩
              have hDI : (j : Int) - 5 = D := by omega
              have hD0 : (0 : Int) < D := by omega
              have hDc : ¬ cap3 = D := by omega
              have hDl : (D : Int) ≤ (j : Int) := by omega
              have hDl2 : D ≤ j := by omega
              have hDc2 : D ≤ cap3 := by omega
              have hM : j - D = 5 := by omega
              go_wp2_with (go_at_call 19; with_reducible refine HC9.out.mono ?_; rintro e w9 ⟨rfl, h9⟩; have HW9 := Hid.mk h9; clear h9)
              have HKy : Hid (∀ i, i < 5 → ∃ y : Nt, (kp L).take (i + 1) = (kp L).take i ++ [y] ∧ L.getD (D + i) nt0 = y) := fun i hi => by
                have hl : L.length = j := HO.out.len
                have hk : (kp L).length = 5 := by unfold kp; rw [List.length_drop, hl]; omega
                refine ⟨_, ?_, rfl⟩
                rw [List.take_succ_eq_append_getElem (by rw [hk]; exact hi)]
                congr 2
                have e : (kp L)[i]? = L[D + i]? := by unfold kp; rw [List.getElem?_drop, hl, show j - 5 + i = D + i from by omega]
                rw [List.getElem?_eq_getElem (by rw [hk]; exact hi), List.getElem?_eq_getElem (by rw [hl]; omega)] at e
                injection e with e
                rw [e, List.getD_eq_getElem?_getD, List.getElem?_eq_getElem (by rw [hl]; omega)]
                rfl
              have HAll : Hid ((kp L).take 5 = kp L) := List.take_of_length_le (by unfold kp; rw [List.length_drop, HO.out.len]; omega)
              go_loopg [30, 165] 5 (fun k v30 v wr => ∃ i : Nat, i + k = 5 ∧ v = .int .i64 i ∧ v30 = .bool (((kp L).take i).any (isB seq n9)) ∧ Hid (On w1 X F j (.slice (some ⟨g, 0, none⟩) j cap3) L wr))
              case atStart => exact ⟨0, by omega, rfl, rfl, HW9.out⟩
              case round =>
                clear HW9
                obtain ⟨i, hi1, rfl, rfl, HE⟩ := hrel
                by_cases hil : i < 5
                · obtain ⟨k2, rfl⟩ : ∃ k2, gk = k2 + 1 := ⟨gk - 1, by omega⟩
                  have hilI : (i : Int) < 5 := by omega
                  obtain ⟨y, hy, hgy⟩ := HKy.out i hil
                  have hcl : ∀ k, k < 3 → wr.cell? ⟨g, (D + i) * 3 + k, none⟩ = (sc y)[k]? := fun k hk => by
                    have h0 : wr.ownsRow X 51 3 (.slice (some ⟨g, 0, none⟩) j cap3) j (scs L) := by have := HE.out.ro; rw [HO.out.len] at this; exact this
                    rw [h0.cellAt ((D + i) * 3 + k) (by omega), scs_at (by rw [HO.out.len]; omega) hk, hgy]
                  have r0 : wr.cell? ⟨g, D * 3 + i * 3, none⟩ = some (.int .i32 y.s) := by have := hcl 0 (by omega); rw [show (D + i) * 3 + 0 = D * 3 + i * 3 from by omega] at this; exact this
                  have r1 : wr.cell? ⟨g, D * 3 + i * 3 + 1, none⟩ = some (.int .i64 y.c) := by have := hcl 1 (by omega); rw [show (D + i) * 3 + 1 = D * 3 + i * 3 + 1 from by omega] at this; exact this
                  have r2 : wr.cell? ⟨g, D * 3 + i * 3 + 2, none⟩ = some (.int .i64 y.b) := by have := hcl 2 (by omega); rw [show (D + i) * 3 + 2 = D * 3 + i * 3 + 2 from by omega] at this; exact this
                  have HI := Hid.mk hi1
                  have HY : Hid (((kp L).take (i + 1)).any (isB seq n9) = (((kp L).take i).any (isB seq n9) || isB seq n9 y)) := by
                    show _ = _
                    rw [hy, List.any_append]
                    simp
                  have HE2 : Hid (∀ o, On w1 X F j (.slice (some ⟨g, 0, none⟩) j cap3) L (wr.alloc o)) := fun o => HE.out.call ((Below.refl _ wr).alloc (Nat.le_refl _) o)
                  clear hcl hy hgy hi1 hil HE
                  generalize ((kp L).take i).any (isB seq n9) = b0 at *
                  cases b0
                  · by_cases t1 : y.s = seq
                    · by_cases t2 : y.c = n9
                      · have HB : Hid (isB seq n9 y = true) := by show _ = _; unfold isB; simp [t1, t2]
                        rw [HB.out] at HY
                        have t1' : decide (y.s = seq) = true := by simpa using t1
                        have t2' : decide (y.c = n9) = true := by simpa using t2
                        go_wp2
                        go_roundg k2
                        case measure => omega
                        case rel => exact ⟨i + 1, by have := HI.out; omega, congrArg (Value.int .i64) (by omega), by rw [HY.out]; first | rfl | simp [t2], HE2.out _⟩
                      · have HB : Hid (isB seq n9 y = false) := by show _ = _; unfold isB; simp [t2]
                        rw [HB.out] at HY
                        have t1' : decide (y.s = seq) = true := by simpa using t1
                        have t2' : decide (y.c = n9) = false := by simpa using t2
                        go_wp2
                        go_roundg k2
                        case measure => omega
                        case rel => exact ⟨i + 1, by have := HI.out; omega, congrArg (Value.int .i64) (by omega), by rw [HY.out]; first | rfl | simp [t2], HE2.out _⟩
                    · have HB : Hid (isB seq n9 y = false) := by show _ = _; unfold isB; simp [t1]
                      rw [HB.out] at HY
                      have t1' : decide (y.s = seq) = false := by simpa using t1
                      go_wp2
                      go_roundg k2
                      case measure => omega
                      case rel => exact ⟨i + 1, by have := HI.out; omega, congrArg (Value.int .i64) (by omega), by rw [HY.out]; first | rfl | simp [t2], HE2.out _⟩
                  · go_wp2
                    go_roundg k2
                    case measure => omega
                    case rel => exact ⟨i + 1, by have := HI.out; omega, congrArg (Value.int .i64) (by omega), by rw [HY.out]; first | rfl | simp [t2], HE2.out _⟩
                · have hilI : ¬ (i : Int) < 5 := by omega
                  obtain rfl : i = 5 := by omega
                  rw [HAll.out]
                  clear hil hi1
                  by_cases t : seq = nxv
                  · obtain ⟨rfl, rfl⟩ := HF1.out t
                    have t' : decide (seq = nxv) = true := by simpa using t
                    go_wp2
                    go_ret
                    exact ⟨rfl, HBw.out _ HE.out.bo.bel⟩
                  · have t' : decide (seq = nxv) = false := by simpa using t
                    have hF := HF2.out t
                    generalize (kp L).any (isB seq n9) = bb at *
                    cases bb
                    · obtain ⟨rfl, rfl | rfl⟩ : c1 = 0 ∧ (c2 = 63 ∨ c2 = 64) := by simpa using hF
                      · go_wp2
                        go_ret
                        exact ⟨rfl, HBw.out _ HE.out.bo.bel⟩
                      · go_wp2
                        go_ret
                        exact ⟨rfl, HBw.out _ HE.out.bo.bel⟩
                    · obtain rfl : c2 = 62 := by simpa using hF
                      go_wp2
                      go_ret
                      exact ⟨rfl, HBw.out _ HE.out.bo.bel⟩
            · have h5I : ¬ (0 : Int) < (j : Int) - 5 := by omega
              have h5I2 : (j : Int) - 5 ≤ 0 := by omega
              go_wp2_with (go_at_call 19; with_reducible refine HC9.out.mono ?_; rintro e w9 ⟨rfl, h9⟩; have HW9 := Hid.mk h9; clear h9)
              have HKy : Hid (∀ i, i < j → ∃ y : Nt, (kp L).take (i + 1) = (kp L).take i ++ [y] ∧ L.getD (0 + i) nt0 = y) := fun i hi => by
                have hl : L.length = j := HO.out.len
                have hk : (kp L).length = j := by unfold kp; rw [List.length_drop, hl]; omega
                refine ⟨_, ?_, rfl⟩
                rw [List.take_succ_eq_append_getElem (by rw [hk]; exact hi)]
                congr 2
                have e : (kp L)[i]? = L[0 + i]? := by unfold kp; rw [List.getElem?_drop, hl, show j - 5 + i = 0 + i from by omega]
                rw [List.getElem?_eq_getElem (by rw [hk]; exact hi), List.getElem?_eq_getElem (by rw [hl]; omega)] at e
                injection e with e
                rw [e, List.getD_eq_getElem?_getD, List.getElem?_eq_getElem (by rw [hl]; omega)]
                rfl
              have HAll : Hid ((kp L).take j = kp L) := List.take_of_length_le (by unfold kp; rw [List.length_drop, HO.out.len]; omega)
              go_loopg [30, 165] j (fun k v30 v wr => ∃ i : Nat, i + k = j ∧ v = .int .i64 i ∧ v30 = .bool (((kp L).take i).any (isB seq n9)) ∧ Hid (On w1 X F j (.slice (some ⟨g, 0, none⟩) j cap3) L wr))
              case atStart => exact ⟨0, by omega, rfl, rfl, HW9.out⟩
              case round =>
                clear HW9
                obtain ⟨i, hi1, rfl, rfl, HE⟩ := hrel
                by_cases hil : i < j
                · obtain ⟨k2, rfl⟩ : ∃ k2, gk = k2 + 1 := ⟨gk - 1, by omega⟩
                  have hilI : (i : Int) < (j : Int) := by omega
                  obtain ⟨y, hy, hgy⟩ := HKy.out i hil
                  have hcl : ∀ k, k < 3 → wr.cell? ⟨g, (0 + i) * 3 + k, none⟩ = (sc y)[k]? := fun k hk => by
                    have h0 : wr.ownsRow X 51 3 (.slice (some ⟨g, 0, none⟩) j cap3) j (scs L) := by have := HE.out.ro; rw [HO.out.len] at this; exact this
                    rw [h0.cellAt ((0 + i) * 3 + k) (by omega), scs_at (by rw [HO.out.len]; omega) hk, hgy]
                  have r0 : wr.cell? ⟨g, i * 3, none⟩ = some (.int .i32 y.s) := by have := hcl 0 (by omega); rw [show (0 + i) * 3 + 0 = i * 3 from by omega] at this; exact this
                  have r1 : wr.cell? ⟨g, i * 3 + 1, none⟩ = some (.int .i64 y.c) := by have := hcl 1 (by omega); rw [show (0 + i) * 3 + 1 = i * 3 + 1 from by omega] at this; exact this
                  have r2 : wr.cell? ⟨g, i * 3 + 2, none⟩ = some (.int .i64 y.b) := by have := hcl 2 (by omega); rw [show (0 + i) * 3 + 2 = i * 3 + 2 from by omega] at this; exact this
                  have HI := Hid.mk hi1
                  have HY : Hid (((kp L).take (i + 1)).any (isB seq n9) = (((kp L).take i).any (isB seq n9) || isB seq n9 y)) := by
                    show _ = _
                    rw [hy, List.any_append]
                    simp
                  have HE2 : Hid (∀ o, On w1 X F j (.slice (some ⟨g, 0, none⟩) j cap3) L (wr.alloc o)) := fun o => HE.out.call ((Below.refl _ wr).alloc (Nat.le_refl _) o)
                  clear hcl hy hgy hi1 hil HE
                  generalize ((kp L).take i).any (isB seq n9) = b0 at *
                  cases b0
                  · by_cases t1 : y.s = seq
                    · by_cases t2 : y.c = n9
                      · have HB : Hid (isB seq n9 y = true) := by show _ = _; unfold isB; simp [t1, t2]
                        rw [HB.out] at HY
                        have t1' : decide (y.s = seq) = true := by simpa using t1
                        have t2' : decide (y.c = n9) = true := by simpa using t2
                        go_wp2
                        go_roundg k2
                        case measure => omega
                        case rel => exact ⟨i + 1, by have := HI.out; omega, congrArg (Value.int .i64) (by omega), by rw [HY.out]; first | rfl | simp [t2], HE2.out _⟩
                      · have HB : Hid (isB seq n9 y = false) := by show _ = _; unfold isB; simp [t2]
                        rw [HB.out] at HY
                        have t1' : decide (y.s = seq) = true := by simpa using t1
                        have t2' : decide (y.c = n9) = false := by simpa using t2
                        go_wp2
                        go_roundg k2
                        case measure => omega
                        case rel => exact ⟨i + 1, by have := HI.out; omega, congrArg (Value.int .i64) (by omega), by rw [HY.out]; first | rfl | simp [t2], HE2.out _⟩
                    · have HB : Hid (isB seq n9 y = false) := by show _ = _; unfold isB; simp [t1]
                      rw [HB.out] at HY
                      have t1' : decide (y.s = seq) = false := by simpa using t1
                      go_wp2
                      go_roundg k2
                      case measure => omega
                      case rel => exact ⟨i + 1, by have := HI.out; omega, congrArg (Value.int .i64) (by omega), by rw [HY.out]; first | rfl | simp [t2], HE2.out _⟩
                  · go_wp2
                    go_roundg k2
                    case measure => omega
                    case rel => exact ⟨i + 1, by have := HI.out; omega, congrArg (Value.int .i64) (by omega), by rw [HY.out]; first | rfl | simp [t2], HE2.out _⟩
                · have hilI : ¬ (i : Int) < (j : Int) := by omega
                  obtain rfl : i = j := by omega
                  rw [HAll.out]
                  clear hil hi1
                  by_cases t : seq = nxv
                  · obtain ⟨rfl, rfl⟩ := HF1.out t
                    have t' : decide (seq = nxv) = true := by simpa using t
                    go_wp2
                    go_ret
                    exact ⟨rfl, HBw.out _ HE.out.bo.bel⟩
                  · have t' : decide (seq = nxv) = false := by simpa using t
                    have hF := HF2.out t
                    generalize (kp L).any (isB seq n9) = bb at *
                    cases bb
                    · obtain ⟨rfl, rfl | rfl⟩ : c1 = 0 ∧ (c2 = 63 ∨ c2 = 64) := by simpa using hF
                      · go_wp2
                        go_ret
                        exact ⟨rfl, HBw.out _ HE.out.bo.bel⟩
                      · go_wp2
                        go_ret
                        exact ⟨rfl, HBw.out _ HE.out.bo.bel⟩
                    · obtain rfl : c2 = 62 := by simpa using hF
                      go_wp2
                      go_ret
                      exact ⟨rfl, HBw.out _ HE.out.bo.bel⟩
      · have hbs' : bs ≤ 1099511627776 := by omega
        obtain ⟨n, hnn⟩ : ∃ n : Int, (V : Int) + 1 = n := ⟨_, rfl⟩
        have hVm : (V : Int) % 65536 = V := by omega
        have n1 : 1 ≤ n := by omega
        have n2 : n ≤ 65536 := by omega
        have HC : Hid (∀ y, On w1 X F j u15 L y → Calls Try.prog 19 #[.pointer (some ⟨X, 0, none⟩), .int .i64 p, .int .i32 nxv, .int .i64 n] y fun e w' => e = .returned (.tuple #[.int .i64 0, .int .i64 0]) ∧ On w1 X F j u15 L w') := fun y hy => by
          have := hy.bo.check p nxv n (by omega) (by omega) g1
          rw [HO.out.f, chk_next (by omega) g0 n1 n2 (fun z hz => HO.out.nxt z (by rw [← kp_last]; exact hz))] at this
          exact this.mono fun e w' h => ⟨h.1, hy.call h.2⟩
        have HT : Hid (∀ y, On w1 X F j u15 L y → Calls Try.prog 20 #[.pointer (some ⟨X, 0, none⟩), hdV bs 0 false n 0 0 p nxv] y fun e w' => e = .returned (.int .i64 0) ∧ On w1 X (kpF' F p ⟨bs, n, nxv⟩) (j + 1) u15 L w') := fun y hy =>
          hy.note bs 0 false n 0 0 p nxv (good_of (by omega) g0 n1 n2 bs (by omega) (by omega)) g1 (by omega) (by omega) (by omega)
        have HO2 := Hid.mk (HO.out.step n1 n2 hbs')
        have hjb : j ≤ 1099511627776 := by omega
        have HJ := Hid.mk hj
        have HLn := Hid.mk HO.out.len
        by_cases hj0 : 0 < j
        · have hj0I : (0 : Int) < j := by omega
          have HX : Hid (∀ y, On w1 X F j u15 L y → Calls Try.prog 18 #[.pointer (some ⟨X, 0, none⟩), .int .i64 p] y fun e w' => e = .returned (.tuple #[.int .i32 nxv, .bool true]) ∧ On w1 X F j u15 L w') := fun y hy => by
            have := hy.bo.next p (by omega) (by omega)
            obtain ⟨x, hx, _⟩ := last_of (l := L) (fun e => by have := HO.out.len; rw [e] at this; simp at this; omega)
            have e1 : Go.Proofs.Ytolobmhbmajolaa.nxt (F p) = nxv := by rw [HO.out.f]; unfold Go.Proofs.Ytolobmhbmajolaa.nxt; rw [kp_last, hx]; exact (HO.out.nxt x hx).symm
            have e2 : (!(F p).isEmpty) = true := by
              have : F p ≠ [] := by rw [HO.out.f]; exact kp_ne' (fun e => by rw [e] at hx; cases hx)
              cases hc : F p with
              | nil => exact absurd hc this
              | cons a r => rfl
            rw [e1, e2] at this
            exact this.mono fun e w' h => ⟨h.1, hy.call h.2⟩
          clear hc p0 hb hj hjl hlt
          go_wp2_with (first | (go_at_call 18; with_reducible refine (HX.out _ HW.out).mono ?_; rintro e w2 ⟨rfl, h2⟩; have H2 := Hid.mk h2; clear h2) | (go_at_call 19; with_reducible refine (HC.out _ H2.out).mono ?_; rintro e w3 ⟨rfl, h3⟩; have H3 := Hid.mk h3; clear h3) | (go_at_call 20; with_reducible refine (HT.out _ H3.out).mono ?_; rintro e w4 ⟨rfl, h4⟩; have H4 := Hid.mk h4; clear h4) | (at_builtin; refine wpList_append_lies _ rfl _ _ 43 rfl X 51 i0 (.agg #[.int .i32 0, .int .i64 0, .int .i64 0]) 3 24 Try.underlying43 hi hz0 hz1 hz2 rfl (by decide) _ j (scs L) rfl ?c0 ⟨w4.heap.size, 0, none⟩ 1 1 (sc ⟨bs, n, nxv⟩) rfl rfl ?c1 ?c2 ?c3 ?c4 ?c5 ?c6 _ rfl ?_))
          case c0 => have := (H4.out.call ((Below.refl _ w4).alloc (Nat.le_refl _) (.cells #[.int .i32 nxv, .int .i64 n, .int .i64 bs] 51))).ro; rw [HLn.out] at this; exact this
          case c1 => exact World.news_of_block (heap_new w4 _)
          case c2 =>
            intro u hu
            simp only [sc, List.mem_cons, List.not_mem_nil, or_false] at hu
            rcases hu with rfl | rfl | rfl <;> rfl
          case c3 => omega
          case c4 => unfold maxLen; omega
          case c5 => omega
          case c6 => have := H4.out.bo.le; simp; omega
          intro g cap3 w5 hown hgrow hat hlt5
          have HE := Hid.mk ((H4.out.call ((Below.refl _ w4).alloc (Nat.le_refl _) (.cells #[.int .i32 nxv, .int .i64 n, .int .i64 bs] 51))).push (x := ⟨bs, n, nxv⟩) (g := g) (cap := cap3) (by rw [HLn.out]; exact hown) hgrow)
          rw [HLn.out] at HE
          obtain ⟨cc1, cc2⟩ : j + 1 ≤ cap3 ∧ cap3 ≤ maxLen := by
            rcases hown.2 with ⟨h1, _⟩ | ⟨g', cap', cur, h1, _, _, h2, h3, _⟩
            · cases h1
            · injection h1 with _ _ h1; subst h1; exact ⟨h2, h3⟩
          obtain ⟨nv, hnv⟩ : ∃ nv, (nxv + n) % 2147483648 = nv := ⟨_, rfl⟩
          obtain ⟨bv, hbv⟩ : ∃ bv, bs + n = bv := ⟨_, rfl⟩
          rw [hnv, hbv] at HO2
          have v0 : 0 ≤ nv := by omega
          have v1 : nv < 2147483648 := by omega
          clear hown hgrow hat hlt5 H4 HT HC
          by_cases h5 : 5 < j + 1
          · obtain ⟨D, hD⟩ : ∃ D : Nat, D + 5 = j + 1 := ⟨j + 1 - 5, by omega⟩
            have hDI : ((j + 1 : Nat) : Int) - 5 = D := by omega
            have hDI2 : (j : Int) + 1 - 5 = D := by omega
            have hD0 : (0 : Int) < D := by omega
            have hDc : ¬ cap3 = D := by omega
            have hDl : (D : Int) ≤ ((j + 1 : Nat) : Int) := by omega
            have hDl2 : D ≤ j + 1 := by omega
            have hDc2 : D ≤ cap3 := by omega
            have hM : j + 1 - D = 5 := by omega
            go_wp2
            have HNV := Hid.mk hnv
            clear hnv
            have HKy : Hid (∀ i, i < 5 → ∃ y : Nt, y ∈ kp (L ++ [⟨bs, n, nxv⟩]) ∧ (L ++ [(⟨bs, n, nxv⟩ : Nt)]).getD (D + i) nt0 = y) := fun i hi => by
              have hl : (L ++ [(⟨bs, n, nxv⟩ : Nt)]).length = j + 1 := HO2.out.len
              refine ⟨_, ?_, rfl⟩
              unfold kp
              rw [hl, List.getD_eq_getElem?_getD, List.getElem?_eq_getElem (by rw [hl]; omega), Option.getD_some]
              have e : (List.drop (j + 1 - 5) (L ++ [(⟨bs, n, nxv⟩ : Nt)]))[i]? = some ((L ++ [(⟨bs, n, nxv⟩ : Nt)])[D + i]'(by rw [hl]; omega)) := by
                rw [List.getElem?_drop, show j + 1 - 5 + i = D + i from by omega, List.getElem?_eq_getElem (by rw [hl]; omega)]
              exact List.mem_of_getElem? e
            go_loopg [115] 5 (fun k v wr => ∃ i : Nat, i + k = 5 ∧ v = .int .i64 i ∧ Hid (On w1 X (kpF' F p ⟨bs, n, nxv⟩) (j + 1) (.slice (some ⟨g, 0, none⟩) (j + 1) cap3) (L ++ [⟨bs, n, nxv⟩]) wr))
            case atStart => exact ⟨0, by omega, rfl, HE.out⟩
            case round =>
              clear HE
              obtain ⟨i, hi1, rfl, HE⟩ := hrel
              by_cases hil : i < 5
              · obtain ⟨k2, rfl⟩ : ∃ k2, gk = k2 + 1 := ⟨gk - 1, by omega⟩
                have hilI : (i : Int) < 5 := by omega
                have hilJ : (i : Int) < 5 := by omega
                obtain ⟨y, hy, hgy⟩ := HKy.out i hil
                have hcl : ∀ k, k < 3 → wr.cell? ⟨g, (D + i) * 3 + k, none⟩ = (sc y)[k]? := fun k hk => by
                  have h0 : wr.ownsRow X 51 3 (.slice (some ⟨g, 0, none⟩) (j + 1) cap3) (j + 1) (scs (L ++ [(⟨bs, n, nxv⟩ : Nt)])) := by have := HE.out.ro; rw [HO2.out.len] at this; exact this
                  rw [h0.cellAt ((D + i) * 3 + k) (by omega), scs_at (by rw [HO2.out.len]; omega) hk, hgy]
                have r0 : wr.cell? ⟨g, D * 3 + i * 3, none⟩ = some (.int .i32 y.s) := by have := hcl 0 (by omega); rw [show (D + i) * 3 + 0 = D * 3 + i * 3 from by omega] at this; exact this
                have r1 : wr.cell? ⟨g, D * 3 + i * 3 + 1, none⟩ = some (.int .i64 y.c) := by have := hcl 1 (by omega); rw [show (D + i) * 3 + 1 = D * 3 + i * 3 + 1 from by omega] at this; exact this
                have r2 : wr.cell? ⟨g, D * 3 + i * 3 + 2, none⟩ = some (.int .i64 y.b) := by have := hcl 2 (by omega); rw [show (D + i) * 3 + 2 = D * 3 + i * 3 + 2 from by omega] at this; exact this
                have hyk := HO2.out.ok y (kp_mem hy)
                have HC3 : Hid (Calls Try.prog 19 #[.pointer (some ⟨X, 0, none⟩), .int .i64 p, .int .i32 y.s, .int .i64 y.c] (wr.alloc (.cells #[.int .i32 y.s, .int .i64 y.c, .int .i64 y.b] 51)) fun e w' => e = .returned (.tuple #[.int .i64 y.b, .int .i64 62]) ∧ On w1 X (kpF' F p ⟨bs, n, nxv⟩) (j + 1) (.slice (some ⟨g, 0, none⟩) (j + 1) cap3) (L ++ [⟨bs, n, nxv⟩]) w' ∧ w'.cell? ⟨wr.heap.size, 2, none⟩ = some (.int .i64 y.b)) := by
                  have hoa := HE.out.call ((Below.refl _ wr).alloc (Nat.le_refl _) (.cells #[.int .i32 y.s, .int .i64 y.c, .int .i64 y.b] 51))
                  have h1 := hoa.bo.check p y.s y.c (by omega) (by omega) hyk.s1
                  rw [HO2.out.f, chk_twice (by omega) (show Chn (kp (L ++ [⟨bs, n, nxv⟩])) from chn_drop _ HO2.out.chn) (fun z hz => HO2.out.ok z (kp_mem hz)) (kp_len _) hy] at h1
                  exact h1.mono fun e w' h => ⟨h.1, hoa.call h.2, (cell_of ((h.2.block wr.heap.size (by simp)).trans (heap_new wr _))).trans rfl⟩
                have HI := Hid.mk hi1
                clear hcl hy hgy hyk hi1 hil HE
                go_wp2_with (go_at_call 19; with_reducible refine HC3.out.mono ?_; rintro e w6 ⟨rfl, h6, x2⟩; have H6 := Hid.mk h6; clear h6)
                go_roundg k2
                case measure => omega
                case rel => exact ⟨i + 1, by have := HI.out; omega, congrArg (Value.int .i64) (by omega), H6.out⟩
              · have hilI : ¬ (i : Int) < 5 := by omega
                have hilJ : ¬ (i : Int) < 5 := by omega
                have HI := Hid.mk hi1
                clear hil hi1
                go_wp2
                go_roundg k'
                case measure => omega
                case rel => exact ⟨j + 1, nv, bv, _, _, by have := HJ.out; omega, congrArg (Value.int .i64) (by omega), rfl, rfl, HO2.out, HE.out⟩
          · have h5I : ¬ (0 : Int) < ((j + 1 : Nat) : Int) - 5 := by omega
            have h5I2 : (j : Int) + 1 - 5 ≤ 0 := by omega
            go_wp2
            have HNV := Hid.mk hnv
            clear hnv
            have HKy : Hid (∀ i, i < (j + 1) → ∃ y : Nt, y ∈ kp (L ++ [⟨bs, n, nxv⟩]) ∧ (L ++ [(⟨bs, n, nxv⟩ : Nt)]).getD (0 + i) nt0 = y) := fun i hi => by
              have hl : (L ++ [(⟨bs, n, nxv⟩ : Nt)]).length = j + 1 := HO2.out.len
              refine ⟨_, ?_, rfl⟩
              unfold kp
              rw [hl, List.getD_eq_getElem?_getD, List.getElem?_eq_getElem (by rw [hl]; omega), Option.getD_some]
              have e : (List.drop (j + 1 - 5) (L ++ [(⟨bs, n, nxv⟩ : Nt)]))[i]? = some ((L ++ [(⟨bs, n, nxv⟩ : Nt)])[0 + i]'(by rw [hl]; omega)) := by
                rw [List.getElem?_drop, show j + 1 - 5 + i = 0 + i from by omega, List.getElem?_eq_getElem (by rw [hl]; omega)]
              exact List.mem_of_getElem? e
            go_loopg [115] (j + 1) (fun k v wr => ∃ i : Nat, i + k = (j + 1) ∧ v = .int .i64 i ∧ Hid (On w1 X (kpF' F p ⟨bs, n, nxv⟩) (j + 1) (.slice (some ⟨g, 0, none⟩) (j + 1) cap3) (L ++ [⟨bs, n, nxv⟩]) wr))
            case atStart => exact ⟨0, by omega, rfl, HE.out⟩
            case round =>
              clear HE
              obtain ⟨i, hi1, rfl, HE⟩ := hrel
              by_cases hil : i < (j + 1)
              · obtain ⟨k2, rfl⟩ : ∃ k2, gk = k2 + 1 := ⟨gk - 1, by omega⟩
                have hilI : (i : Int) < ((j + 1 : Nat) : Int) := by omega
                have hilJ : (i : Int) < (j : Int) + 1 := by omega
                obtain ⟨y, hy, hgy⟩ := HKy.out i hil
                have hcl : ∀ k, k < 3 → wr.cell? ⟨g, (0 + i) * 3 + k, none⟩ = (sc y)[k]? := fun k hk => by
                  have h0 : wr.ownsRow X 51 3 (.slice (some ⟨g, 0, none⟩) (j + 1) cap3) (j + 1) (scs (L ++ [(⟨bs, n, nxv⟩ : Nt)])) := by have := HE.out.ro; rw [HO2.out.len] at this; exact this
                  rw [h0.cellAt ((0 + i) * 3 + k) (by omega), scs_at (by rw [HO2.out.len]; omega) hk, hgy]
                have r0 : wr.cell? ⟨g, i * 3, none⟩ = some (.int .i32 y.s) := by have := hcl 0 (by omega); rw [show (0 + i) * 3 + 0 = i * 3 from by omega] at this; exact this
                have r1 : wr.cell? ⟨g, i * 3 + 1, none⟩ = some (.int .i64 y.c) := by have := hcl 1 (by omega); rw [show (0 + i) * 3 + 1 = i * 3 + 1 from by omega] at this; exact this
                have r2 : wr.cell? ⟨g, i * 3 + 2, none⟩ = some (.int .i64 y.b) := by have := hcl 2 (by omega); rw [show (0 + i) * 3 + 2 = i * 3 + 2 from by omega] at this; exact this
                have hyk := HO2.out.ok y (kp_mem hy)
                have HC3 : Hid (Calls Try.prog 19 #[.pointer (some ⟨X, 0, none⟩), .int .i64 p, .int .i32 y.s, .int .i64 y.c] (wr.alloc (.cells #[.int .i32 y.s, .int .i64 y.c, .int .i64 y.b] 51)) fun e w' => e = .returned (.tuple #[.int .i64 y.b, .int .i64 62]) ∧ On w1 X (kpF' F p ⟨bs, n, nxv⟩) (j + 1) (.slice (some ⟨g, 0, none⟩) (j + 1) cap3) (L ++ [⟨bs, n, nxv⟩]) w' ∧ w'.cell? ⟨wr.heap.size, 2, none⟩ = some (.int .i64 y.b)) := by
                  have hoa := HE.out.call ((Below.refl _ wr).alloc (Nat.le_refl _) (.cells #[.int .i32 y.s, .int .i64 y.c, .int .i64 y.b] 51))
                  have h1 := hoa.bo.check p y.s y.c (by omega) (by omega) hyk.s1
                  rw [HO2.out.f, chk_twice (by omega) (show Chn (kp (L ++ [⟨bs, n, nxv⟩])) from chn_drop _ HO2.out.chn) (fun z hz => HO2.out.ok z (kp_mem hz)) (kp_len _) hy] at h1
                  exact h1.mono fun e w' h => ⟨h.1, hoa.call h.2, (cell_of ((h.2.block wr.heap.size (by simp)).trans (heap_new wr _))).trans rfl⟩
                have HI := Hid.mk hi1
                clear hcl hy hgy hyk hi1 hil HE
                go_wp2_with (go_at_call 19; with_reducible refine HC3.out.mono ?_; rintro e w6 ⟨rfl, h6, x2⟩; have H6 := Hid.mk h6; clear h6)
                go_roundg k2
                case measure => omega
                case rel => exact ⟨i + 1, by have := HI.out; omega, congrArg (Value.int .i64) (by omega), H6.out⟩
              · have hilI : ¬ (i : Int) < ((j + 1 : Nat) : Int) := by omega
                have hilJ : ¬ (i : Int) < (j : Int) + 1 := by omega
                have HI := Hid.mk hi1
                clear hil hi1
                go_wp2
                go_roundg k'
                case measure => omega
                case rel => exact ⟨j + 1, nv, bv, _, _, by have := HJ.out; omega, congrArg (Value.int .i64) (by omega), rfl, rfl, HO2.out, HE.out⟩
        · have hj0I : ¬ (0 : Int) < j := by omega
          clear hc p0 hb hj hjl hlt
          go_wp2_with (first | (go_at_call 19; with_reducible refine (HC.out _ HW.out).mono ?_; rintro e w3 ⟨rfl, h3⟩; have H3 := Hid.mk h3; clear h3) | (go_at_call 20; with_reducible refine (HT.out _ H3.out).mono ?_; rintro e w4 ⟨rfl, h4⟩; have H4 := Hid.mk h4; clear h4) | (at_builtin; refine wpList_append_lies _ rfl _ _ 43 rfl X 51 i0 (.agg #[.int .i32 0, .int .i64 0, .int .i64 0]) 3 24 Try.underlying43 hi hz0 hz1 hz2 rfl (by decide) _ j (scs L) rfl ?dc0 ⟨w4.heap.size, 0, none⟩ 1 1 (sc ⟨bs, n, nxv⟩) rfl rfl ?dc1 ?dc2 ?dc3 ?dc4 ?dc5 ?dc6 _ rfl ?_))
          case dc0 => have := (H4.out.call ((Below.refl _ w4).alloc (Nat.le_refl _) (.cells #[.int .i32 nxv, .int .i64 n, .int .i64 bs] 51))).ro; rw [HLn.out] at this; exact this
          case dc1 => exact World.news_of_block (heap_new w4 _)
          case dc2 =>
            intro u hu
            simp only [sc, List.mem_cons, List.not_mem_nil, or_false] at hu
            rcases hu with rfl | rfl | rfl <;> rfl
          case dc3 => omega
          case dc4 => unfold maxLen; omega
          case dc5 => omega
          case dc6 => have := H4.out.bo.le; simp; omega
          intro g cap3 w5 hown hgrow hat hlt5
          have HE := Hid.mk ((H4.out.call ((Below.refl _ w4).alloc (Nat.le_refl _) (.cells #[.int .i32 nxv, .int .i64 n, .int .i64 bs] 51))).push (x := ⟨bs, n, nxv⟩) (g := g) (cap := cap3) (by rw [HLn.out]; exact hown) hgrow)
          rw [HLn.out] at HE
          obtain ⟨cc1, cc2⟩ : j + 1 ≤ cap3 ∧ cap3 ≤ maxLen := by
            rcases hown.2 with ⟨h1, _⟩ | ⟨g', cap', cur, h1, _, _, h2, h3, _⟩
            · cases h1
            · injection h1 with _ _ h1; subst h1; exact ⟨h2, h3⟩
          obtain ⟨nv, hnv⟩ : ∃ nv, (nxv + n) % 2147483648 = nv := ⟨_, rfl⟩
          obtain ⟨bv, hbv⟩ : ∃ bv, bs + n = bv := ⟨_, rfl⟩
          rw [hnv, hbv] at HO2
          have v0 : 0 ≤ nv := by omega
          have v1 : nv < 2147483648 := by omega
          clear hown hgrow hat hlt5 H4 HT HC
          by_cases h5 : 5 < j + 1
          · exact absurd h5 (by omega)
          · have h5I : ¬ (0 : Int) < ((j + 1 : Nat) : Int) - 5 := by omega
            have h5I2 : (j : Int) + 1 - 5 ≤ 0 := by omega
            go_wp2
            have HNV := Hid.mk hnv
            clear hnv
            have HKy : Hid (∀ i, i < (j + 1) → ∃ y : Nt, y ∈ kp (L ++ [⟨bs, n, nxv⟩]) ∧ (L ++ [(⟨bs, n, nxv⟩ : Nt)]).getD (0 + i) nt0 = y) := fun i hi => by
              have hl : (L ++ [(⟨bs, n, nxv⟩ : Nt)]).length = j + 1 := HO2.out.len
              refine ⟨_, ?_, rfl⟩
              unfold kp
              rw [hl, List.getD_eq_getElem?_getD, List.getElem?_eq_getElem (by rw [hl]; omega), Option.getD_some]
              have e : (List.drop (j + 1 - 5) (L ++ [(⟨bs, n, nxv⟩ : Nt)]))[i]? = some ((L ++ [(⟨bs, n, nxv⟩ : Nt)])[0 + i]'(by rw [hl]; omega)) := by
                rw [List.getElem?_drop, show j + 1 - 5 + i = 0 + i from by omega, List.getElem?_eq_getElem (by rw [hl]; omega)]
              exact List.mem_of_getElem? e
            go_loopg [115] (j + 1) (fun k v wr => ∃ i : Nat, i + k = (j + 1) ∧ v = .int .i64 i ∧ Hid (On w1 X (kpF' F p ⟨bs, n, nxv⟩) (j + 1) (.slice (some ⟨g, 0, none⟩) (j + 1) cap3) (L ++ [⟨bs, n, nxv⟩]) wr))
            case atStart => exact ⟨0, by omega, rfl, HE.out⟩
            case round =>
              clear HE
              obtain ⟨i, hi1, rfl, HE⟩ := hrel
              by_cases hil : i < (j + 1)
              · obtain ⟨k2, rfl⟩ : ∃ k2, gk = k2 + 1 := ⟨gk - 1, by omega⟩
                have hilI : (i : Int) < ((j + 1 : Nat) : Int) := by omega
                have hilJ : (i : Int) < (j : Int) + 1 := by omega
                obtain ⟨y, hy, hgy⟩ := HKy.out i hil
                have hcl : ∀ k, k < 3 → wr.cell? ⟨g, (0 + i) * 3 + k, none⟩ = (sc y)[k]? := fun k hk => by
                  have h0 : wr.ownsRow X 51 3 (.slice (some ⟨g, 0, none⟩) (j + 1) cap3) (j + 1) (scs (L ++ [(⟨bs, n, nxv⟩ : Nt)])) := by have := HE.out.ro; rw [HO2.out.len] at this; exact this
                  rw [h0.cellAt ((0 + i) * 3 + k) (by omega), scs_at (by rw [HO2.out.len]; omega) hk, hgy]
                have r0 : wr.cell? ⟨g, i * 3, none⟩ = some (.int .i32 y.s) := by have := hcl 0 (by omega); rw [show (0 + i) * 3 + 0 = i * 3 from by omega] at this; exact this
                have r1 : wr.cell? ⟨g, i * 3 + 1, none⟩ = some (.int .i64 y.c) := by have := hcl 1 (by omega); rw [show (0 + i) * 3 + 1 = i * 3 + 1 from by omega] at this; exact this
                have r2 : wr.cell? ⟨g, i * 3 + 2, none⟩ = some (.int .i64 y.b) := by have := hcl 2 (by omega); rw [show (0 + i) * 3 + 2 = i * 3 + 2 from by omega] at this; exact this
                have hyk := HO2.out.ok y (kp_mem hy)
                have HC3 : Hid (Calls Try.prog 19 #[.pointer (some ⟨X, 0, none⟩), .int .i64 p, .int .i32 y.s, .int .i64 y.c] (wr.alloc (.cells #[.int .i32 y.s, .int .i64 y.c, .int .i64 y.b] 51)) fun e w' => e = .returned (.tuple #[.int .i64 y.b, .int .i64 62]) ∧ On w1 X (kpF' F p ⟨bs, n, nxv⟩) (j + 1) (.slice (some ⟨g, 0, none⟩) (j + 1) cap3) (L ++ [⟨bs, n, nxv⟩]) w' ∧ w'.cell? ⟨wr.heap.size, 2, none⟩ = some (.int .i64 y.b)) := by
                  have hoa := HE.out.call ((Below.refl _ wr).alloc (Nat.le_refl _) (.cells #[.int .i32 y.s, .int .i64 y.c, .int .i64 y.b] 51))
                  have h1 := hoa.bo.check p y.s y.c (by omega) (by omega) hyk.s1
                  rw [HO2.out.f, chk_twice (by omega) (show Chn (kp (L ++ [⟨bs, n, nxv⟩])) from chn_drop _ HO2.out.chn) (fun z hz => HO2.out.ok z (kp_mem hz)) (kp_len _) hy] at h1
                  exact h1.mono fun e w' h => ⟨h.1, hoa.call h.2, (cell_of ((h.2.block wr.heap.size (by simp)).trans (heap_new wr _))).trans rfl⟩
                have HI := Hid.mk hi1
                clear hcl hy hgy hyk hi1 hil HE
                go_wp2_with (go_at_call 19; with_reducible refine HC3.out.mono ?_; rintro e w6 ⟨rfl, h6, x2⟩; have H6 := Hid.mk h6; clear h6)
                go_roundg k2
                case measure => omega
                case rel => exact ⟨i + 1, by have := HI.out; omega, congrArg (Value.int .i64) (by omega), H6.out⟩
              · have hilI : ¬ (i : Int) < ((j + 1 : Nat) : Int) := by omega
                have hilJ : ¬ (i : Int) < (j : Int) + 1 := by omega
                have HI := Hid.mk hi1
                clear hil hi1
                go_wp2
                go_roundg k'
                case measure => omega
                case rel => exact ⟨j + 1, nv, bv, _, _, by have := HJ.out; omega, congrArg (Value.int .i64) (by omega), rfl, rfl, HO2.out, HE.out⟩
    · have hltI : ¬ (j : Int) < N := by omega
      clear hi hz0 hz1 hz2
      by_cases hj9 : j = 0
      · have hj9D : decide ((j : Int) = 0) = true := by simpa using hj9
        have hj9I : (j : Int) = 0 := by omega
        have HJ9 := Hid.mk hj9
        obtain ⟨va, vc, rfl⟩ : ∃ va vc, u15 = .slice va j vc := by
          have := HW.out.ro
          rw [HO.out.len] at this
          rcases this.2 with ⟨h1, _⟩ | ⟨g, cap', cur, h1, _⟩
          · exact ⟨_, _, by rw [h1, hj9]⟩
          · exact ⟨_, _, h1⟩
        clear hj9 hj9I
        go_wp2
        go_ret
        exact ⟨rfl, HBw.out _ HW.out.bo.bel⟩
      · have hrow := HW.out.ro
        rw [HO.out.len] at hrow
        rcases hrow.2 with ⟨_, h2⟩ | ⟨g, cap3, cur, rfl, _, _, cc1, cc2, _, _⟩
        · exact absurd h2 hj9
        clear hrow
        have hj9I : ¬ (j : Int) = 0 := by omega
        have hj9D : decide ((j : Int) = 0) = false := by simpa using hj9I
        by_cases hsq : seq < 0
        · have hsqD : decide (seq < 0) = true := by simpa using hsq
          go_wp2
          go_ret
          exact ⟨rfl, HBw.out _ HW.out.bo.bel⟩
        · have hsqD : decide (seq < 0) = false := by simpa using hsq
          obtain ⟨n9, hn9⟩ : ∃ n9 : Int, (cn : Int) + 1 = n9 := ⟨_, rfl⟩
          have hcm : (cn : Int) % 65536 = cn := by omega
          have z1 : 1 ≤ n9 := by omega
          have z2 : n9 ≤ 65536 := by omega
          obtain ⟨c1, c2, hch⟩ : ∃ c1 c2, chk (kp L) p seq n9 = (c1, c2) := ⟨_, _, rfl⟩
          have hLne : L ≠ [] := fun e => hj9 (by rw [← HO.out.len, e]; rfl)
          have HF1 : Hid (seq = nxv → c1 = 0 ∧ c2 = 0) := fun t => by
            have := chk_next (l := kp L) (p := p) (seq := seq) (cnt := n9) (by omega) (by omega) z1 z2 (fun y hy => by rw [t]; exact HO.out.nxt y (by rw [← kp_last]; exact hy))
            rw [hch] at this
            injection this with e1 e2
            exact ⟨e1, e2⟩
          have HF2 : Hid (¬ seq = nxv → if (kp L).any (isB seq n9) = true then c2 = 62 else c1 = 0 ∧ (c2 = 63 ∨ c2 = 64)) := fun t => by
            have := chk_else (l := kp L) (p := p) (seq := seq) (cnt := n9) (by omega) (by omega) z1 z2 (kp_ne' hLne) (fun y hy e => t (by rw [e]; exact (HO.out.nxt y (by rw [← kp_last]; exact hy)).symm))
            rw [hch] at this
            split
            · rename_i hb
              rw [if_pos hb] at this
              exact this
            · rename_i hb
              rw [if_neg hb] at this
              rcases this with e | e
              · injection e with e1 e2
                exact ⟨e1, Or.inl e2⟩
              · injection e with e1 e2
                exact ⟨e1, Or.inr e2⟩
          have HC9 : Hid (Calls Try.prog 19 #[.pointer (some ⟨X, 0, none⟩), .int .i64 p, .int .i32 seq, .int .i64 n9] wr fun e w' => e = .returned (.tuple #[.int .i64 c1, .int .i64 c2]) ∧ On w1 X F j (.slice (some ⟨g, 0, none⟩) j cap3) L w') := by
            have h1 := HW.out.bo.check p seq n9 (by omega) (by omega) hs1
            rw [HO.out.f, hch] at h1
            exact h1.mono fun e w' h => ⟨h.1, HW.out.call h.2⟩
          clear hch hLne
          by_cases h5 : 5 < j
          · obtain ⟨D, hD⟩ : ∃ D : Nat, D + 5 = j := ⟨j - 5, by omega⟩
            have hDI : (j : Int) - 5 = D := by omega
            have hD0 : (0 : Int) < D := by omega
            have hDc : ¬ cap3 = D := by omega
            have hDl : (D : Int) ≤ (j : Int) := by omega
            have hDl2 : D ≤ j := by omega
            have hDc2 : D ≤ cap3 := by omega
            have hM : j - D = 5 := by omega
            go_wp2_with (go_at_call 19; with_reducible refine HC9.out.mono ?_; rintro e w9 ⟨rfl, h9⟩; have HW9 := Hid.mk h9; clear h9)
            have HKy : Hid (∀ i, i < 5 → ∃ y : Nt, (kp L).take (i + 1) = (kp L).take i ++ [y] ∧ L.getD (D + i) nt0 = y) := fun i hi => by
              have hl : L.length = j := HO.out.len
              have hk : (kp L).length = 5 := by unfold kp; rw [List.length_drop, hl]; omega
              refine ⟨_, ?_, rfl⟩
              rw [List.take_succ_eq_append_getElem (by rw [hk]; exact hi)]
              congr 2
              have e : (kp L)[i]? = L[D + i]? := by unfold kp; rw [List.getElem?_drop, hl, show j - 5 + i = D + i from by omega]
              rw [List.getElem?_eq_getElem (by rw [hk]; exact hi), List.getElem?_eq_getElem (by rw [hl]; omega)] at e
              injection e with e
              rw [e, List.getD_eq_getElem?_getD, List.getElem?_eq_getElem (by rw [hl]; omega)]
              rfl
            have HAll : Hid ((kp L).take 5 = kp L) := List.take_of_length_le (by unfold kp; rw [List.length_drop, HO.out.len]; omega)
            go_loopg [30, 165] 5 (fun k v30 v wr => ∃ i : Nat, i + k = 5 ∧ v = .int .i64 i ∧ v30 = .bool (((kp L).take i).any (isB seq n9)) ∧ Hid (On w1 X F j (.slice (some ⟨g, 0, none⟩) j cap3) L wr))
            case atStart => exact ⟨0, by omega, rfl, rfl, HW9.out⟩
            case round =>
              clear HW9
              obtain ⟨i, hi1, rfl, rfl, HE⟩ := hrel
              by_cases hil : i < 5
              · obtain ⟨k2, rfl⟩ : ∃ k2, gk = k2 + 1 := ⟨gk - 1, by omega⟩
                have hilI : (i : Int) < 5 := by omega
                obtain ⟨y, hy, hgy⟩ := HKy.out i hil
                have hcl : ∀ k, k < 3 → wr.cell? ⟨g, (D + i) * 3 + k, none⟩ = (sc y)[k]? := fun k hk => by
                  have h0 : wr.ownsRow X 51 3 (.slice (some ⟨g, 0, none⟩) j cap3) j (scs L) := by have := HE.out.ro; rw [HO.out.len] at this; exact this
                  rw [h0.cellAt ((D + i) * 3 + k) (by omega), scs_at (by rw [HO.out.len]; omega) hk, hgy]
                have r0 : wr.cell? ⟨g, D * 3 + i * 3, none⟩ = some (.int .i32 y.s) := by have := hcl 0 (by omega); rw [show (D + i) * 3 + 0 = D * 3 + i * 3 from by omega] at this; exact this
                have r1 : wr.cell? ⟨g, D * 3 + i * 3 + 1, none⟩ = some (.int .i64 y.c) := by have := hcl 1 (by omega); rw [show (D + i) * 3 + 1 = D * 3 + i * 3 + 1 from by omega] at this; exact this
                have r2 : wr.cell? ⟨g, D * 3 + i * 3 + 2, none⟩ = some (.int .i64 y.b) := by have := hcl 2 (by omega); rw [show (D + i) * 3 + 2 = D * 3 + i * 3 + 2 from by omega] at this; exact this
                have HI := Hid.mk hi1
                have HY : Hid (((kp L).take (i + 1)).any (isB seq n9) = (((kp L).take i).any (isB seq n9) || isB seq n9 y)) := by
                  show _ = _
                  rw [hy, List.any_append]
                  simp
                have HE2 : Hid (∀ o, On w1 X F j (.slice (some ⟨g, 0, none⟩) j cap3) L (wr.alloc o)) := fun o => HE.out.call ((Below.refl _ wr).alloc (Nat.le_refl _) o)
                clear hcl hy hgy hi1 hil HE
                generalize ((kp L).take i).any (isB seq n9) = b0 at *
                cases b0
                · by_cases t1 : y.s = seq
                  · by_cases t2 : y.c = n9
                    · have HB : Hid (isB seq n9 y = true) := by show _ = _; unfold isB; simp [t1, t2]
                      rw [HB.out] at HY
                      have t1' : decide (y.s = seq) = true := by simpa using t1
                      have t2' : decide (y.c = n9) = true := by simpa using t2
                      go_wp2
                      go_roundg k2
                      case measure => omega
                      case rel => exact ⟨i + 1, by have := HI.out; omega, congrArg (Value.int .i64) (by omega), by rw [HY.out]; first | rfl | simp [t2], HE2.out _⟩
                    · have HB : Hid (isB seq n9 y = false) := by show _ = _; unfold isB; simp [t2]
                      rw [HB.out] at HY
                      have t1' : decide (y.s = seq) = true := by simpa using t1
                      have t2' : decide (y.c = n9) = false := by simpa using t2
                      go_wp2
                      go_roundg k2
                      case measure => omega
                      case rel => exact ⟨i + 1, by have := HI.out; omega, congrArg (Value.int .i64) (by omega), by rw [HY.out]; first | rfl | simp [t2], HE2.out _⟩
                  · have HB : Hid (isB seq n9 y = false) := by show _ = _; unfold isB; simp [t1]
                    rw [HB.out] at HY
                    have t1' : decide (y.s = seq) = false := by simpa using t1
                    go_wp2
                    go_roundg k2
                    case measure => omega
                    case rel => exact ⟨i + 1, by have := HI.out; omega, congrArg (Value.int .i64) (by omega), by rw [HY.out]; first | rfl | simp [t2], HE2.out _⟩
                · go_wp2
                  go_roundg k2
                  case measure => omega
                  case rel => exact ⟨i + 1, by have := HI.out; omega, congrArg (Value.int .i64) (by omega), by rw [HY.out]; first | rfl | simp [t2], HE2.out _⟩
              · have hilI : ¬ (i : Int) < 5 := by omega
                obtain rfl : i = 5 := by omega
                rw [HAll.out]
                clear hil hi1
                by_cases t : seq = nxv
                · obtain ⟨rfl, rfl⟩ := HF1.out t
                  have t' : decide (seq = nxv) = true := by simpa using t
                  go_wp2
                  go_ret
                  exact ⟨rfl, HBw.out _ HE.out.bo.bel⟩
                · have t' : decide (seq = nxv) = false := by simpa using t
                  have hF := HF2.out t
                  generalize (kp L).any (isB seq n9) = bb at *
                  cases bb
                  · obtain ⟨rfl, rfl | rfl⟩ : c1 = 0 ∧ (c2 = 63 ∨ c2 = 64) := by simpa using hF
                    · go_wp2
                      go_ret
                      exact ⟨rfl, HBw.out _ HE.out.bo.bel⟩
                    · go_wp2
                      go_ret
                      exact ⟨rfl, HBw.out _ HE.out.bo.bel⟩
                  · obtain rfl : c2 = 62 := by simpa using hF
                    go_wp2
                    go_ret
                    exact ⟨rfl, HBw.out _ HE.out.bo.bel⟩
          · have h5I : ¬ (0 : Int) < (j : Int) - 5 := by omega
            have h5I2 : (j : Int) - 5 ≤ 0 := by omega
            go_wp2_with (go_at_call 19; with_reducible refine HC9.out.mono ?_; rintro e w9 ⟨rfl, h9⟩; have HW9 := Hid.mk h9; clear h9)
            have HKy : Hid (∀ i, i < j → ∃ y : Nt, (kp L).take (i + 1) = (kp L).take i ++ [y] ∧ L.getD (0 + i) nt0 = y) := fun i hi => by
              have hl : L.length = j := HO.out.len
              have hk : (kp L).length = j := by unfold kp; rw [List.length_drop, hl]; omega
              refine ⟨_, ?_, rfl⟩
              rw [List.take_succ_eq_append_getElem (by rw [hk]; exact hi)]
              congr 2
              have e : (kp L)[i]? = L[0 + i]? := by unfold kp; rw [List.getElem?_drop, hl, show j - 5 + i = 0 + i from by omega]
              rw [List.getElem?_eq_getElem (by rw [hk]; exact hi), List.getElem?_eq_getElem (by rw [hl]; omega)] at e
              injection e with e
              rw [e, List.getD_eq_getElem?_getD, List.getElem?_eq_getElem (by rw [hl]; omega)]
              rfl
            have HAll : Hid ((kp L).take j = kp L) := List.take_of_length_le (by unfold kp; rw [List.length_drop, HO.out.len]; omega)
            go_loopg [30, 165] j (fun k v30 v wr => ∃ i : Nat, i + k = j ∧ v = .int .i64 i ∧ v30 = .bool (((kp L).take i).any (isB seq n9)) ∧ Hid (On w1 X F j (.slice (some ⟨g, 0, none⟩) j cap3) L wr))
            case atStart => exact ⟨0, by omega, rfl, rfl, HW9.out⟩
            case round =>
              clear HW9
              obtain ⟨i, hi1, rfl, rfl, HE⟩ := hrel
              by_cases hil : i < j
              · obtain ⟨k2, rfl⟩ : ∃ k2, gk = k2 + 1 := ⟨gk - 1, by omega⟩
                have hilI : (i : Int) < (j : Int) := by omega
                obtain ⟨y, hy, hgy⟩ := HKy.out i hil
                have hcl : ∀ k, k < 3 → wr.cell? ⟨g, (0 + i) * 3 + k, none⟩ = (sc y)[k]? := fun k hk => by
                  have h0 : wr.ownsRow X 51 3 (.slice (some ⟨g, 0, none⟩) j cap3) j (scs L) := by have := HE.out.ro; rw [HO.out.len] at this; exact this
                  rw [h0.cellAt ((0 + i) * 3 + k) (by omega), scs_at (by rw [HO.out.len]; omega) hk, hgy]
                have r0 : wr.cell? ⟨g, i * 3, none⟩ = some (.int .i32 y.s) := by have := hcl 0 (by omega); rw [show (0 + i) * 3 + 0 = i * 3 from by omega] at this; exact this
                have r1 : wr.cell? ⟨g, i * 3 + 1, none⟩ = some (.int .i64 y.c) := by have := hcl 1 (by omega); rw [show (0 + i) * 3 + 1 = i * 3 + 1 from by omega] at this; exact this
                have r2 : wr.cell? ⟨g, i * 3 + 2, none⟩ = some (.int .i64 y.b) := by have := hcl 2 (by omega); rw [show (0 + i) * 3 + 2 = i * 3 + 2 from by omega] at this; exact this
                have HI := Hid.mk hi1
                have HY : Hid (((kp L).take (i + 1)).any (isB seq n9) = (((kp L).take i).any (isB seq n9) || isB seq n9 y)) := by
                  show _ = _
                  rw [hy, List.any_append]
                  simp
                have HE2 : Hid (∀ o, On w1 X F j (.slice (some ⟨g, 0, none⟩) j cap3) L (wr.alloc o)) := fun o => HE.out.call ((Below.refl _ wr).alloc (Nat.le_refl _) o)
                clear hcl hy hgy hi1 hil HE
                generalize ((kp L).take i).any (isB seq n9) = b0 at *
                cases b0
                · by_cases t1 : y.s = seq
                  · by_cases t2 : y.c = n9
                    · have HB : Hid (isB seq n9 y = true) := by show _ = _; unfold isB; simp [t1, t2]
                      rw [HB.out] at HY
                      have t1' : decide (y.s = seq) = true := by simpa using t1
                      have t2' : decide (y.c = n9) = true := by simpa using t2
                      go_wp2
                      go_roundg k2
                      case measure => omega
                      case rel => exact ⟨i + 1, by have := HI.out; omega, congrArg (Value.int .i64) (by omega), by rw [HY.out]; first | rfl | simp [t2], HE2.out _⟩
                    · have HB : Hid (isB seq n9 y = false) := by show _ = _; unfold isB; simp [t2]
                      rw [HB.out] at HY
                      have t1' : decide (y.s = seq) = true := by simpa using t1
                      have t2' : decide (y.c = n9) = false := by simpa using t2
                      go_wp2
                      go_roundg k2
                      case measure => omega
                      case rel => exact ⟨i + 1, by have := HI.out; omega, congrArg (Value.int .i64) (by omega), by rw [HY.out]; first | rfl | simp [t2], HE2.out _⟩
                  · have HB : Hid (isB seq n9 y = false) := by show _ = _; unfold isB; simp [t1]
                    rw [HB.out] at HY
                    have t1' : decide (y.s = seq) = false := by simpa using t1
                    go_wp2
                    go_roundg k2
                    case measure => omega
                    case rel => exact ⟨i + 1, by have := HI.out; omega, congrArg (Value.int .i64) (by omega), by rw [HY.out]; first | rfl | simp [t2], HE2.out _⟩
                · go_wp2
                  go_roundg k2
                  case measure => omega
                  case rel => exact ⟨i + 1, by have := HI.out; omega, congrArg (Value.int .i64) (by omega), by rw [HY.out]; first | rfl | simp [t2], HE2.out _⟩
              · have hilI : ¬ (i : Int) < (j : Int) := by omega
                obtain rfl : i = j := by omega
                rw [HAll.out]
                clear hil hi1
                by_cases t : seq = nxv
                · obtain ⟨rfl, rfl⟩ := HF1.out t
                  have t' : decide (seq = nxv) = true := by simpa using t
                  go_wp2
                  go_ret
                  exact ⟨rfl, HBw.out _ HE.out.bo.bel⟩
                · have t' : decide (seq = nxv) = false := by simpa using t
                  have hF := HF2.out t
                  generalize (kp L).any (isB seq n9) = bb at *
                  cases bb
                  · obtain ⟨rfl, rfl | rfl⟩ : c1 = 0 ∧ (c2 = 63 ∨ c2 = 64) := by simpa using hF
                    · go_wp2
                      go_ret
                      exact ⟨rfl, HBw.out _ HE.out.bo.bel⟩
                    · go_wp2
                      go_ret
                      exact ⟨rfl, HBw.out _ HE.out.bo.bel⟩
                  · obtain rfl : c2 = 62 := by simpa using hF
                    go_wp2
                    go_ret
                    exact ⟨rfl, HBw.out _ HE.out.bo.bel⟩
end Go.Proofs.Ytolobmhbmajolaa
