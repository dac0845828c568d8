/- The reference's Tokens; the law's refs. -/
import Derived.Test.YtdkfenmhfkggdaaRFrm
import Derived.Test.YtdkfenmhfkggdaaFms
import Derived.Deep.RegionHeld3
namespace Go.Proofs.Ytdkfenmhfkggdaa
open Go.RowKit
set_option maxHeartbeats 4000000 in
set_option maxRecDepth 20000 in
theorem rtoks_any (p : ByteArray) (w : World) (hs : p.size ≤ 1000000000000) :
    Calls Try.prog 19 #[.string p] w fun e w' => TokPost 46 w.heap.size p.size (M.tks 0 p.data.toList) e w' ∧ Below w.heap.size w w' := by
  obtain ⟨i0, hi, hz0, hz1, hz2⟩ := info_parts Try.infoRTok
  obtain ⟨R, hR⟩ : ∃ R, R = M.tks 0 p.data.toList := ⟨_, rfl⟩
  rw [← hR]
  have hpl := len_ p
  have HEX := hid (fun n => ext_drop p n)
  generalize p.data.toList = l at *
  have HL := hid hpl
  have HR : Hid (M.pre [] (M.tks 0 (l.drop 0)) = R) := by show _ = R; rw [M.pre_nil, hR]; rfl
  clear hR hpl
  go_enter Try.func19, Try.ntmps19
  go_wp2_with fail
  go_loopg [5, 6, 7, 8, 9] p.size (fun k o a x1 x2 x3 wr => ∃ (q : Nat) (ts : List M.Tok), q + k = p.size ∧ a = .int .i64 q ∧ Hid (2 * ts.length ≤ q) ∧ Hid (M.pre ts (M.tks q (l.drop q)) = R) ∧ Hid (OwnT 46 wr w.heap.size o (ts.map rt)) ∧ Hid (Below w.heap.size w wr) ∧ Hid (w.heap.size ≤ wr.heap.size))
  case atStart => exact ⟨0, [], by omega, rfl, Nat.zero_le _, HR, World.ownsRow_nil _ _ _ _, Below.refl _ _, Nat.le_refl _⟩
  case round =>
    clear HR
    obtain ⟨q, ts, hk, rfl, HU, HP, HO, HB, HS⟩ := hrel
    have hU := HU.out
    by_cases h0 : q < p.size
    · obtain ⟨S, hS⟩ : ∃ S, S = p.extract q p.size := ⟨_, rfl⟩
      have hSl : S.data.toList = l.drop q := by rw [hS]; exact HEX.out q
      have hSs : S.size = p.size - q := by rw [← len_, hSl, List.length_drop, HL.out]
      have hp := HP.out
      rw [← hSl] at hp
      cases hf : M.fst' S.data.toList with
      | error k =>
        rw [M.tks_err (by rw [len_]; omega) hf] at hp
        have HC : Hid (R = .error (q, k)) := hp.symm
        have cf := fun w => rfirst_err S k w (by omega) hf
        have hkk := fst_bad hf
        have CF := hid cf
        have HSS := hid hS
        clear hp cf hf HP hS hSl hSs
        go_wp2_with fail
        rw [← HSS.out]
        refine (CF.out _).mono ?_
        rintro e w1 ⟨rfl, hb1⟩
        have HB1 := hid (HB.out.trans (hb1.mono HS.out))
        have HS1 := hid (HB1.out.size)
        clear hb1
        go_wp2_with fail
        refine bodyPost_ret (v := .tuple #[.slice none 0 0, .int .i64 q, .int .i64 k]) (by simp [results, Try.results19, go_sem]) rfl ⟨?_, HB1.out.alloc HS1.out _⟩
        rw [HC.out]
        rfl
      | ok tn =>
        obtain ⟨t, n⟩ := tn
        have hok := M.fst_ok (by rw [len_]; omega) hf
        have hn := hok.2.2.1
        have hn2 := hok.2.1
        rw [len_] at hn
        rw [M.tks_ok (by rw [len_]; omega) hf, hSl, List.drop_drop] at hp
        have cf := fun w => rfirst_ok S t n w (by omega) hf
        have HRT : Hid ((ts ++ [t]).map rt = ts.map rt ++ [(ba t.lits, (t.len : Int), (t.dist : Int))]) := by show _ = _; simp [rt]
        have HP2 := hid hp
        have ho := HO.out
        unfold OwnT at ho
        have hml : (ts.map rt).length = ts.length := by simp
        have HML := hid hml
        rw [hml] at ho
        generalize ts.map rt = rs at *
        generalize ba t.lits = TS at *
        generalize t.len = TN at *
        generalize t.dist = TD at *
        have CF := hid cf
        have HSS := hid hS
        have hnq : q + n ≤ p.size := by omega
        clear hp cf hf HP hS hSl hSs hok HO hml
        go_wp2_with fail
        rw [← HSS.out]
        refine (CF.out _).mono ?_
        rintro e w1 ⟨rfl, hb1⟩
        have HB1 := hid (HB.out.trans (hb1.mono HS.out))
        have HS1 := hid (HB1.out.size)
        have hsz1 := HS1.out
        have ho1 : w1.ownsRow w.heap.size 46 3 u5 ts.length (rcs rs) := own_apart ho (fun g hg => hb1.block g (World.ownsRow.lt ho g hg).2)
        clear hb1 ho HB HS
        go_wp2_with (at_builtin; refine wpList_append_own _ rfl _ _ 41 rfl w.heap.size 46 i0 (.agg #[.string ⟨#[]⟩, .int .i64 0, .int .i64 0]) 3 32 Try.underRToks hi hz0 hz1 hz2 rfl (by decide) _ _ _ rfl ((ho1.alloc _).alloc _) ⟨w1.heap.size + 1, 0, none⟩ 1 1 (rc (TS, (TN : Int), (TD : Int))) rfl rfl ?c1 ?c2 ?c3 ?c4 ?c5 ?_)
        case c1 => exact cells_newN _ (rc (TS, (TN : Int), (TD : Int))) _ _ (by simp)
        case c2 => exact rc_one _
        case c3 => unfold maxLen; omega
        case c4 => omega
        case c5 => simp; omega
        intro v' w2 hown2 hgrow2 _
        have HB2 := hid (bel_step (HB1.out.alloc hsz1 (.cells #[.string TS, .int .i64 TN, .int .i64 TD] 46)) (ho1.alloc _) (by simp; omega) hgrow2)
        have HO2 : Hid (OwnT 46 w2 w.heap.size v' (rs ++ [(TS, (TN : Int), (TD : Int))])) := ownT_snoc hown2 HML.out
        have HS2 : Hid (w.heap.size ≤ w2.heap.size) := HB2.out.size
        clear hown2 hgrow2 ho1
        go_wp2_with fail
        go_roundg (p.size - (q + n))
        case measure => omega
        case rel => exact ⟨q + n, ts ++ [t], by omega, by go_num, by show _ ≤ _; rw [List.length_append]; simp; omega, HP2, by rw [HRT.out]; exact HO2, HB2, HS2⟩
    · have hp := HP.out
      rw [List.drop_eq_nil_of_le (by rw [HL.out]; omega), M.tks_nil] at hp
      have HC : Hid (R = .ok ts) := by show R = _; rw [← hp]; simp [M.pre]
      clear hp
      go_wp2_with fail
      have hqe : q = p.size := by omega
      refine bodyPost_ret (v := .tuple #[_, .int .i64 q, .int .i64 0]) (by simp [results, Try.results19, go_sem]; rfl) rfl ⟨?_, HB.out⟩
      rw [HC.out, hqe]
      exact ⟨_, rfl, HO.out⟩
theorem held3 {w x : World} {b o : Nat} {v0 v1 v2 : Value} (h : b < w.heap.size ∧ w.cell? ⟨b, o, none⟩ = some v0 ∧ w.cell? ⟨b, o + 1, none⟩ = some v1 ∧ w.cell? ⟨b, o + 2, none⟩ = some v2) (k : Below w.heap.size w x) : (x.cell? ⟨b, o, none⟩ = some v0 ∧ x.cell? ⟨b, o + 1, none⟩ = some v1 ∧ x.cell? ⟨b, o + 2, none⟩ = some v2) ∧ Below w.heap.size w x :=
  ⟨⟨(k.cell (p := ⟨b, o, none⟩) h.1).trans h.2.1, (k.cell (p := ⟨b, o + 1, none⟩) h.1).trans h.2.2.1, (k.cell (p := ⟨b, o + 2, none⟩) h.1).trans h.2.2.2⟩, k⟩
set_option maxHeartbeats 4000000 in
set_option maxRecDepth 20000 in
theorem refs_any (a : Option Addr) (cap : Nat) (rs : List (ByteArray × Int × Int)) (w : World) (hl : rs.length ≤ 100000000000) (V : Trip w a rs) :
    Calls Try.prog 20 #[.slice a rs.length cap] w fun e w' => ∃ v, e = .returned v ∧ OwnT 46 w' w.heap.size v rs ∧ Below w.heap.size w w' := by
  obtain ⟨i0, hi, hz0, hz1, hz2⟩ := info_parts Try.infoRTok
  have HV := hid V
  clear V
  go_enter Try.func20, Try.ntmps20
  go_wp2_with fail
  go_loopg [3, 4] rs.length (fun k o i wr => ∃ j : Nat, j + k = rs.length ∧ i = .int .i64 j ∧ Hid (OwnT 46 wr w.heap.size o (rs.take j)) ∧ Below w.heap.size w wr)
  case atStart => exact ⟨0, by omega, rfl, World.ownsRow_nil _ _ _ _, Below.refl _ _⟩
  case round =>
    obtain ⟨j, hk, rfl, HO, hb⟩ := hrel
    by_cases hlt : j < rs.length
    · obtain ⟨k, rfl⟩ : ∃ k, gk = k + 1 := ⟨gk - 1, by omega⟩
      rcases HV.out with rfl | ⟨b, off, rfl, hbl, hc⟩
      · simp at hlt
      obtain ⟨q0, q1, q2⟩ := hc j hlt
      have HTK : Hid (rs.take (j + 1) = rs.take j ++ [rs.getD j (ByteArray.empty, 0, 0)]) := by
        show _ = _
        rw [List.take_succ_eq_append_getElem hlt]
        simp [List.getD_eq_getElem?_getD, hlt]
      generalize rs.getD j (ByteArray.empty, 0, 0) = r at *
      obtain ⟨S, n, d⟩ := r
      simp only at q0 q1 q2
      have HC : Hid (b < w.heap.size ∧ w.cell? ⟨b, off + j * 3, none⟩ = some (.string S) ∧ w.cell? ⟨b, off + j * 3 + 1, none⟩ = some (.int .i64 n) ∧ w.cell? ⟨b, off + j * 3 + 2, none⟩ = some (.int .i64 d)) := ⟨hbl, q0, q1, q2⟩
      have ho := HO.out
      unfold OwnT at ho
      have hml : (rs.take j).length = j := by rw [List.length_take]; omega
      have HML := hid hml
      rw [hml] at ho
      generalize rs.take j = ps at *
      have hsz := hb.size
      have b1 : (0 : Int) ≤ (j : Int) := by omega
      have b2 : (j : Int) < rs.length := by omega
      clear hc q0 q1 q2 hml HO
      go_wp2_with fail
      go_region_held3 (fun x => (x.cell? ⟨b, off + j * 3, none⟩ = some (.string S) ∧ x.cell? ⟨b, off + j * 3 + 1, none⟩ = some (.int .i64 n) ∧ x.cell? ⟨b, off + j * 3 + 2, none⟩ = some (.int .i64 d)) ∧ Below w.heap.size w x) (first | exact held3 HC.out (by assumption) | exact held3 HC.out (Below.drew (Below.alloc hb hsz _)) | exact held3 HC.out (Below.drew (by assumption)) | exact held3 HC.out (Below.alloc (by assumption) (Below.size (by assumption)) _)) ((refine step_append_lies _ (by rfl) _ _ 41 (by rfl) w.heap.size 46 i0 (.agg #[.string ⟨#[]⟩, .int .i64 0, .int .i64 0]) 3 32 Try.underRToks hi hz0 hz1 hz2 rfl (by decide) _ _ _ (by simp [Act.eval]) ((ho.alloc _).drew) ⟨wr.heap.size, 0, none⟩ 1 1 (rc (S, n, d)) (by simp [Act.eval]) rfl (cells_newN wr (rc (S, n, d)) _ _ rfl) (rc_one _) (by omega) (by unfold maxLen; omega) (by omega) (by show w.heap.size ≤ (wr.alloc _).heap.size; simp; omega) _ rfl ?_; intro g2 cap2 w1 hown hgrow hat hlt2; have hbN : Below w.heap.size w w1 := ((hb.alloc hsz _).drew).grown hgrow (by show w.heap.size ≤ (wr.alloc _).heap.size; simp; omega) (fun k hk => (World.ownsRow.lt ho k hk).1); have HOW := hid hown; clear hown hgrow hat hlt2))
      go_wp2_with fail
      go_roundg k
      case measure => omega
      case rel => exact ⟨j + 1, by omega, by go_num, by rw [HTK.out]; exact ownT_snoc HOW.out HML.out, hbN⟩
    · go_wp2_with fail
      go_ret
      have HE : rs.take j = rs := List.take_of_length_le (by omega)
      exact ⟨_, rfl, by rw [← HE]; exact HO.out, hb⟩
end Go.Proofs.Ytdkfenmhfkggdaa
