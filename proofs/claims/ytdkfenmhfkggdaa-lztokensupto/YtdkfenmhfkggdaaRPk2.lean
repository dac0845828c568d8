/- The reference's Packed. -/
import Derived.Test.YtdkfenmhfkggdaaRPk
namespace Go.Proofs.Ytdkfenmhfkggdaa
open Go.RowKit
theorem pk_len {l : List UInt8} : ∀ fr p, fr ≤ p → p ≤ l.length → (M.pk l fr p).length ≤ l.length - fr := by
  refine M.pk_ind (l := l) ?_ ?_ ?_
  · intro fr p hf h h'
    rw [M.pk_end h]
    have := runs_len (l.drop fr)
    rw [List.length_drop] at this
    exact this
  · intro fr p hf h hb ih h'
    rw [M.pk_lit h hb]
    exact ih (by omega)
  · intro fr p hf h hb ih h'
    have h1 := M.best_some hb
    have h2 := M.best_le l p
    have h3 := ih (by omega)
    have h4 := runs_len ((l.take p).drop fr)
    rw [List.length_drop, List.length_take] at h4
    rw [M.pk_mat h hb, List.length_append, List.length_cons]
    omega
theorem own_wide {T : TypeId} {w w' : World} {B : Nat} {v : Value} {rs : List (ByteArray × Int × Int)} (h : OwnT T w B v rs) (hb : Below w.heap.size w w') : OwnT T w' B v rs := own_apart h (fun g hg => hb.block g (World.ownsRow.lt h g hg).2)
set_option maxHeartbeats 4000000 in
set_option maxRecDepth 20000 in
theorem rpacked_any (s : ByteArray) (w : World) (hs : s.size ≤ 100000000000) :
    Calls Try.prog 28 #[.string s] w fun e w' => ∃ v, e = .returned v ∧ OwnT 46 w' w.heap.size v ((M.packT s.data.toList).map rt) ∧ Below w.heap.size w w' := by
  obtain ⟨i0, hi, hz0, hz1, hz2⟩ := info_parts Try.infoRTok
  have hbst := fun (q : Nat) (wr : World) (h1 : q < s.size) => rbest_in s q wr (by omega) h1
  have hlen := len_ s
  have hpk : [] ++ M.pk s.data.toList 0 0 = M.packT s.data.toList := rfl
  have hpl := pk_len (l := s.data.toList) 0 0 (Nat.le_refl _) (Nat.zero_le _)
  have hpl' : (M.packT s.data.toList).length ≤ s.size := by have : (M.packT s.data.toList).length ≤ s.data.toList.length - 0 := hpl; omega
  have hext := len_ext s
  generalize M.packT s.data.toList = P at *
  generalize s.data.toList = l at *
  have HB := hid hbst
  have HK := hid hpk
  have HL := hid hlen
  have HE := hid hext
  clear hbst hpk hlen hext hpl
  go_enter Try.func28, Try.ntmps28
  go_wp2_with fail
  go_loopg [3, 4, 5, 6, 7] s.size (fun k o t a n d wr => ∃ (p fr : Nat) (ts : List M.Tok), p + k = s.size ∧ fr ≤ p ∧ t = .int .i64 fr ∧ a = .int .i64 p ∧ Hid (OwnT 46 wr w.heap.size o (ts.map rt)) ∧ Hid (ts ++ M.pk l fr p = P) ∧ Hid (Below w.heap.size w wr) ∧ Hid (w.heap.size ≤ wr.heap.size))
  case atStart => exact ⟨0, 0, [], by omega, by omega, rfl, rfl, World.ownsRow_nil _ _ _ _, HK, Below.refl _ _, Nat.le_refl _⟩
  case round =>
    clear HK
    obtain ⟨p, fr, ts, hk, hfr, rfl, rfl, HO, HP, HW, HS⟩ := hrel
    by_cases hlt : p < s.size
    · obtain ⟨k, rfl⟩ : ∃ k, gk = k + 1 := ⟨gk - 1, by omega⟩
      have cb := fun wr => HB.out p wr hlt
      have hbl := M.best_le l p
      by_cases h0 : (M.best l p).1 = 0
      · have HP2 := hid (HP.out)
        rw [M.pk_lit (by rw [HL.out]; exact hlt) h0] at HP2
        rw [h0] at cb
        generalize (M.best l p).2 = D at *
        have CB := hid cb
        clear cb h0 hbl HP
        go_wp2_with fail
        refine (CB.out _).mono ?_
        rintro e w1 ⟨rfl, hq⟩
        have HO1 : Hid (OwnT 46 w1 w.heap.size u3 (ts.map rt)) := own_apart HO.out (fun g hg => by rw [hq.heap])
        have HW1 := hid (below_qt HW.out hq)
        have HS1 : Hid (w.heap.size ≤ w1.heap.size) := HW1.out.size
        clear hq CB HO HW HS
        go_wp2_with fail
        go_roundg k
        case measure => omega
        case rel => exact ⟨p + 1, fr, ts, by omega, by omega, rfl, by go_num, HO1, HP2, HW1, HS1⟩
      · have hbs := M.best_some h0
        have HP2 := hid (HP.out)
        rw [M.pk_mat (by rw [HL.out]; exact hlt) h0] at HP2
        obtain ⟨X, hX⟩ : ∃ X, X = s.extract fr p := ⟨_, rfl⟩
        have hXl : M.runs ((l.take p).drop fr) = M.runs X.data.toList := by rw [hX, HE.out, List.drop_take]
        have hXs : X.size ≤ s.size := by rw [← len_, hX, HE.out, List.length_take]; omega
        rw [hXl] at HP2
        have cr := fun w => rruns_any X w (by omega)
        generalize (M.best l p).2 = D at *
        generalize (M.best l p).1 = N at *
        have hN : p + N ≤ s.size := by have := HL.out; omega
        have heq : ((N : Int) == 0) = false := by rw [beq_eq_false_iff_ne]; omega
        have hcnt := congrArg List.length HP2.out
        simp only [List.length_append, List.length_cons] at hcnt
        have hcnt2 : ts.length + (M.runs X.data.toList).length + 1 ≤ s.size := by omega
        have hN4 := hbs.1
        clear hcnt
        generalize M.runs X.data.toList = RX at *
        have CB := hid cb
        have CR := hid cr
        have hXX := hX.symm
        have HRT : Hid ((ts ++ (RX ++ [M.Tok.mat N D])).map rt = (ts.map rt ++ RX.map rt) ++ [((⟨#[]⟩ : ByteArray), (N : Int), (D : Int))]) := by
          show _ = _
          simp only [List.map_append, List.map_cons, List.map_nil, ← List.append_assoc]
          rfl
        have HP3 : Hid (ts ++ (RX ++ [M.Tok.mat N D]) ++ M.pk l (p + N) (p + N) = P) := by
          show _ = P
          rw [← HP2.out]
          simp
        have hml : (ts.map rt).length = ts.length := by simp
        have hmx : (RX.map rt).length = RX.length := by simp
        have ho := HO.out
        unfold OwnT at ho
        rw [hml] at ho
        have HML := hid hml
        have HMX := hid hmx
        generalize ts.map rt = rs at *
        generalize RX.map rt = qs at *
        clear cb cr h0 hbl HP hbs hX hXl HO HP2 hml hmx hXs
        go_wp2_with fail
        refine (CB.out _).mono ?_
        rintro e w1 ⟨rfl, hq⟩
        have ho1 : w1.ownsRow w.heap.size 46 3 u3 ts.length (rcs rs) := own_apart ho (fun g hg => by rw [hq.heap])
        have HW1 := hid (below_qt HW.out hq)
        clear hq CB ho HW HS
        go_wp2_with fail
        refine (CR.out _).mono ?_
        rintro e w2 ⟨v2, rfl, ho2, hb2⟩
        have ho3 : w2.ownsRow w.heap.size 46 3 u3 ts.length (rcs rs) := own_apart ho1 (fun g hg => hb2.block g (World.ownsRow.lt ho1 g hg).2)
        have HW2 := hid (bel_bel HW1.out hb2 HW1.out.size)
        have hsz2 := HW2.out.size
        have hcs := OwnT.cases ho2
        clear ho1 hb2 HW1 ho2
        rcases hcs with ⟨rfl, hq0⟩ | ⟨g2, cap2, rfl, hcell⟩
        · have hR0 : RX.length = 0 := by rw [← HMX.out, hq0]; rfl
          have HQ0 := hid hq0
          clear hq0
          go_wp2_with (at_builtin; first | refine wpList_append_own_none rfl _ _ 41 rfl w.heap.size 46 i0 3 Try.underRToks hi _ _ _ rfl ho3 rfl ?_ | refine wpList_append_own _ rfl _ _ 41 rfl w.heap.size 46 i0 (.agg #[.string ⟨#[]⟩, .int .i64 0, .int .i64 0]) 3 32 Try.underRToks hi hz0 hz1 hz2 rfl (by decide) _ _ _ rfl (ho3.alloc _) ⟨w2.heap.size, 0, none⟩ 1 1 (rc ((⟨#[]⟩ : ByteArray), (N : Int), (D : Int))) rfl rfl ?c1 ?c2 ?c3 ?c4 ?c5 ?_)
          case c1 => exact cells_newN _ (rc ((⟨#[]⟩ : ByteArray), (N : Int), (D : Int))) _ _ rfl
          case c2 => exact rc_one _
          case c3 => unfold maxLen; omega
          case c4 => omega
          case c5 => simp; omega
          intro v' w3 hown3 hgrow3 _
          have HW3 := hid (bel_step HW2.out ho3 hsz2 hgrow3)
          have HO3 : Hid (OwnT 46 w3 w.heap.size v' ((rs ++ qs) ++ [((⟨#[]⟩ : ByteArray), (N : Int), (D : Int))])) := by
            rw [HQ0.out, List.append_nil]
            exact ownT_snoc hown3 HML.out
          have HS3 : Hid (w.heap.size ≤ w3.heap.size) := HW3.out.size
          clear hown3 hgrow3 ho3
          go_wp2_with fail
          go_roundg (s.size - (p + N))
          case measure => omega
          case rel => exact ⟨p + N, p + N, ts ++ (RX ++ [M.Tok.mat N D]), by omega, by omega, by go_num, by go_num, by rw [HRT.out]; exact HO3, HP3, HW3, HS3⟩
        · rw [HMX.out]
          have HCE := hid hcell
          clear hcell
          go_wp2_with (at_builtin; refine wpList_append_own _ rfl _ _ 41 rfl w.heap.size 46 i0 (.agg #[.string ⟨#[]⟩, .int .i64 0, .int .i64 0]) 3 32 Try.underRToks hi hz0 hz1 hz2 rfl (by decide) _ _ _ rfl ho3 ⟨g2, 0, none⟩ RX.length cap2 (rcs qs) rfl ?b0 ?b1 ?b2 ?b3 ?b4 ?b5 ?_)
          case b0 => rw [rcs_len, HMX.out]
          case b1 => exact HCE.out
          case b2 => exact rcs_one _
          case b3 => unfold maxLen; omega
          case b4 => omega
          case b5 => omega
          intro v3 w3 hown3 hgrow3 _
          have HW3 := hid (bel_step0 HW2.out ho3 hsz2 hgrow3)
          have ho4 : w3.ownsRow w.heap.size 46 3 v3 (ts.length + RX.length) (rcs (rs ++ qs)) := by rw [rcs_app]; exact hown3
          have hsz3 := HW3.out.size
          have HML2 : Hid ((rs ++ qs).length = ts.length + RX.length) := by show _ = _; rw [List.length_append, HML.out, HMX.out]
          clear hown3 hgrow3 ho3 HW2
          generalize rs ++ qs = rq at *
          go_wp2_with (at_builtin; refine wpList_append_own _ rfl _ _ 41 rfl w.heap.size 46 i0 (.agg #[.string ⟨#[]⟩, .int .i64 0, .int .i64 0]) 3 32 Try.underRToks hi hz0 hz1 hz2 rfl (by decide) _ _ _ rfl (ho4.alloc _) ⟨w3.heap.size, 0, none⟩ 1 1 (rc ((⟨#[]⟩ : ByteArray), (N : Int), (D : Int))) rfl rfl ?c1 ?c2 ?c3 ?c4 ?c5 ?_)
          case c1 => exact cells_newN _ (rc ((⟨#[]⟩ : ByteArray), (N : Int), (D : Int))) _ _ rfl
          case c2 => exact rc_one _
          case c3 => unfold maxLen; omega
          case c4 => omega
          case c5 => simp; omega
          intro v' w4 hown4 hgrow4 _
          have HW4 := hid (bel_step HW3.out ho4 hsz3 hgrow4)
          have HO4 : Hid (OwnT 46 w4 w.heap.size v' (rq ++ [((⟨#[]⟩ : ByteArray), (N : Int), (D : Int))])) := ownT_snoc hown4 HML2.out
          have HS4 : Hid (w.heap.size ≤ w4.heap.size) := HW4.out.size
          clear hown4 hgrow4 ho4
          go_wp2_with fail
          go_roundg (s.size - (p + N))
          case measure => omega
          case rel => exact ⟨p + N, p + N, ts ++ (RX ++ [M.Tok.mat N D]), by omega, by omega, by go_num, by go_num, by rw [HRT.out]; exact HO4, HP3, HW4, HS4⟩
    · obtain rfl : gk = 0 := by omega
      obtain ⟨X, hX⟩ : ∃ X, X = s.extract fr s.size := ⟨_, rfl⟩
      have hXl : l.drop fr = X.data.toList := by rw [hX, HE.out, List.take_of_length_le (by rw [List.length_drop, HL.out]; exact Nat.le_refl _)]
      have hXs : X.size ≤ s.size := by rw [← len_, hX, HE.out, List.length_take]; omega
      have HP2 := hid (HP.out)
      rw [M.pk_end (by rw [HL.out]; omega), hXl] at HP2
      have cr := fun w => rruns_any X w (by omega)
      have hcnt := congrArg List.length HP2.out
      simp only [List.length_append] at hcnt
      have hcnt2 : ts.length + (M.runs X.data.toList).length ≤ s.size := by omega
      clear hcnt
      generalize M.runs X.data.toList = RX at *
      have CR := hid cr
      have hXX := hX.symm
      have HRT : Hid (P.map rt = ts.map rt ++ RX.map rt) := by show _ = _; rw [← HP2.out]; simp
      have hml : (ts.map rt).length = ts.length := by simp
      have hmx : (RX.map rt).length = RX.length := by simp
      have ho := HO.out
      unfold OwnT at ho
      rw [hml] at ho
      have HML := hid hml
      have HMX := hid hmx
      generalize ts.map rt = rs at *
      generalize RX.map rt = qs at *
      clear cr HP hX hXl HO HP2 hml hmx hXs
      have hpe : p = s.size := by omega
      clear hpe
      go_wp2_with fail
      refine (CR.out _).mono ?_
      rintro e w2 ⟨v2, rfl, ho2, hb2⟩
      have ho3 : w2.ownsRow w.heap.size 46 3 u3 ts.length (rcs rs) := own_apart ho (fun g hg => hb2.block g (World.ownsRow.lt ho g hg).2)
      have HW2 := hid (bel_bel HW.out hb2 HW.out.size)
      have hsz2 := HW2.out.size
      have hcs := OwnT.cases ho2
      clear ho hb2 HW ho2
      rcases hcs with ⟨rfl, hq0⟩ | ⟨g2, cap2, rfl, hcell⟩
      · have HQ0 := hid hq0
        clear hq0
        go_wp2_with (at_builtin; refine wpList_append_own_none rfl _ _ 41 rfl w.heap.size 46 i0 3 Try.underRToks hi _ _ _ rfl ho3 rfl ?_)
        have HO3 : Hid (OwnT 46 w2 w.heap.size u3 (rs ++ qs)) := by
          rw [HQ0.out, List.append_nil]
          show w2.ownsRow _ _ 3 _ rs.length _
          rw [HML.out]
          exact ho3
        clear ho3
        go_wp2_with fail
        go_ret
        exact ⟨_, rfl, by rw [HRT.out]; exact HO3.out, HW2.out⟩
      · rw [HMX.out]
        have HCE := hid hcell
        clear hcell
        go_wp2_with (at_builtin; refine wpList_append_own _ rfl _ _ 41 rfl w.heap.size 46 i0 (.agg #[.string ⟨#[]⟩, .int .i64 0, .int .i64 0]) 3 32 Try.underRToks hi hz0 hz1 hz2 rfl (by decide) _ _ _ rfl ho3 ⟨g2, 0, none⟩ RX.length cap2 (rcs qs) rfl ?b0 ?b1 ?b2 ?b3 ?b4 ?b5 ?_)
        case b0 => rw [rcs_len, HMX.out]
        case b1 => exact HCE.out
        case b2 => exact rcs_one _
        case b3 => unfold maxLen; omega
        case b4 => omega
        case b5 => omega
        intro v3 w3 hown3 hgrow3 _
        have HW3 := hid (bel_step0 HW2.out ho3 hsz2 hgrow3)
        have HO3 : Hid (OwnT 46 w3 w.heap.size v3 (rs ++ qs)) := ownT_app hown3 HML.out HMX.out
        clear hown3 hgrow3 ho3 HW2
        go_wp2_with fail
        go_ret
        exact ⟨_, rfl, by rw [HRT.out]; exact HO3.out, HW3.out⟩
end Go.Proofs.Ytdkfenmhfkggdaa
