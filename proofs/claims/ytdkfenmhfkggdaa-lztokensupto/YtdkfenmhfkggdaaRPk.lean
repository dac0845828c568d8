/- The reference's runs and Packed: the tokens of packing. -/
import Derived.Test.YtdkfenmhfkggdaaFrm
import Derived.Test.YtdkfenmhfkggdaaBests
namespace Go.Proofs.Ytdkfenmhfkggdaa
open Go.RowKit
theorem Try.infoRTok : (Try.prog.info? 46).map (fun i => (i.zero, i.size, i.bytes)) = some (some (.agg #[.string ⟨#[]⟩, .int .i64 0, .int .i64 0]), 3, 32) := by kernel_rfl
theorem Try.underRToks : Try.prog.underlying 41 = some (.slice 46) := by kernel_rfl
theorem OwnT.cases {T : TypeId} {w : World} {B : Nat} {v : Value} {rs : List (ByteArray × Int × Int)} (h : OwnT T w B v rs) : (v = .slice none 0 0 ∧ rs = []) ∨ ∃ g cap, v = .slice (some ⟨g, 0, none⟩) rs.length cap ∧ ∀ j u, (rcs rs)[j]? = some u → w.cell? ((⟨g, 0, none⟩ : Addr).add j) = some u := by
  have hcell := fun (g : Nat) (hg : v.ownBlock = some g) => World.ownsRow.cells h hg
  obtain ⟨hl, h⟩ := h
  rcases h with ⟨rfl, h1⟩ | ⟨g, cap, cur, rfl, _⟩
  · exact Or.inl ⟨rfl, List.eq_nil_of_length_eq_zero h1⟩
  · exact Or.inr ⟨g, cap, rfl, hcell g rfl⟩
theorem ownT_app {T : TypeId} {w : World} {B n m : Nat} {v : Value} {rs qs : List (ByteArray × Int × Int)} (h : w.ownsRow B T 3 v (n + m) (rcs rs ++ rcs qs)) (hn : rs.length = n) (hm : qs.length = m) : OwnT T w B v (rs ++ qs) := by
  unfold OwnT
  rw [List.length_append, hn, hm, rcs_app]
  exact h
theorem runs_len (l : List UInt8) : (M.runs l).length ≤ l.length := by
  have : ∀ l : List UInt8, (M.runs l).length ≤ l.length := by
    refine M.runs_ind (by simp [M.runs_nil]) ?_
    intro l hl ih
    rw [M.runs_step hl, List.length_cons]
    rw [List.length_drop] at ih
    omega
  exact this l
set_option maxHeartbeats 4000000 in
set_option maxRecDepth 20000 in
theorem rruns_any (L : ByteArray) (w : World) (hs : L.size ≤ 1000000000000) :
    Calls Try.prog 37 #[.string L] w fun e w' => ∃ v, e = .returned v ∧ OwnT 46 w' w.heap.size v ((M.runs L.data.toList).map rt) ∧ Below w.heap.size w w' := by
  obtain ⟨i0, hi, hz0, hz1, hz2⟩ := info_parts Try.infoRTok
  obtain ⟨R, hR⟩ : ∃ R, R = M.runs L.data.toList := ⟨_, rfl⟩
  rw [← hR]
  have HR : Hid ([] ++ M.runs L.data.toList = R) := hR.symm
  clear hR
  go_enter Try.func37, Try.ntmps37
  go_wp2_with fail
  go_loopg [0, 3] L.size (fun k s o wr => ∃ (S : ByteArray) (ts : List M.Tok), S.size = k ∧ s = .string S ∧ Hid (ts.length + S.size ≤ L.size) ∧ Hid (ts ++ M.runs S.data.toList = R) ∧ Hid (OwnT 46 wr w.heap.size o (ts.map rt)) ∧ Hid (Below w.heap.size w wr) ∧ Hid (w.heap.size ≤ wr.heap.size))
  case atStart => exact ⟨L, [], rfl, rfl, by show _ ≤ _; simp, HR, World.ownsRow_nil _ _ _ _, Below.refl _ _, Nat.le_refl _⟩
  case round =>
    clear HR
    obtain ⟨S, ts, rfl, rfl, HU, HP, HO, HB, HS⟩ := hrel
    have hU := HU.out
    have ho := HO.out
    unfold OwnT at ho
    have hml : (ts.map rt).length = ts.length := by simp
    have HML := hid hml
    rw [hml] at ho
    have hsz := HS.out
    have hp := HP.out
    by_cases h8 : 128 < S.size
    · rw [M.runs_step (by rw [len_]; omega)] at hp
      obtain ⟨X, hX⟩ : ∃ X, X = S.extract 0 128 := ⟨_, rfl⟩
      have hXl : X.data.toList = S.data.toList.take 128 := by rw [hX, len_ext, List.drop_zero]
      obtain ⟨Y, hY⟩ : ∃ Y, Y = S.extract 128 S.size := ⟨_, rfl⟩
      have hYl : Y.data.toList = S.data.toList.drop 128 := by rw [hY]; exact ext_drop S 128
      have hYs : Y.size = S.size - 128 := by rw [← len_, hYl, List.length_drop, len_]
      rw [← hXl, ← hYl, show ts ++ M.Tok.lit X.data.toList :: M.runs Y.data.toList = (ts ++ [M.Tok.lit X.data.toList]) ++ M.runs Y.data.toList from by simp] at hp
      have HP2 := hid hp
      have HRT : Hid ((ts ++ [M.Tok.lit X.data.toList]).map rt = ts.map rt ++ [(X, (0 : Int), (0 : Int))]) := by show _ = _; simp [rt, M.Tok.lits, M.Tok.len, M.Tok.dist, ba_of]
      have hX' := hX.symm
      have hY' := hY.symm
      generalize ts.map rt = rs at *
      have HYS := hid hYs
      clear hp hXl hYl hX hY HP HO hml hYs
      go_wp2_with (at_builtin; refine wpList_append_own _ rfl _ _ 41 rfl w.heap.size 46 i0 (.agg #[.string ⟨#[]⟩, .int .i64 0, .int .i64 0]) 3 32 Try.underRToks hi hz0 hz1 hz2 rfl (by decide) _ _ _ rfl (ho.alloc _) ⟨wr.heap.size, 0, none⟩ 1 1 (rc (X, (0 : Int), (0 : Int))) rfl rfl ?c1 ?c2 ?c3 ?c4 ?c5 ?_)
      case c1 => exact cells_newN _ (rc (X, (0 : Int), (0 : Int))) _ _ rfl
      case c2 => exact rc_one _
      case c3 => unfold maxLen; omega
      case c4 => omega
      case c5 => simp; omega
      intro v' w2 hown2 hgrow2 _
      have HB2 := hid (bel_step HB.out ho hsz hgrow2)
      have HO2 : Hid (OwnT 46 w2 w.heap.size v' (rs ++ [(X, (0 : Int), (0 : Int))])) := ownT_snoc hown2 HML.out
      have HS2 : Hid (w.heap.size ≤ w2.heap.size) := HB2.out.size
      clear hown2 hgrow2 ho HB HS
      go_wp2_with fail
      go_roundg (S.size - 128)
      case measure => omega
      case rel => exact ⟨Y, ts ++ [M.Tok.lit X.data.toList], HYS.out, rfl, by show _ ≤ _; rw [List.length_append, HYS.out]; simp; omega, HP2, by rw [HRT.out]; exact HO2, HB2, HS2⟩
    · by_cases h0 : S.size = 0
      · have e1 := (empty_iff S).1 h0
        subst e1
        have HC : Hid (ts = R) := by show ts = R; rw [← hp]; show ts = ts ++ []; simp
        clear hp
        go_wp2_with fail
        go_ret
        exact ⟨_, rfl, by rw [← HC.out]; exact HO.out, HB.out⟩
      · rw [M.runs_step (by rw [len_]; exact h0), List.take_of_length_le (by rw [len_]; omega), List.drop_eq_nil_of_le (by rw [len_]; omega), M.runs_nil] at hp
        have HRT : Hid (R.map rt = ts.map rt ++ [(S, (0 : Int), (0 : Int))]) := by show _ = _; rw [← hp]; simp [rt, M.Tok.lits, M.Tok.len, M.Tok.dist, ba_of]
        generalize ts.map rt = rs at *
        have h0' : (0 : Int) < S.size := by omega
        clear hp HP HO hml h0
        go_wp2_with (at_builtin; refine wpList_append_own _ rfl _ _ 41 rfl w.heap.size 46 i0 (.agg #[.string ⟨#[]⟩, .int .i64 0, .int .i64 0]) 3 32 Try.underRToks hi hz0 hz1 hz2 rfl (by decide) _ _ _ rfl (ho.alloc _) ⟨wr.heap.size, 0, none⟩ 1 1 (rc (S, (0 : Int), (0 : Int))) rfl rfl ?c1 ?c2 ?c3 ?c4 ?c5 ?_)
        case c1 => exact cells_newN _ (rc (S, (0 : Int), (0 : Int))) _ _ rfl
        case c2 => exact rc_one _
        case c3 => unfold maxLen; omega
        case c4 => omega
        case c5 => simp; omega
        intro v' w2 hown2 hgrow2 _
        have HB2 := hid (bel_step HB.out ho hsz hgrow2)
        have HO2 : Hid (OwnT 46 w2 w.heap.size v' (rs ++ [(S, (0 : Int), (0 : Int))])) := ownT_snoc hown2 HML.out
        clear hown2 hgrow2 ho HB HS
        go_wp2_with fail
        go_ret
        exact ⟨_, rfl, by rw [HRT.out]; exact HO2.out, HB2.out⟩
end Go.Proofs.Ytdkfenmhfkggdaa
