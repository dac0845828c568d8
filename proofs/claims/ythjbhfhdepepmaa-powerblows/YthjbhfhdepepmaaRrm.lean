/- The document's disk: Remove. -/
import Derived.Test.YthjbhfhdepepmaaRcr
namespace Go.Proofs.Ythjbhfhdepepmaa
open Go.RowKit
theorem winc1 (n : Nat) (h : n ≤ 65536) : wrap64 ((n : Int) + 1) = ((n + 1 : Nat) : Int) := by unfold wrap64; omega
set_option maxHeartbeats 2000000 in
set_option maxRecDepth 20000 in
theorem rremove_any (d : Nat) (fl : Value) (rm : Nat) (cl cb : Int) (V : Vw) (nm : ByteArray) (w : World) (h : Rk w d fl rm cl cb V) (hs : SV rm V) :
    Calls Try.prog 56 #[.pointer (some ⟨d, 0, none⟩), .string nm] w fun e w' => e = .returned (.int .i64 (noE (vl nm V))) ∧ RAft w (Rt d fl) d rm cl cb (vdel nm V) w' := by
  have c1 := h.c1
  cases hv : vl nm V with
  | none =>
    have e1 : vdel nm V = V := List.filter_eq_self.2 (fun y hy => by simpa using vl_none_ne hv y hy)
    rw [e1]
    have HS := hid' (fun n => RAft.same h n)
    obtain ⟨l, r, _, _, _, HA⟩ := h.at_none hs hv
    have HA := hid' HA
    clear h hs hv e1
    go_enter Try.func56, Try.ntmps56
    go_wp2_with (go_at_call 68; refine HA.out.mono ?_; rintro e w' ⟨rfl, k, rfl⟩)
    go_ret
    exact ⟨rfl, HS.out _⟩
  | some x =>
    obtain ⟨i0, hi, hz0, hz1, hz2⟩ := info_parts Try.infoRF
    obtain ⟨l, r, g, cap, hV, k1, k2, rfl, hlt, _, _, _, _, HA⟩ := h.at_some hs hv
    have HA := hid' HA
    have hc := hs.cnt
    have e1 : vdel nm V = l ++ r := by rw [hV]; exact vdel_mid k1 k2
    rw [e1]
    have hNc : V.length ≤ cap := by
      rcases h.row.2 with ⟨e, _⟩ | ⟨g', cap', cur, e, _, _, hnc, _⟩
      · cases e
      · injection e with _ _ e2
        subst e2
        exact hnc
    have HCe : Hid (∀ wx, Rk wx d (.slice (some ⟨g, 0, none⟩) V.length cap) rm cl cb V → (∀ j u, (rfs l)[j]? = some u → wx.cell? ((⟨g, 0, none⟩ : Addr).add j) = some u) ∧ (∀ j u, (rfs r)[j]? = some u → wx.cell? ((⟨g, (l.length + 1) * 3, none⟩ : Addr).add j) = some u)) := by
      intro wx hk
      rcases hk.form with ⟨e, _⟩ | ⟨g', cap', e, hcl, _⟩
      · cases e
      · injection e with e _ _
        injection e with e
        injection e with e
        subst e
        refine ⟨rfs_left l ((nm, x) :: r) (N := V.length) (by rw [← hV]) (by rw [← hV]; exact hcl), ?_⟩
        have e5 : V = (l ++ [(nm, x)]) ++ r := by rw [hV]; simp
        have := rfs_right (l ++ [(nm, x)]) r (N := V.length) (by rw [← e5]) (by rw [← e5]; exact hcl)
        rw [show (l ++ [(nm, x)]).length = l.length + 1 from by simp] at this
        exact this
    have hLN : l.length + 1 + r.length = V.length := by rw [hV]; simp; omega
    have HL := hid' (rfl : l.length = l.length)
    generalize hN : V.length = N at *
    generalize hL : l.length = L at *
    have HLL := hid' hL
    have hLc : L ≤ cap := by omega
    have hLc1 : L + 1 ≤ cap := by omega
    have hltI : (L : Int) ≤ N := by omega
    have hltI2 : ((L + 1 : Nat) : Int) ≤ N := by omega
    have wi := winc1 L (by omega)
    clear hN hL hV k1 k2 hv e1 hs HL
    have hH := lt_of_heap h.blk
    go_enter Try.func56, Try.ntmps56
    have HD : Hid (∀ wx, Ch (fun _ => False) w wx → Rk wx d (.slice (some ⟨g, 0, none⟩) N cap) rm cl cb V) := fun wx hx => h.ch hx (fun _ _ e => e)
    go_wp2_with (first | (go_at_call 68; refine HA.out.mono ?_; rintro e w1 ⟨rfl, k, hw1⟩; have HC1 : Hid (Ch (fun _ => False) w w1) := (by show Ch _ _ _; rw [hw1]; exact (Ch.refl _ w).drewN k); have d1 := (HD.out w1 HC1.out).c1; have hs1 : w.heap.size ≤ w1.heap.size := HC1.out.size; clear hw1) | (at_builtin; refine wpList_append_own _ rfl _ _ 75 rfl w.heap.size 74 i0 (.agg #[.string ⟨#[]⟩, .string ⟨#[]⟩, .int .i64 0]) 3 40 Try.underRFs hi hz0 hz1 hz2 rfl (by decide) _ _ _ rfl (World.ownsRow_nil w1 _ _ _) ⟨g, 0, none⟩ L cap (rfs l) rfl ?b0 ?b1 ?b2 ?b3 ?b4 ?b5 ?_))
    case b0 => rw [rfs_len, HLL.out]
    case b1 => exact (HCe.out w1 (HD.out w1 HC1.out)).1
    case b2 => exact rfs_one _
    case b3 => unfold maxLen; omega
    case b4 => omega
    case b5 => omega
    intro v2 w2 hown2 hgrow2 _
    have HC2 := hid' (grown_ch HC1.out (World.ownsRow_nil w1 w.heap.size 74 3) (Nat.le_refl _) hgrow2)
    have d2 := (HD.out w2 HC2.out).c1
    have hs2 := HC2.out.size
    obtain ⟨a2, cap2, rfl⟩ := own_form hown2
    obtain ⟨off, hoff, hce⟩ : ∃ off, (if cap = L + 1 then (some ⟨g, 0, none⟩ : Option Addr) else some ⟨g, (L + 1) * 3, none⟩) = some ⟨g, off, none⟩ ∧ ∀ j u, (rfs r)[j]? = some u → w2.cell? ((⟨g, off, none⟩ : Addr).add j) = some u := by
      by_cases e : cap = L + 1
      · refine ⟨0, if_pos e, fun j u hj => ?_⟩
        obtain rfl : r = [] := List.eq_nil_of_length_eq_zero (by omega)
        cases hj
      · exact ⟨_, if_neg e, (HCe.out w2 (HD.out w2 HC2.out)).2⟩
    have HCE := hid' hce
    clear hce hgrow2 d1 HC1
    have eR : N - (L + 1) = r.length := by omega
    go_wp2_with (at_builtin; refine wpList_append_own _ rfl _ _ 75 rfl w.heap.size 74 i0 (.agg #[.string ⟨#[]⟩, .string ⟨#[]⟩, .int .i64 0]) 3 40 Try.underRFs hi hz0 hz1 hz2 rfl (by decide) _ _ _ rfl hown2 ⟨g, off, none⟩ r.length (cap - (L + 1)) (rfs r) (by first | rfl | simp [Act.eval, hoff]) ?e0 ?e1 ?e2 ?e3 ?e4 ?e5 ?_)
    case e0 => rw [rfs_len]
    case e1 => exact HCE.out
    case e2 => exact rfs_one _
    case e3 => unfold maxLen; omega
    case e4 => omega
    case e5 => omega
    intro v4 w4 hown4 hgrow4 _
    obtain ⟨a4, cap4, rfl⟩ := own_form hown4
    have HC4 := hid' (grown_ch HC2.out hown2 (Nat.le_refl _) hgrow4)
    have hk4 := HD.out w4 HC4.out
    have d4 := hk4.c1
    have fz4 := hk4.fz 1
    rw [← rfs_app] at hown4
    have HM := hid' (fun k => h.moved HC4.out hown4 (by rw [List.length_append, HLL.out]) k)
    clear hk4 h hgrow4 hown4 HC4 hown2 HCE d2 HC2
    go_wp2_with fail
    go_ret
    exact ⟨rfl, HM.out 0⟩
end Go.Proofs.Ythjbhfhdepepmaa
