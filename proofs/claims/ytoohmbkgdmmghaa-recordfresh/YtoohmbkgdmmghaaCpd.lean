/- The statement's own 'copied': records in new memory. -/
import Derived.Test.YtoohmbkgdmmghaaRbd
import Derived.Laws.AppendOwnNone
import Derived.Deep.RegionLaw
namespace Go.Proofs.Ytoohmbkgdmmghaa
open Go.RowKit
theorem wpList_copy_hds {w : World} {ops : Array Oper} {rest : List Oper} {o : Oper} {a : Act} {Q : Exit → Act → World → Prop} (hgd : o.guard = none) (s x : Operand)
    (ho : o.op = .call { callee := .builtin .append, args := #[s, x], argTypes := #[24, 24] })
    (B : Nat) (v : Value) (hs : a.eval s = v) (hown : w.ownsRow B 33 3 v 0 []) (hB : B ≤ w.heap.size)
    (ao : Option Addr) (rs : List Hdr) (c : Nat) (hx : a.eval x = .slice ao rs.length c) (hv : Hds w ao rs) (hnil : ao = none → c = 0) (h63 : rs.length ≤ 100000000000)
    (h : ∀ v' w', OwnH w' B v' rs → w.grownBy w' v.ownBlock → wpList Try.prog ops Q rest (a.put o.dst v') w') : wpList Try.prog ops Q (o :: rest) a w := by
  obtain ⟨i0, hi, hz0, hz1, hz2⟩ := info_parts Try.infoHdr
  cases ao with
  | none =>
    have h0 : rs = [] := by
      rcases hv with h | ⟨_, _, e1, _⟩
      · exact h
      · cases e1
    subst h0
    have hc := hnil rfl
    subst hc
    refine wpList_append_own_none hgd s x _ ho B 33 i0 3 Try.underHdrs hi v 0 [] hs hown hx ?_
    exact h v w hown ⟨rfl, rfl, rfl, Nat.le_refl _, fun _ _ _ => rfl⟩
  | some ad =>
    refine wpList_append_own w hgd s x _ ho B 33 i0 (.agg #[.string ⟨#[]⟩, .bool false, .string ⟨#[]⟩]) 3 40 Try.underHdrs hi hz0 hz1 hz2 rfl (by decide) v 0 [] hs hown ad rs.length c (hcs rs) hx (hcs_len rs) ?_ (hcs_one rs) (by unfold maxLen; omega) (by omega) hB ?_
    · clear h63
      intro j u hj
      rcases hv with h0 | ⟨b, off, e1, hlt, hc⟩
      · rw [h0] at hj; simp [hcs] at hj
      · obtain rfl : ad = ⟨b, off, none⟩ := Option.some.inj e1
        have hj2 : j < rs.length * 3 := by have := (List.getElem?_eq_some_iff.1 hj).1; rw [hcs_len] at this; exact this
        have hr := hcs_at rs (j / 3) (by omega)
        obtain ⟨c0, c1, c2⟩ := hc (j / 3) (by omega)
        rw [Go.WideShapes.add_plain]
        have h3 : j % 3 = 0 ∨ j % 3 = 1 ∨ j % 3 = 2 := by omega
        rcases h3 with h3 | h3 | h3
        · have ej : j = j / 3 * 3 := by omega
          rw [← ej] at c0 hr
          rw [c0, ← hr.1]
          exact hj
        · have ej : j = j / 3 * 3 + 1 := by omega
          have ea : off + j = off + j / 3 * 3 + 1 := by omega
          rw [ea, c1, ← hr.2.1, ← ej]
          exact hj
        · have ej : j = j / 3 * 3 + 2 := by omega
          have ea : off + j = off + j / 3 * 3 + 2 := by omega
          rw [ea, c2, ← hr.2.2, ← ej]
          exact hj
    · intro v' w' hown' hgrow _
      rw [Nat.zero_add, List.nil_append] at hown'
      exact h v' w' hown' hgrow
set_option maxHeartbeats 1000000 in
set_option maxRecDepth 20000 in
theorem copied_any (l : List RI) (a : Option Addr) (cap : Nat) (w : World) (V : Rcs w a l) (hN : ∀ x ∈ l, x.a = none → x.cap = 0) (hH : ∀ x ∈ l, x.r.hs.length ≤ 1048576) (hL : l.length ≤ 1048576) :
    Calls Try.prog 10 #[.slice a l.length cap] w fun e w' => (∃ v l', e = .returned v ∧ Held w' w.heap.size v l' ∧ l'.map RI.r = l.map RI.r) ∧ Below w.heap.size w w' := by
  have HVV := hid V
  have HNN := hid hN
  have HHH := hid hH
  have HL := hid hL
  obtain ⟨i0, hi, hz0, hz1, hz2⟩ := info_parts Try.infoRec
  obtain ⟨w4, hmk, hown, hgrow⟩ := run_make_own (P := Try.prog) w w.heap.size 30 26 i0 (.agg #[.int .i64 0, .bool false, .string ⟨#[]⟩, .bool false, .string ⟨#[]⟩, .slice none 0 0]) 6 Try.underRecs hi hz0 hz1 .i64 .i64 (l.length + 2) (by rw [hz2]; omega) (by unfold maxLen; omega) (Nat.le_refl _)
  have hb4 : Below w.heap.size w w4 := (Below.refl _ _).grown hgrow (Nat.le_refl _) (fun k hk => by cases hk)
  have HB4 := hid hb4
  have HO4 : Hid (Held w4 w.heap.size (.slice (some ⟨w.heap.size, 0, none⟩) 0 (l.length + 2)) []) := ⟨hown, fun x hx => by simp at hx, List.Pairwise.nil⟩
  rw [show ((l.length + 2 : Nat) : Int) = wrap64 ((l.length : Int) + 2) by unfold wrap64; omega] at hmk
  clear V hN hH hL hown hgrow hb4
  go_enter Try.func10, Try.ntmps10
  go_wp2_with fail
  clear hmk
  go_loopg [3, 12] l.length (fun k o i wr => ∃ (j : Nat) (acc : List RI), j + k = l.length ∧ i = .int .i64 j ∧ Hid (acc.map RI.r = (l.take j).map RI.r) ∧ Hid (Held wr w.heap.size o acc) ∧ Hid (Below w.heap.size w wr))
  case atStart => exact ⟨0, [], by omega, rfl, rfl, HO4, HB4⟩
  case round =>
    clear HO4 HB4
    obtain ⟨j, acc, hk, rfl, HA, HO, HB⟩ := hrel
    by_cases hlt : j < l.length
    · obtain ⟨k, rfl⟩ : ∃ k, gk = k + 1 := ⟨gk - 1, by omega⟩
      have HTK := hid (take_getD hlt)
      have hV := HVV.out.below HB.out
      have hH := hV.1 _ (riD_mem hlt)
      have hnil := HNN.out _ (riD_mem hlt)
      have hhl := HHH.out _ (riD_mem hlt)
      rcases hV.2 with h | ⟨b, off, rfl, hbl, hc⟩
      · rw [h] at hlt; simp at hlt
      obtain ⟨q0, q1, q2, q3, q4, q5⟩ := hc j hlt
      have i1 : (0 : Int) ≤ (j : Int) := by omega
      have i2 : (j : Int) < l.length := by omega
      have HLEN : Hid (acc.length = j) := by
        have := congrArg List.length HA.out
        rw [List.length_map, List.length_map, List.length_take] at this
        show acc.length = j
        omega
      have HMA : Hid ((acc.map RI.r) ++ [(l.getD j dri).r] = (l.take (j + 1)).map RI.r) := by show _ = _; rw [HTK.out, List.map_append, HA.out]; rfl
      have hsz := HB.out.size
      clear hV hc HTK
      generalize l.getD j dri = x at *
      obtain ⟨⟨t, kh, kd, vh, vd, hs⟩, xa, xc⟩ := x
      simp only at q0 q1 q2 q3 q4 q5 hH hnil hhl HMA
      have HHd := hid hH
      have HNI := hid hnil
      have HHL := hid hhl
      clear hH hnil hhl
      have hown0 := World.ownsRow_lit (base := wr.heap.size + 1) (e := 33) (size := 3) (wr.alloc (.cells #[.int .i64 t, .bool kh, .string kd, .bool vh, .string vd, .slice xa hs.length xc] 26)) #[] 0 (by simp) (by unfold maxLen; omega) rfl
      rw [show (wr.alloc (.cells #[.int .i64 t, .bool kh, .string kd, .bool vh, .string vd, .slice xa hs.length xc] 26)).heap.size = wr.heap.size + 1 by simp] at hown0
      have hba : Below wr.heap.size wr ((wr.alloc (.cells #[.int .i64 t, .bool kh, .string kd, .bool vh, .string vd, .slice xa hs.length xc] 26)).alloc (.cells #[] 33)) := ((Below.refl _ wr).alloc (Nat.le_refl _) _).alloc (by simp) _
      have hVa := HHd.out.below hba
      have hg0 : ((wr.alloc (.cells #[.int .i64 t, .bool kh, .string kd, .bool vh, .string vd, .slice xa hs.length xc] 26)).alloc (.cells #[] 33)).heap[wr.heap.size]? = some (.cells #[.int .i64 t, .bool kh, .string kd, .bool vh, .string vd, .slice xa hs.length xc] 26 (0, 0)) := heap_alloc_at (heap_new _ _)
      have HG0 := hid hg0
      have HBA := hid hba
      have HOW0 := hid hown0
      clear hg0 hba
      go_wp2_with (at_builtin; refine wpList_copy_hds rfl _ _ rfl (wr.heap.size + 1) _ rfl hown0 ?hB xa hs xc rfl hVa HNI.out (by have := HHL.out; omega) ?_)
      intro v6 w6 ho6 hgrow6
      have hlt0 := fun k hk => (World.ownsRow.lt HOW0.out k hk).1
      have hg6 := (hgrow6.block wr.heap.size (lt_of_heap HG0.out) (fun e => by have := hlt0 _ e.symm; omega)).trans HG0.out
      have hb6 : Below wr.heap.size wr w6 := HBA.out.grown hgrow6 HBA.out.size (fun k hk => by have := hlt0 k hk; omega)
      obtain ⟨a6, cap6, rfl, _, _⟩ := OwnH.slice ho6
      obtain ⟨m0, m1, m2, m3, m4, m5⟩ := cells6 hg6
      have n5 := froz_of (i := 5) hg6
      have g7 : (w6.setCell ⟨wr.heap.size, 5, none⟩ (.slice a6 hs.length cap6)).heap[wr.heap.size]? = some (.cells #[.int .i64 t, .bool kh, .string kd, .bool vh, .string vd, .slice a6 hs.length cap6] 26 (0, 0)) := heap_set hg6
      obtain ⟨j0, j1, j2, j3, j4, j5⟩ := cells6 g7
      have hb7 : Below wr.heap.size wr (w6.setCell ⟨wr.heap.size, 5, none⟩ (.slice a6 hs.length cap6)) := hb6.setCell (Nat.le_refl _) _
      have ho7 : OwnH (w6.setCell ⟨wr.heap.size, 5, none⟩ (.slice a6 hs.length cap6)) (wr.heap.size + 1) (.slice a6 hs.length cap6) hs := own_apart ho6 (fun g hg => Below.heap_setCell _ _ _ _ (by have := (World.ownsRow.lt ho6 g hg).1; show g ≠ wr.heap.size; omega))
      have hO7 := HO.out.kept (fun g hg _ => hb7.block g hg)
      have hrow := hO7.row
      have HB7 := hid hb7
      have HO7 := hid hO7
      have HH7 := hid ho7
      have hsz6 := hb6.size
      clear hown0 hVa hgrow6 ho6 hlt0 hg6 g7 hb6 hb7 hO7 ho7
      go_wp2_with (at_builtin; refine wpList_append_own _ rfl _ _ 30 rfl w.heap.size 26 i0 (.agg #[.int .i64 0, .bool false, .string ⟨#[]⟩, .bool false, .string ⟨#[]⟩, .slice none 0 0]) 6 80 Try.underRecs hi hz0 hz1 hz2 rfl (by decide) _ _ _ rfl (hrow.alloc _) ⟨w6.heap.size, 0, none⟩ 1 1 (rc1 ⟨⟨t, kh, kd, vh, vd, hs⟩, a6, cap6⟩) rfl rfl ?c1 ?c2 ?c3 ?c4 ?c5 ?_)
      case c1 => first | exact fun j u h => h | exact cells_newN _ (rc1 ⟨⟨t, kh, kd, vh, vd, hs⟩, a6, cap6⟩) _ _ (by simp)
      case c2 => exact rc1_one _
      case c3 => have := HLEN.out; have := HL.out; unfold maxLen; omega
      case c4 => have := HLEN.out; have := HL.out; omega
      case c5 => first | omega | (simp; omega)
      intro v' w9 hown9 hgrow9 _
      have hbc : Below (w6.setCell ⟨wr.heap.size, 5, none⟩ (.slice a6 hs.length cap6)).heap.size (w6.setCell ⟨wr.heap.size, 5, none⟩ (.slice a6 hs.length cap6)) ((w6.setCell ⟨wr.heap.size, 5, none⟩ (.slice a6 hs.length cap6)).alloc (.cells (rc1 ⟨⟨t, kh, kd, vh, vd, hs⟩, a6, cap6⟩).toArray 26)) := (Below.refl _ _).alloc (Nat.le_refl _) _
      have hH8 := HO7.out.kept (fun g hg _ => hbc.block g hg)
      have hX8 := own_base (show w.heap.size ≤ wr.heap.size + 1 by omega) (own_apart HH7.out (fun g hg => hbc.block g (World.ownsRow.lt HH7.out g hg).2))
      have HAP : Hid (∀ y ∈ acc, ∀ g, y.hv.ownBlock = some g → (RI.hv ⟨⟨t, kh, kd, vh, vd, hs⟩, a6, cap6⟩).ownBlock ≠ some g) := fun y hy g hg he => by
        have h1 := (World.ownsRow.lt (HO.out.hds y hy) g hg).2
        have h2 := (World.ownsRow.lt HH7.out g he).1
        omega
      have HO9 := hid (hH8.snoc (x := ⟨⟨t, kh, kd, vh, vd, hs⟩, a6, cap6⟩) hX8 HAP.out hown9 hgrow9)
      have HB9 : Hid (Below w.heap.size w w9) := ((HB.out.trans (HB7.out.mono hsz)).trans (hbc.mono (by have := HB7.out.size; omega))).grown hgrow9 (by have := HB7.out.size; have := hbc.size; omega) (fun k hk => (World.ownsRow.lt hH8.row k hk).1)
      clear hown9 hgrow9 hbc hH8 hX8 hrow m0 m1 m2 m3 m4 m5 n5 j0 j1 j2 j3 j4 j5
      go_wp2_with fail
      go_roundg k
      case measure => omega
      case rel =>
        have hCC := HL.out
        have ew : wrap64 ((j : Int) + 1) = ((j + 1 : Nat) : Int) := by unfold wrap64; omega
        exact ⟨j + 1, acc ++ [⟨⟨t, kh, kd, vh, vd, hs⟩, a6, cap6⟩], by omega, congrArg (Value.int .i64) ew, by show _ = _; rw [← HMA.out, List.map_append]; rfl, HO9, HB9⟩
    · have hj : j = l.length := by omega
      subst hj
      have HAF : Hid (acc.map RI.r = l.map RI.r) := by show _ = _; rw [HA.out, List.take_length]
      go_wp2_with fail
      go_ret
      exact ⟨⟨_, acc, rfl, HO.out, HAF.out⟩, HB.out⟩
end Go.Proofs.Ytoohmbkgdmmghaa
