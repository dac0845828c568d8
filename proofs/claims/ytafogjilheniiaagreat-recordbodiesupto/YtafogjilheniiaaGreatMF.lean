/- Texts of the proof, put together: Cpd, Grt, Grx, Sam6, SamX, Rea5, Bod5. -/
import Derived.Test.YtafogjilheniiaaGreatMB
import Derived.Laws.AppendOwnNone
import Derived.Deep.RegionLaw
import Derived.Test.YtafogjilheniiaaGreatMA
import Derived.Deep.RegionHeld3
import Derived.Test.YtafogjilheniiaaGreatMD
import Derived.Deep.RegionHeld
import Derived.Test.YtafogjilheniiaaGreatME
namespace Go.Proofs.YtafogjilheniiaaGreat
open Go.RowKit
theorem wpList_copy_hds {w : World} {ops : Array Oper} {rest : List Oper} {o : Oper} {a : Act} {Q : Exit → Act → World → Prop} (hgd : o.guard = none) (s x : Operand)
    (ho : o.op = .call { callee := .builtin .append, args := #[s, x], argTypes := #[25, 25] })
    (B : Nat) (v : Value) (hs : a.eval s = v) (hown : w.ownsRow B 81 3 v 0 []) (hB : B ≤ w.heap.size)
    (ao : Option Addr) (rs : List Hdr) (c : Nat) (hx : a.eval x = .slice ao rs.length c) (hv : Hds w ao rs) (hnil : ao = none → c = 0) (h63 : rs.length ≤ 100000000000)
    (h : ∀ v' w', OwnH w' B v' rs → w.grownBy w' v.ownBlock → wpList Tryz.prog ops Q rest (a.put o.dst v') w') : wpList Tryz.prog ops Q (o :: rest) a w := by
  obtain ⟨i0, hi, hz0, hz1, hz2⟩ := info_parts Tryz.infoHdr
  cases ao with
  | none =>
    have h0 : rs = [] := by
      rcases hv with h | ⟨_, _, e1, _⟩
      · exact h
      · cases e1
    subst h0
    have hc := hnil rfl
    subst hc
    refine wpList_append_own_none hgd s x _ ho B 81 i0 3 Tryz.underHdrs hi v 0 [] hs hown hx ?_
    exact h v w hown ⟨rfl, rfl, rfl, Nat.le_refl _, fun _ _ _ => rfl⟩
  | some ad =>
    refine wpList_append_own w hgd s x _ ho B 81 i0 (.agg #[.string ⟨#[]⟩, .bool false, .string ⟨#[]⟩]) 3 40 Tryz.underHdrs hi hz0 hz1 hz2 rfl (by decide) v 0 [] hs hown ad rs.length c (hcs rs) hx (hcs_len rs) ?_ (hcs_one rs) (by unfold maxLen; omega) (by omega) hB ?_
    · clear h63
      intro j u hj
      rcases hv with h0 | ⟨b, off, e1, hlt, hc⟩
      · rw [h0] at hj; simp [hcs] at hj
      · obtain rfl : ad = ⟨b, off, none⟩ := Option.some.inj e1
        have hj2 : j < rs.length * 3 := by have := (List.getElem?_eq_some_iff.1 hj).1; rw [hcs_len] at this; exact this
        have hr := hcs_at rs (j / 3) (by omega)
        obtain ⟨c0, c1, c2⟩ := hc (j / 3) (by omega)
        rw [Go.WideShapes.add_plain]
        have h3 : j % 3 = 0 ∨ j % 3 = 1 ∨ j % 3 = 2 := by omega
        rcases h3 with h3 | h3 | h3
        · have ej : j = j / 3 * 3 := by omega
          rw [← ej] at c0 hr
          rw [c0, ← hr.1]
          exact hj
        · have ej : j = j / 3 * 3 + 1 := by omega
          have ea : off + j = off + j / 3 * 3 + 1 := by omega
          rw [ea, c1, ← hr.2.1, ← ej]
          exact hj
        · have ej : j = j / 3 * 3 + 2 := by omega
          have ea : off + j = off + j / 3 * 3 + 2 := by omega
          rw [ea, c2, ← hr.2.2, ← ej]
          exact hj
    · intro v' w' hown' hgrow _
      rw [Nat.zero_add, List.nil_append] at hown'
      exact h v' w' hown' hgrow
set_option maxHeartbeats 1000000 in
set_option maxRecDepth 20000 in
theorem copied_any (l : List RI) (a : Option Addr) (cap : Nat) (w : World) (V : Rcs w a l) (hN : ∀ x ∈ l, x.a = none → x.cap = 0) (hH : ∀ x ∈ l, x.r.hs.length ≤ 1048576) (hL : l.length ≤ 1048576) :
    Calls Tryz.prog 9 #[.slice a l.length cap] w fun e w' => (∃ v l', e = .returned v ∧ Held w' w.heap.size v l' ∧ l'.map RI.r = l.map RI.r) ∧ Below w.heap.size w w' := by
  have HVV := hid V
  have HNN := hid hN
  have HHH := hid hH
  have HL := hid hL
  obtain ⟨i0, hi, hz0, hz1, hz2⟩ := info_parts Tryz.infoRec
  obtain ⟨w4, hmk, hown, hgrow⟩ := run_make_own (P := Tryz.prog) w w.heap.size 33 27 i0 (.agg #[.int .i64 0, .bool false, .string ⟨#[]⟩, .bool false, .string ⟨#[]⟩, .slice none 0 0]) 6 Tryz.underRecs hi hz0 hz1 .i64 .i64 (l.length + 2) (by rw [hz2]; omega) (by unfold maxLen; omega) (Nat.le_refl _)
  have hb4 : Below w.heap.size w w4 := (Below.refl _ _).grown hgrow (Nat.le_refl _) (fun k hk => by cases hk)
  have HB4 := hid hb4
  have HO4 : Hid (Held w4 w.heap.size (.slice (some ⟨w.heap.size, 0, none⟩) 0 (l.length + 2)) []) := ⟨hown, fun x hx => by simp at hx, List.Pairwise.nil⟩
  rw [show ((l.length + 2 : Nat) : Int) = wrap64 ((l.length : Int) + 2) by unfold wrap64; omega] at hmk
  clear V hN hH hL hown hgrow hb4
  go_enter Tryz.func9, Tryz.ntmps9
  go_wp2_with fail
  clear hmk
  go_loopg [3, 12] l.length (fun k o i wr => ∃ (j : Nat) (acc : List RI), j + k = l.length ∧ i = .int .i64 j ∧ Hid (acc.map RI.r = (l.take j).map RI.r) ∧ Hid (Held wr w.heap.size o acc) ∧ Hid (Below w.heap.size w wr))
  case atStart => exact ⟨0, [], by omega, rfl, rfl, HO4, HB4⟩
  case round =>
    clear HO4 HB4
    obtain ⟨j, acc, hk, rfl, HA, HO, HB⟩ := hrel
    by_cases hlt : j < l.length
    · obtain ⟨k, rfl⟩ : ∃ k, gk = k + 1 := ⟨gk - 1, by omega⟩
      have HTK := hid (take_getD hlt)
      have hV := HVV.out.below HB.out
      have hH := hV.1 _ (riD_mem hlt)
      have hnil := HNN.out _ (riD_mem hlt)
      have hhl := HHH.out _ (riD_mem hlt)
      rcases hV.2 with h | ⟨b, off, rfl, hbl, hc⟩
      · rw [h] at hlt; simp at hlt
      obtain ⟨q0, q1, q2, q3, q4, q5⟩ := hc j hlt
      have i1 : (0 : Int) ≤ (j : Int) := by omega
      have i2 : (j : Int) < l.length := by omega
      have HLEN : Hid (acc.length = j) := by
        have := congrArg List.length HA.out
        rw [List.length_map, List.length_map, List.length_take] at this
        show acc.length = j
        omega
      have HMA : Hid ((acc.map RI.r) ++ [(l.getD j dri).r] = (l.take (j + 1)).map RI.r) := by show _ = _; rw [HTK.out, List.map_append, HA.out]; rfl
      have hsz := HB.out.size
      clear hV hc HTK
      generalize l.getD j dri = x at *
      obtain ⟨⟨t, kh, kd, vh, vd, hs⟩, xa, xc⟩ := x
      simp only at q0 q1 q2 q3 q4 q5 hH hnil hhl HMA
      have HHd := hid hH
      have HNI := hid hnil
      have HHL := hid hhl
      clear hH hnil hhl
      have hown0 := World.ownsRow_lit (base := wr.heap.size + 1) (e := 81) (size := 3) (wr.alloc (.cells #[.int .i64 t, .bool kh, .string kd, .bool vh, .string vd, .slice xa hs.length xc] 27)) #[] 0 (by simp) (by unfold maxLen; omega) rfl
      rw [show (wr.alloc (.cells #[.int .i64 t, .bool kh, .string kd, .bool vh, .string vd, .slice xa hs.length xc] 27)).heap.size = wr.heap.size + 1 by simp] at hown0
      have hba : Below wr.heap.size wr ((wr.alloc (.cells #[.int .i64 t, .bool kh, .string kd, .bool vh, .string vd, .slice xa hs.length xc] 27)).alloc (.cells #[] 81)) := ((Below.refl _ wr).alloc (Nat.le_refl _) _).alloc (by simp) _
      have hVa := HHd.out.below hba
      have hg0 : ((wr.alloc (.cells #[.int .i64 t, .bool kh, .string kd, .bool vh, .string vd, .slice xa hs.length xc] 27)).alloc (.cells #[] 81)).heap[wr.heap.size]? = some (.cells #[.int .i64 t, .bool kh, .string kd, .bool vh, .string vd, .slice xa hs.length xc] 27 (0, 0)) := heap_alloc_at (heap_new _ _)
      have HG0 := hid hg0
      have HBA := hid hba
      have HOW0 := hid hown0
      clear hg0 hba
      go_wp2_with (at_builtin; refine wpList_copy_hds rfl _ _ rfl (wr.heap.size + 1) _ rfl hown0 ?hB xa hs xc rfl hVa HNI.out (by have := HHL.out; omega) ?_)
      intro v6 w6 ho6 hgrow6
      have hlt0 := fun k hk => (World.ownsRow.lt HOW0.out k hk).1
      have hg6 := (hgrow6.block wr.heap.size (lt_of_heap HG0.out) (fun e => by have := hlt0 _ e.symm; omega)).trans HG0.out
      have hb6 : Below wr.heap.size wr w6 := HBA.out.grown hgrow6 HBA.out.size (fun k hk => by have := hlt0 k hk; omega)
      obtain ⟨a6, cap6, rfl, _, _⟩ := OwnH.slice ho6
      obtain ⟨m0, m1, m2, m3, m4, m5⟩ := cells6 hg6
      have n5 := froz_of (i := 5) hg6
      have g7 : (w6.setCell ⟨wr.heap.size, 5, none⟩ (.slice a6 hs.length cap6)).heap[wr.heap.size]? = some (.cells #[.int .i64 t, .bool kh, .string kd, .bool vh, .string vd, .slice a6 hs.length cap6] 27 (0, 0)) := heap_set hg6
      obtain ⟨j0, j1, j2, j3, j4, j5⟩ := cells6 g7
      have hb7 : Below wr.heap.size wr (w6.setCell ⟨wr.heap.size, 5, none⟩ (.slice a6 hs.length cap6)) := hb6.setCell (Nat.le_refl _) _
      have ho7 : OwnH (w6.setCell ⟨wr.heap.size, 5, none⟩ (.slice a6 hs.length cap6)) (wr.heap.size + 1) (.slice a6 hs.length cap6) hs := own_apart ho6 (fun g hg => Below.heap_setCell _ _ _ _ (by have := (World.ownsRow.lt ho6 g hg).1; show g ≠ wr.heap.size; omega))
      have hO7 := HO.out.kept (fun g hg _ => hb7.block g hg)
      have hrow := hO7.row
      have HB7 := hid hb7
      have HO7 := hid hO7
      have HH7 := hid ho7
      have hsz6 := hb6.size
      clear hown0 hVa hgrow6 ho6 hlt0 hg6 g7 hb6 hb7 hO7 ho7
      go_wp2_with (at_builtin; refine wpList_append_own _ rfl _ _ 33 rfl w.heap.size 27 i0 (.agg #[.int .i64 0, .bool false, .string ⟨#[]⟩, .bool false, .string ⟨#[]⟩, .slice none 0 0]) 6 80 Tryz.underRecs hi hz0 hz1 hz2 rfl (by decide) _ _ _ rfl (hrow.alloc _) ⟨w6.heap.size, 0, none⟩ 1 1 (rc1 ⟨⟨t, kh, kd, vh, vd, hs⟩, a6, cap6⟩) rfl rfl ?c1 ?c2 ?c3 ?c4 ?c5 ?_)
      case c1 => first | exact fun j u h => h | exact cells_newN _ (rc1 ⟨⟨t, kh, kd, vh, vd, hs⟩, a6, cap6⟩) _ _ (by simp)
      case c2 => exact rc1_one _
      case c3 => have := HLEN.out; have := HL.out; unfold maxLen; omega
      case c4 => have := HLEN.out; have := HL.out; omega
      case c5 => first | omega | (simp; omega)
      intro v' w9 hown9 hgrow9 _
      have hbc : Below (w6.setCell ⟨wr.heap.size, 5, none⟩ (.slice a6 hs.length cap6)).heap.size (w6.setCell ⟨wr.heap.size, 5, none⟩ (.slice a6 hs.length cap6)) ((w6.setCell ⟨wr.heap.size, 5, none⟩ (.slice a6 hs.length cap6)).alloc (.cells (rc1 ⟨⟨t, kh, kd, vh, vd, hs⟩, a6, cap6⟩).toArray 27)) := (Below.refl _ _).alloc (Nat.le_refl _) _
      have hH8 := HO7.out.kept (fun g hg _ => hbc.block g hg)
      have hX8 := own_base (show w.heap.size ≤ wr.heap.size + 1 by omega) (own_apart HH7.out (fun g hg => hbc.block g (World.ownsRow.lt HH7.out g hg).2))
      have HAP : Hid (∀ y ∈ acc, ∀ g, y.hv.ownBlock = some g → (RI.hv ⟨⟨t, kh, kd, vh, vd, hs⟩, a6, cap6⟩).ownBlock ≠ some g) := fun y hy g hg he => by
        have h1 := (World.ownsRow.lt (HO.out.hds y hy) g hg).2
        have h2 := (World.ownsRow.lt HH7.out g he).1
        omega
      have HO9 := hid (hH8.snoc (x := ⟨⟨t, kh, kd, vh, vd, hs⟩, a6, cap6⟩) hX8 HAP.out hown9 hgrow9)
      have HB9 : Hid (Below w.heap.size w w9) := ((HB.out.trans (HB7.out.mono hsz)).trans (hbc.mono (by have := HB7.out.size; omega))).grown hgrow9 (by have := HB7.out.size; have := hbc.size; omega) (fun k hk => (World.ownsRow.lt hH8.row k hk).1)
      clear hown9 hgrow9 hbc hH8 hX8 hrow m0 m1 m2 m3 m4 m5 n5 j0 j1 j2 j3 j4 j5
      go_wp2_with fail
      go_roundg k
      case measure => omega
      case rel =>
        have hCC := HL.out
        have ew : wrap64 ((j : Int) + 1) = ((j + 1 : Nat) : Int) := by unfold wrap64; omega
        exact ⟨j + 1, acc ++ [⟨⟨t, kh, kd, vh, vd, hs⟩, a6, cap6⟩], by omega, congrArg (Value.int .i64) ew, by show _ = _; rw [← HMA.out, List.map_append]; rfl, HO9, HB9⟩
    · have hj : j = l.length := by omega
      subst hj
      have HAF : Hid (acc.map RI.r = l.map RI.r) := by show _ = _; rw [HA.out, List.take_length]
      go_wp2_with fail
      go_ret
      exact ⟨⟨_, acc, rfl, HO.out, HAF.out⟩, HB.out⟩
end Go.Proofs.YtafogjilheniiaaGreat
namespace Go.Proofs.YtafogjilheniiaaGreat
open Go.RowKit
/-- The greatest of the first j times. -/
def gm (l : List RI) : Nat → Int
  | 0 => (l.getD 0 dri).r.t
  | j + 1 => if gm l j < (l.getD j dri).r.t then (l.getD j dri).r.t else gm l j
def grt (l : List RI) : Int := if l.length = 0 then 0 else gm l l.length
set_option maxHeartbeats 1000000 in
set_option maxRecDepth 20000 in
theorem greatest_any (l : List RI) (a : Option Addr) (cap : Nat) (w : World) (V : Rcs w a l) (hL : l.length ≤ 9223372036854775806) :
    Calls Tryz.prog 12 #[.slice a l.length cap] w fun e w' => e = .returned (.int .i64 (grt l)) ∧ Below w.heap.size w w' := by
  have HVV := hid V
  clear V
  by_cases h0 : l.length = 0
  · have e0 : grt l = 0 := by unfold grt; rw [if_pos h0]
    rw [e0, h0]
    go_enter Tryz.func12, Tryz.ntmps12
    go_wp2_with fail
    go_ret
    exact ⟨rfl, Below.refl _ _⟩
  · have HE : Hid (grt l = gm l l.length) := by show _ = _; unfold grt; rw [if_neg h0]
    have hl0 : 0 < l.length := by omega
    rcases HVV.out.2 with h | ⟨b, off, rfl, hbl, hc⟩
    · rw [h] at hl0; simp at hl0
    have q0 : w.cell? ⟨b, off, none⟩ = some (.int .i64 (l.getD 0 dri).r.t) := by simpa using (hc 0 hl0).1
    have i0 : (0 : Int) < l.length := by omega
    have n0 : ((l.length : Int) == 0) = false := by rw [beq_eq_false_iff_ne]; omega
    have G0 : (l.getD 0 dri).r.t = gm l 0 := rfl
    rw [G0] at q0
    go_enter Tryz.func12, Tryz.ntmps12
    go_wp2_with fail
    clear q0
    go_loopg [3, 15] l.length (fun k v i wr => ∃ j : Nat, j + k = l.length ∧ v = .int .i64 (gm l j) ∧ i = .int .i64 j ∧ Hid (Below w.heap.size w wr))
    case atStart => exact ⟨0, by omega, rfl, rfl, Below.refl _ _⟩
    case round =>
      obtain ⟨j, hk, rfl, rfl, HB⟩ := hrel
      by_cases hlt : j < l.length
      · obtain ⟨k, rfl⟩ : ∃ k, gk = k + 1 := ⟨gk - 1, by omega⟩
        obtain ⟨q0, q1, q2, q3, q4, q5⟩ := hc j hlt
        have hcw : ∀ o, wr.cell? ⟨b, o, none⟩ = w.cell? ⟨b, o, none⟩ := fun o => HB.out.cell (p := ⟨b, o, none⟩) hbl
        have l0 := (hcw (off + j * 6)).trans q0
        have l1 := (hcw (off + j * 6 + 1)).trans q1
        have l2 := (hcw (off + j * 6 + 2)).trans q2
        have l3 := (hcw (off + j * 6 + 3)).trans q3
        have l4 := (hcw (off + j * 6 + 4)).trans q4
        have l5 := (hcw (off + j * 6 + 5)).trans q5
        have hst : gm l (j + 1) = if gm l j < (l.getD j dri).r.t then (l.getD j dri).r.t else gm l j := rfl
        have i1 : (0 : Int) ≤ (j : Int) := by omega
        have i2 : (j : Int) < l.length := by omega
        have hj63 : j < 9223372036854775806 := by omega
        clear hcw q0 q1 q2 q3 q4 q5
        generalize l.getD j dri = x at *
        obtain ⟨⟨t, kh, kd, vh, vd, hs⟩, xa, xc⟩ := x
        simp only at l0 l1 l2 l3 l4 l5 hst
        by_cases hm : gm l j < t
        · rw [if_pos hm] at hst
          have HST := hid hst
          have hm1 : max (gm l j) t = t := by omega
          clear hst
          generalize gm l j = G at *
          go_wp2_with fail
          go_roundg k
          case measure => omega
          case rel => exact ⟨j + 1, by omega, by rw [HST.out], by go_num, HB.out.alloc HB.out.size _⟩
        · rw [if_neg hm] at hst
          have HST := hid hst
          have hm1 : max (gm l j) t = gm l j := by omega
          clear hst
          generalize gm l j = G at *
          go_wp2_with fail
          go_roundg k
          case measure => omega
          case rel => exact ⟨j + 1, by omega, by rw [HST.out], by go_num, HB.out.alloc HB.out.size _⟩
      · have hj : j = l.length := by omega
        subst hj
        go_wp2_with fail
        go_ret
        exact ⟨by rw [HE.out]; rfl, HB.out⟩
end Go.Proofs.YtafogjilheniiaaGreat
namespace Go.Proofs.YtafogjilheniiaaGreat
open Go.RowKit
set_option maxHeartbeats 1000000 in
set_option maxRecDepth 20000 in
theorem xgreatest_any (l : List RI) (a : Option Addr) (cap : Nat) (w : World) (V : Rcs w a l) (hL : l.length ≤ 9223372036854775806) :
    Calls Tryz.prog 13 #[.slice a l.length cap] w fun e w' => e = .returned (.int .i64 (grt l)) ∧ Below w.heap.size w w' := by
  have HVV := hid V
  clear V
  by_cases h0 : l.length = 0
  · have e0 : grt l = 0 := by unfold grt; rw [if_pos h0]
    rw [e0, h0]
    go_enter Tryz.func13, Tryz.ntmps13
    go_wp2_with fail
    go_ret
    exact ⟨rfl, Below.refl _ _⟩
  · have HE : Hid (grt l = gm l l.length) := by show _ = _; unfold grt; rw [if_neg h0]
    have hl0 : 0 < l.length := by omega
    rcases HVV.out.2 with h | ⟨b, off, rfl, hbl, hc⟩
    · rw [h] at hl0; simp at hl0
    have q0 : w.cell? ⟨b, off, none⟩ = some (.int .i64 (l.getD 0 dri).r.t) := by simpa using (hc 0 hl0).1
    have i0 : (0 : Int) < l.length := by omega
    have n0 : ((l.length : Int) == 0) = false := by rw [beq_eq_false_iff_ne]; omega
    have G0 : (l.getD 0 dri).r.t = gm l 0 := rfl
    rw [G0] at q0
    go_enter Tryz.func13, Tryz.ntmps13
    go_wp2_with fail
    clear q0
    go_loopg [3, 4] l.length (fun k v i wr => ∃ j : Nat, j + k = l.length ∧ v = .int .i64 (gm l j) ∧ i = .int .i64 j ∧ Hid (Below w.heap.size w wr))
    case atStart => exact ⟨0, by omega, rfl, rfl, Below.refl _ _⟩
    case round =>
      obtain ⟨j, hk, rfl, rfl, HB⟩ := hrel
      by_cases hlt : j < l.length
      · obtain ⟨k, rfl⟩ : ∃ k, gk = k + 1 := ⟨gk - 1, by omega⟩
        obtain ⟨q0, q1, q2, q3, q4, q5⟩ := hc j hlt
        have hcw : ∀ o, wr.cell? ⟨b, o, none⟩ = w.cell? ⟨b, o, none⟩ := fun o => HB.out.cell (p := ⟨b, o, none⟩) hbl
        have l0 := (hcw (off + j * 6)).trans q0
        have l1 := (hcw (off + j * 6 + 1)).trans q1
        have l2 := (hcw (off + j * 6 + 2)).trans q2
        have l3 := (hcw (off + j * 6 + 3)).trans q3
        have l4 := (hcw (off + j * 6 + 4)).trans q4
        have l5 := (hcw (off + j * 6 + 5)).trans q5
        have hst : gm l (j + 1) = if gm l j < (l.getD j dri).r.t then (l.getD j dri).r.t else gm l j := rfl
        have i1 : (0 : Int) ≤ (j : Int) := by omega
        have i2 : (j : Int) < l.length := by omega
        have hj63 : j < 9223372036854775806 := by omega
        clear hcw q0 q1 q2 q3 q4 q5
        generalize l.getD j dri = x at *
        obtain ⟨⟨t, kh, kd, vh, vd, hs⟩, xa, xc⟩ := x
        simp only at l0 l1 l2 l3 l4 l5 hst
        by_cases hm : gm l j < t
        · rw [if_pos hm] at hst
          have HST := hid hst
          have hm1 : max (gm l j) t = t := by omega
          clear hst
          generalize gm l j = G at *
          go_wp2_with fail
          go_roundg k
          case measure => omega
          case rel => exact ⟨j + 1, by omega, by rw [HST.out], by go_num, HB⟩
        · rw [if_neg hm] at hst
          have HST := hid hst
          have hm1 : max (gm l j) t = gm l j := by omega
          clear hst
          generalize gm l j = G at *
          go_wp2_with fail
          go_roundg k
          case measure => omega
          case rel => exact ⟨j + 1, by omega, by rw [HST.out], by go_num, HB⟩
      · have hj : j = l.length := by omega
        subst hj
        go_wp2_with fail
        go_ret
        exact ⟨by rw [HE.out]; rfl, HB.out⟩
end Go.Proofs.YtafogjilheniiaaGreat
namespace Go.Proofs.YtafogjilheniiaaGreat
open Go.RowKit
set_option maxHeartbeats 1000000 in
set_option maxRecDepth 20000 in
theorem lsame_yes (t : Int) (kh vh : Bool) (kd vd : ByteArray) (hs : List Hdr) (a1 a2 : Option Addr) (cap1 cap2 : Nat) (w : World) (V1 : Hds w a1 hs) (V2 : Hds w a2 hs) (hz : hs.length ≤ 9223372036854775807) :
    Calls Tryz.prog 14 #[.agg #[.int .i64 t, .bool kh, .string kd, .bool vh, .string vd, .slice a1 hs.length cap1], .agg #[.int .i64 t, .bool kh, .string kd, .bool vh, .string vd, .slice a2 hs.length cap2]] w fun e w' => e = .returned (.bool true) ∧ Below w.heap.size w w' := by
  have n1 := fun w => neq_opt kh kd w
  have n2 := fun w => neq_opt vh vd w
  have g1 := fun x y w => run_eqGuard_agg (P := Tryz.prog) w BinOp.neq 24 x y #[.bool kh, .string kd] #[.bool kh, .string kd] Tryz.optGuard
  have g2 := fun x y w => run_eqGuard_agg (P := Tryz.prog) w BinOp.neq 24 x y #[.bool vh, .string vd] #[.bool vh, .string vd] Tryz.optGuard
  have HV1 := hid V1
  have HV2 := hid V2
  clear V1 V2
  go_enter Tryz.func14, Tryz.ntmps14
  go_wp2_with fail
  have h1 : ((w.alloc (.cells #[.int .i64 t, .bool kh, .string kd, .bool vh, .string vd, .slice a1 hs.length cap1] 27)).alloc (.cells #[.int .i64 t, .bool kh, .string kd, .bool vh, .string vd, .slice a2 hs.length cap2] 27)).heap[w.heap.size]? = some (.cells #[.int .i64 t, .bool kh, .string kd, .bool vh, .string vd, .slice a1 hs.length cap1] 27 (0, 0)) := heap_alloc_at (heap_new _ _)
  have h2 : ((w.alloc (.cells #[.int .i64 t, .bool kh, .string kd, .bool vh, .string vd, .slice a1 hs.length cap1] 27)).alloc (.cells #[.int .i64 t, .bool kh, .string kd, .bool vh, .string vd, .slice a2 hs.length cap2] 27)).heap[w.heap.size + 1]? = some (.cells #[.int .i64 t, .bool kh, .string kd, .bool vh, .string vd, .slice a2 hs.length cap2] 27 (0, 0)) := heap_new' _ _ _ (by simp)
  have hb1 : Below w.heap.size w ((w.alloc (.cells #[.int .i64 t, .bool kh, .string kd, .bool vh, .string vd, .slice a1 hs.length cap1] 27)).alloc (.cells #[.int .i64 t, .bool kh, .string kd, .bool vh, .string vd, .slice a2 hs.length cap2] 27)) := ((Below.refl _ w).alloc (Nat.le_refl _) _).alloc (by simp) _
  have hs1 : ((w.alloc (.cells #[.int .i64 t, .bool kh, .string kd, .bool vh, .string vd, .slice a1 hs.length cap1] 27)).alloc (.cells #[.int .i64 t, .bool kh, .string kd, .bool vh, .string vd, .slice a2 hs.length cap2] 27)).heap.size = w.heap.size + 2 := by simp
  generalize ((w.alloc (.cells #[.int .i64 t, .bool kh, .string kd, .bool vh, .string vd, .slice a1 hs.length cap1] 27)).alloc (.cells #[.int .i64 t, .bool kh, .string kd, .bool vh, .string vd, .slice a2 hs.length cap2] 27)) = W2 at *
  have hB : w.heap.size + 2 ≤ W2.heap.size := by omega
  have HB1 := hid hb1
  have H1 := hid h1
  have H2 := hid h2
  have y1 : w.heap.size < w.heap.size + 2 := by omega
  have y2 : w.heap.size + 1 < w.heap.size + 2 := by omega
  clear h1 h2 hb1 n1 n2 g1 g2
  have HX2 : Hid (Below (w.heap.size + 2) W2 W2) := Below.refl _ _
  go_loopg [37] hs.length (fun k i wr => ∃ j : Nat, j + k = hs.length ∧ i = .int .i64 j ∧ Hid (Below (w.heap.size + 2) W2 wr))
  case atStart => exact ⟨0, by omega, rfl, HX2⟩
  case round =>
    obtain ⟨j, hk, rfl, HB⟩ := hrel
    by_cases hlt : j < hs.length
    · obtain ⟨k, rfl⟩ : ∃ k, gk = k + 1 := ⟨gk - 1, by omega⟩
      rcases HV1.out with h | ⟨b, off, rfl, hbl, hc⟩
      · rw [h] at hlt; simp at hlt
      rcases HV2.out with h | ⟨b2, off2, rfl, hbl2, hc2⟩
      · rw [h] at hlt; simp at hlt
      obtain ⟨q0, q1, q2⟩ := hc j hlt
      obtain ⟨p0, p1, p2⟩ := hc2 j hlt
      have hcw : ∀ z, Below (w.heap.size + 2) W2 z → ∀ b o, b < w.heap.size → z.cell? ⟨b, o, none⟩ = w.cell? ⟨b, o, none⟩ := fun z hz b o h => (hz.cell (p := ⟨b, o, none⟩) (by show b < _; omega)).trans (HB1.out.cell (p := ⟨b, o, none⟩) h)
      generalize hs.getD j df = x at *
      obtain ⟨xk, xh, xd⟩ := x
      simp only at q0 q1 q2 p0 p1 p2
      have i1 : (0 : Int) ≤ (j : Int) := by omega
      have i2 : (j : Int) < hs.length := by omega
      have HS : Hid (∀ z, Below (w.heap.size + 2) W2 z → (fun z => (z.cell? ⟨w.heap.size, 5, none⟩ = some (.slice (some ⟨b, off, none⟩) hs.length cap1) ∧ z.cell? ⟨w.heap.size + 1, 5, none⟩ = some (.slice (some ⟨b2, off2, none⟩) hs.length cap2) ∧ (z.cell? ⟨b, off + j * 3, none⟩ = some (.string xk) ∧ z.cell? ⟨b, off + j * 3 + 1, none⟩ = some (.bool xh) ∧ z.cell? ⟨b, off + j * 3 + 2, none⟩ = some (.string xd)) ∧ (z.cell? ⟨b2, off2 + j * 3, none⟩ = some (.string xk) ∧ z.cell? ⟨b2, off2 + j * 3 + 1, none⟩ = some (.bool xh) ∧ z.cell? ⟨b2, off2 + j * 3 + 2, none⟩ = some (.string xd))) ∧ Below (w.heap.size + 2) W2 z) z) := fun z hz => ⟨⟨held_at H1.out y1 rfl hz, held_at H2.out y2 rfl hz, ⟨(hcw z hz b _ hbl).trans q0, (hcw z hz b _ hbl).trans q1, (hcw z hz b _ hbl).trans q2⟩, (hcw z hz b2 _ hbl2).trans p0, (hcw z hz b2 _ hbl2).trans p1, (hcw z hz b2 _ hbl2).trans p2⟩, hz⟩
      have h9 := HB.out
      have n3 := fun w => neq_hdr xk xh xd w
      have g3 := fun x y w => run_eqGuard_agg (P := Tryz.prog) w BinOp.neq 81 x y #[.string xk, .bool xh, .string xd] #[.string xk, .bool xh, .string xd] Tryz.hdrGuard
      clear hcw q0 q1 q2 p0 p1 p2 hc hc2
      go_wp2_with fail
      go_region_held3 (fun z => (z.cell? ⟨w.heap.size, 5, none⟩ = some (.slice (some ⟨b, off, none⟩) hs.length cap1) ∧ z.cell? ⟨w.heap.size + 1, 5, none⟩ = some (.slice (some ⟨b2, off2, none⟩) hs.length cap2) ∧ (z.cell? ⟨b, off + j * 3, none⟩ = some (.string xk) ∧ z.cell? ⟨b, off + j * 3 + 1, none⟩ = some (.bool xh) ∧ z.cell? ⟨b, off + j * 3 + 2, none⟩ = some (.string xd)) ∧ (z.cell? ⟨b2, off2 + j * 3, none⟩ = some (.string xk) ∧ z.cell? ⟨b2, off2 + j * 3 + 1, none⟩ = some (.bool xh) ∧ z.cell? ⟨b2, off2 + j * 3 + 2, none⟩ = some (.string xd))) ∧ Below (w.heap.size + 2) W2 z) (first | with_reducible exact HS.out _ (by assumption) | with_reducible exact HS.out _ (Below.drew (by assumption))) (fail)
      all_goals
        rename_i hH3
        have HB9 := hid hH3.2
        clear hH3 n3 g3
        go_wp2_with fail
        go_roundg k
        case measure => omega
        case rel => exact ⟨j + 1, by omega, by go_num, HB9⟩
    · have HF := hid (HB1.out.trans (HB.out.mono (by omega)))
      have i2 : ¬ (j : Int) < hs.length := by omega
      go_wp2_with fail
      go_ret
      exact ⟨rfl, HF.out⟩
end Go.Proofs.YtafogjilheniiaaGreat
namespace Go.Proofs.YtafogjilheniiaaGreat
open Go.RowKit
set_option maxHeartbeats 400000 in
set_option maxRecDepth 20000 in
theorem xsameopt_yes (b : Bool) (d : ByteArray) (w : World) :
    Calls Tryz.prog 58 #[.agg #[.bool b, .string d], .agg #[.bool b, .string d]] w fun e w' => e = .returned (.bool true) ∧ Below w.heap.size w w' := by
  cases b with
  | false =>
    go_enter Tryz.func58, Tryz.ntmps58
    go_wp2_with fail
    go_ret
    exact ⟨rfl, ((Below.refl _ w).alloc (Nat.le_refl _) _).alloc (by simp) _⟩
  | true =>
    go_enter Tryz.func58, Tryz.ntmps58
    go_wp2_with fail
    go_ret
    exact ⟨rfl, ((Below.refl _ w).alloc (Nat.le_refl _) _).alloc (by simp) _⟩
set_option maxHeartbeats 400000 in
set_option maxRecDepth 20000 in
theorem xbare_any (h : Bool) (d : ByteArray) (w : World) :
    Calls Tryz.prog 59 #[.agg #[.bool h, .string d]] w fun e w' => e = .returned (.agg #[.bool h, .string (bd h d)]) ∧ Below w.heap.size w w' := by
  cases h with
  | false =>
    go_enter Tryz.func59, Tryz.ntmps59
    go_wp2_with fail
    exact bodyPost_ret (v := .agg #[.bool false, .string ⟨#[]⟩]) (by simp [results, Tryz.results59, go_sem]) rfl ⟨rfl, ((Below.refl _ w).alloc (Nat.le_refl _) _).alloc (by simp) _⟩
  | true =>
    go_enter Tryz.func59, Tryz.ntmps59
    go_wp2_with fail
    exact bodyPost_ret (v := .agg #[.bool true, .string d]) (by simp [results, Tryz.results59, go_sem]) rfl ⟨rfl, ((Below.refl _ w).alloc (Nat.le_refl _) _).alloc (by simp) _⟩
theorem xsameB (b : Bool) (d : ByteArray) (B : Nat) (w0 w : World) (hB : B ≤ w0.heap.size) (hb : Below B w0 w) :
    Calls Tryz.prog 58 #[.agg #[.bool b, .string d], .agg #[.bool b, .string d]] w fun e w' => e = .returned (.bool true) ∧ Below B w0 w' :=
  (xsameopt_yes b d w).mono fun _ _ h => ⟨h.1, bel_next hb hB h.2⟩
set_option maxHeartbeats 1000000 in
set_option maxRecDepth 20000 in
theorem xsame_yes (t : Int) (kh vh : Bool) (kd vd : ByteArray) (hs : List Hdr) (a1 a2 : Option Addr) (cap1 cap2 : Nat) (w : World) (V1 : Hds w a1 hs) (V2 : Hds w a2 hs) (hz : hs.length ≤ 9223372036854775807) :
    Calls Tryz.prog 30 #[.agg #[.int .i64 t, .bool kh, .string kd, .bool vh, .string vd, .slice a1 hs.length cap1], .agg #[.int .i64 t, .bool kh, .string kd, .bool vh, .string vd, .slice a2 hs.length cap2]] w fun e w' => e = .returned (.bool true) ∧ Below w.heap.size w w' := by
  have HV1 := hid V1
  have HV2 := hid V2
  clear V1 V2
  go_enter Tryz.func30, Tryz.ntmps30
  go_wp2_with fail
  have h1 : ((w.alloc (.cells #[.int .i64 t, .bool kh, .string kd, .bool vh, .string vd, .slice a1 hs.length cap1] 27)).alloc (.cells #[.int .i64 t, .bool kh, .string kd, .bool vh, .string vd, .slice a2 hs.length cap2] 27)).heap[w.heap.size]? = some (.cells #[.int .i64 t, .bool kh, .string kd, .bool vh, .string vd, .slice a1 hs.length cap1] 27 (0, 0)) := heap_alloc_at (heap_new _ _)
  have h2 : ((w.alloc (.cells #[.int .i64 t, .bool kh, .string kd, .bool vh, .string vd, .slice a1 hs.length cap1] 27)).alloc (.cells #[.int .i64 t, .bool kh, .string kd, .bool vh, .string vd, .slice a2 hs.length cap2] 27)).heap[w.heap.size + 1]? = some (.cells #[.int .i64 t, .bool kh, .string kd, .bool vh, .string vd, .slice a2 hs.length cap2] 27 (0, 0)) := heap_new' _ _ _ (by simp)
  have hb1 : Below w.heap.size w ((w.alloc (.cells #[.int .i64 t, .bool kh, .string kd, .bool vh, .string vd, .slice a1 hs.length cap1] 27)).alloc (.cells #[.int .i64 t, .bool kh, .string kd, .bool vh, .string vd, .slice a2 hs.length cap2] 27)) := ((Below.refl _ w).alloc (Nat.le_refl _) _).alloc (by simp) _
  have hs1 : ((w.alloc (.cells #[.int .i64 t, .bool kh, .string kd, .bool vh, .string vd, .slice a1 hs.length cap1] 27)).alloc (.cells #[.int .i64 t, .bool kh, .string kd, .bool vh, .string vd, .slice a2 hs.length cap2] 27)).heap.size = w.heap.size + 2 := by simp
  generalize ((w.alloc (.cells #[.int .i64 t, .bool kh, .string kd, .bool vh, .string vd, .slice a1 hs.length cap1] 27)).alloc (.cells #[.int .i64 t, .bool kh, .string kd, .bool vh, .string vd, .slice a2 hs.length cap2] 27)) = W2 at *
  have hB : w.heap.size + 2 ≤ W2.heap.size := by omega
  have HB1 := hid hb1
  have h0 : Below (w.heap.size + 2) W2 W2 := Below.refl _ _
  have H1 := hid h1
  have H2 := hid h2
  have y1 : w.heap.size < w.heap.size + 2 := by omega
  have y2 : w.heap.size + 1 < w.heap.size + 2 := by omega
  clear h1 h2 hb1
  refine (xsameB kh kd _ W2 W2 hB h0).mono ?_
  rintro e x1 ⟨rfl, hx1⟩
  obtain ⟨c0, c1, c2, c3, c4, c5⟩ := cells6 ((hx1.block w.heap.size y1).trans H1.out)
  obtain ⟨d0, d1, d2, d3, d4, d5⟩ := cells6 ((hx1.block (w.heap.size + 1) y2).trans H2.out)
  go_wp2_with fail
  refine (xsameB vh vd _ W2 x1 hB hx1).mono ?_
  rintro e x2 ⟨rfl, hx2⟩
  clear c0 c1 c2 c3 c4 c5 d0 d1 d2 d3 d4 d5
  have c5 : x2.cell? ⟨w.heap.size, 5, none⟩ = some (.slice a1 hs.length cap1) := held_at H1.out y1 rfl hx2
  have d5 : x2.cell? ⟨w.heap.size + 1, 5, none⟩ = some (.slice a2 hs.length cap2) := held_at H2.out y2 rfl hx2
  have HX2 := hid hx2
  clear hx1 hx2
  go_wp2_with fail
  clear c5 d5
  go_loopg [5] hs.length (fun k i wr => ∃ j : Nat, j + k = hs.length ∧ i = .int .i64 j ∧ Hid (Below (w.heap.size + 2) W2 wr))
  case atStart => exact ⟨0, by omega, rfl, HX2⟩
  case round =>
    obtain ⟨j, hk, rfl, HB⟩ := hrel
    have c5 : wr.cell? ⟨w.heap.size, 5, none⟩ = some (.slice a1 hs.length cap1) := held_at H1.out y1 rfl HB.out
    by_cases hlt : j < hs.length
    · obtain ⟨k, rfl⟩ : ∃ k, gk = k + 1 := ⟨gk - 1, by omega⟩
      rcases HV1.out with h | ⟨b, off, rfl, hbl, hc⟩
      · rw [h] at hlt; simp at hlt
      rcases HV2.out with h | ⟨b2, off2, rfl, hbl2, hc2⟩
      · rw [h] at hlt; simp at hlt
      have d5 : wr.cell? ⟨w.heap.size + 1, 5, none⟩ = some (.slice (some ⟨b2, off2, none⟩) hs.length cap2) := held_at H2.out y2 rfl HB.out
      obtain ⟨q0, q1, q2⟩ := hc j hlt
      obtain ⟨p0, p1, p2⟩ := hc2 j hlt
      have hcw : ∀ z, Below (w.heap.size + 2) W2 z → ∀ b o, b < w.heap.size → z.cell? ⟨b, o, none⟩ = w.cell? ⟨b, o, none⟩ := fun z hz b o h => (hz.cell (p := ⟨b, o, none⟩) (by show b < _; omega)).trans (HB1.out.cell (p := ⟨b, o, none⟩) h)
      generalize hs.getD j df = x at *
      obtain ⟨xk, xh, xd⟩ := x
      simp only at q0 q1 q2 p0 p1 p2
      have i1 : (0 : Int) ≤ (j : Int) := by omega
      have i2 : (j : Int) < hs.length := by omega
      have HS : Hid (∀ z, Below (w.heap.size + 2) W2 z → (fun z => (z.cell? ⟨w.heap.size, 5, none⟩ = some (.slice (some ⟨b, off, none⟩) hs.length cap1) ∧ z.cell? ⟨w.heap.size + 1, 5, none⟩ = some (.slice (some ⟨b2, off2, none⟩) hs.length cap2) ∧ (z.cell? ⟨b, off + j * 3, none⟩ = some (.string xk) ∧ z.cell? ⟨b, off + j * 3 + 1, none⟩ = some (.bool xh) ∧ z.cell? ⟨b, off + j * 3 + 2, none⟩ = some (.string xd)) ∧ (z.cell? ⟨b2, off2 + j * 3, none⟩ = some (.string xk) ∧ z.cell? ⟨b2, off2 + j * 3 + 1, none⟩ = some (.bool xh) ∧ z.cell? ⟨b2, off2 + j * 3 + 2, none⟩ = some (.string xd))) ∧ Below (w.heap.size + 2) W2 z) z) := fun z hz => ⟨⟨held_at H1.out y1 rfl hz, held_at H2.out y2 rfl hz, ⟨(hcw z hz b _ hbl).trans q0, (hcw z hz b _ hbl).trans q1, (hcw z hz b _ hbl).trans q2⟩, (hcw z hz b2 _ hbl2).trans p0, (hcw z hz b2 _ hbl2).trans p1, (hcw z hz b2 _ hbl2).trans p2⟩, hz⟩
      have h9 := HB.out
      clear hcw q0 q1 q2 p0 p1 p2 hc hc2
      go_wp2_with fail
      clear c5 d5
      go_region_held3 (fun z => (z.cell? ⟨w.heap.size, 5, none⟩ = some (.slice (some ⟨b, off, none⟩) hs.length cap1) ∧ z.cell? ⟨w.heap.size + 1, 5, none⟩ = some (.slice (some ⟨b2, off2, none⟩) hs.length cap2) ∧ (z.cell? ⟨b, off + j * 3, none⟩ = some (.string xk) ∧ z.cell? ⟨b, off + j * 3 + 1, none⟩ = some (.bool xh) ∧ z.cell? ⟨b, off + j * 3 + 2, none⟩ = some (.string xd)) ∧ (z.cell? ⟨b2, off2 + j * 3, none⟩ = some (.string xk) ∧ z.cell? ⟨b2, off2 + j * 3 + 1, none⟩ = some (.bool xh) ∧ z.cell? ⟨b2, off2 + j * 3 + 2, none⟩ = some (.string xd))) ∧ Below (w.heap.size + 2) W2 z) (first | with_reducible exact HS.out _ (by assumption) | with_reducible exact HS.out _ (Below.drew (by assumption))) (first | (go_at_call 58; refine (xsameB _ _ (w.heap.size + 2) W2 _ hB ?_).mono ?_; (first | assumption | exact Below.drew (by assumption)); rintro e w' ⟨rfl, hbel⟩))
      all_goals
        rename_i hH3
        have HB9 := hid hH3.2
        clear hH3
        go_wp2_with fail
        go_roundg k
        case measure => omega
        case rel => exact ⟨j + 1, by omega, by go_num, HB9⟩
    · have HF := hid (HB1.out.trans (HB.out.mono (by omega)))
      have i2 : ¬ (j : Int) < hs.length := by omega
      go_wp2_with fail
      go_ret
      exact ⟨rfl, HF.out⟩
theorem xbareB (h : Bool) (d : ByteArray) (B : Nat) (w0 w : World) (hB : B ≤ w0.heap.size) (hb : Below B w0 w) :
    Calls Tryz.prog 59 #[.agg #[.bool h, .string d]] w fun e w' => e = .returned (.agg #[.bool h, .string (bd h d)]) ∧ Below B w0 w' :=
  (xbare_any h d w).mono fun _ _ h => ⟨h.1, bel_next hb hB h.2⟩
set_option maxHeartbeats 1000000 in
set_option maxRecDepth 20000 in
theorem xclean_yes (t : Int) (kh vh : Bool) (kd vd : ByteArray) (hs : List Hdr) (a : Option Addr) (cap : Nat) (w : World) (V : Hds w a hs) (hz : hs.length ≤ 9223372036854775807) (hK : bd kh kd = kd) (hV : bd vh vd = vd) (hH : ∀ j, j < hs.length → bd (hs.getD j df).2.1 (hs.getD j df).2.2 = (hs.getD j df).2.2) :
    Calls Tryz.prog 31 #[.agg #[.int .i64 t, .bool kh, .string kd, .bool vh, .string vd, .slice a hs.length cap]] w fun e w' => e = .returned (.bool true) ∧ Below w.heap.size w w' := by
  have n1 : ∀ w, (binOp .neq 24 (.agg #[.bool kh, .string kd]) (.agg #[.bool kh, .string (bd kh kd)])).run Tryz.prog w = .ok (.bool false) w := fun w => by rw [hK]; exact neq_opt _ _ w
  have n2 : ∀ w, (binOp .neq 24 (.agg #[.bool vh, .string vd]) (.agg #[.bool vh, .string (bd vh vd)])).run Tryz.prog w = .ok (.bool false) w := fun w => by rw [hV]; exact neq_opt _ _ w
  have g1 := fun x y w => run_eqGuard_agg (P := Tryz.prog) w BinOp.neq 24 x y #[.bool kh, .string kd] #[.bool kh, .string (bd kh kd)] Tryz.optGuard
  have g2 := fun x y w => run_eqGuard_agg (P := Tryz.prog) w BinOp.neq 24 x y #[.bool vh, .string vd] #[.bool vh, .string (bd vh vd)] Tryz.optGuard
  have HH := hid hH
  have HV1 := hid V
  clear hH V hK hV
  go_enter Tryz.func31, Tryz.ntmps31
  go_wp2_with fail
  have h1 : (w.alloc (.cells #[.int .i64 t, .bool kh, .string kd, .bool vh, .string vd, .slice a hs.length cap] 27)).heap[w.heap.size]? = some (.cells #[.int .i64 t, .bool kh, .string kd, .bool vh, .string vd, .slice a hs.length cap] 27 (0, 0)) := heap_new _ _
  have hb1 : Below w.heap.size w (w.alloc (.cells #[.int .i64 t, .bool kh, .string kd, .bool vh, .string vd, .slice a hs.length cap] 27)) := (Below.refl _ w).alloc (Nat.le_refl _) _
  have hs1 : (w.alloc (.cells #[.int .i64 t, .bool kh, .string kd, .bool vh, .string vd, .slice a hs.length cap] 27)).heap.size = w.heap.size + 1 := by simp
  generalize (w.alloc (.cells #[.int .i64 t, .bool kh, .string kd, .bool vh, .string vd, .slice a hs.length cap] 27)) = W2 at *
  have hB : w.heap.size + 1 ≤ W2.heap.size := by omega
  have HB1 := hid hb1
  have h0 : Below (w.heap.size + 1) W2 W2 := Below.refl _ _
  have H1 := hid h1
  have y1 : w.heap.size < w.heap.size + 1 := by omega
  have HS1 : Hid (∀ z, Below (w.heap.size + 1) W2 z → (fun x => (x.cell? ⟨w.heap.size, 0, none⟩ = some (.int .i64 t) ∧ x.cell? ⟨w.heap.size, 1, none⟩ = some (.bool kh) ∧ x.cell? ⟨w.heap.size, 2, none⟩ = some (.string kd) ∧ x.cell? ⟨w.heap.size, 3, none⟩ = some (.bool vh) ∧ x.cell? ⟨w.heap.size, 4, none⟩ = some (.string vd) ∧ x.cell? ⟨w.heap.size, 5, none⟩ = some (.slice a hs.length cap)) ∧ Below (w.heap.size + 1) W2 x) z) := fun z hz => ⟨cells6 ((hz.block w.heap.size y1).trans H1.out), hz⟩
  clear h1 hb1
  go_region_held3 (fun x => (x.cell? ⟨w.heap.size, 0, none⟩ = some (.int .i64 t) ∧ x.cell? ⟨w.heap.size, 1, none⟩ = some (.bool kh) ∧ x.cell? ⟨w.heap.size, 2, none⟩ = some (.string kd) ∧ x.cell? ⟨w.heap.size, 3, none⟩ = some (.bool vh) ∧ x.cell? ⟨w.heap.size, 4, none⟩ = some (.string vd) ∧ x.cell? ⟨w.heap.size, 5, none⟩ = some (.slice a hs.length cap)) ∧ Below (w.heap.size + 1) W2 x) (first | with_reducible exact HS1.out _ (by assumption) | with_reducible exact HS1.out _ (Below.drew (by assumption))) (first | (go_at_call 59; refine (xbareB _ _ (w.heap.size + 1) W2 _ hB ?_).mono ?_; (first | assumption | exact Below.drew (by assumption)); rintro e w' ⟨rfl, hbel⟩))
  rename_i hHeld
  obtain ⟨⟨_, _, _, _, _, c5⟩, hbx⟩ := hHeld
  clear n1 n2 g1 g2
  go_wp2_with fail
  clear c5
  go_loopg [3] hs.length (fun k i wr => ∃ j : Nat, j + k = hs.length ∧ i = .int .i64 j ∧ Hid (Below (w.heap.size + 1) W2 wr))
  case atStart => exact ⟨0, by omega, rfl, hbx⟩
  case round =>
    obtain ⟨j, hk, rfl, HB⟩ := hrel
    have c5 : wr.cell? ⟨w.heap.size, 5, none⟩ = some (.slice a hs.length cap) := held_at H1.out y1 rfl HB.out
    by_cases hlt : j < hs.length
    · obtain ⟨k, rfl⟩ : ∃ k, gk = k + 1 := ⟨gk - 1, by omega⟩
      rcases HV1.out with h | ⟨b, off, rfl, hbl, hc⟩
      · rw [h] at hlt; simp at hlt
      have e3 := HH.out j hlt
      obtain ⟨q0, q1, q2⟩ := hc j hlt
      have hcw : ∀ z, Below (w.heap.size + 1) W2 z → ∀ b o, b < w.heap.size → z.cell? ⟨b, o, none⟩ = w.cell? ⟨b, o, none⟩ := fun z hz b o h => (hz.cell (p := ⟨b, o, none⟩) (by show b < _; omega)).trans (HB1.out.cell (p := ⟨b, o, none⟩) h)
      generalize hs.getD j df = x at *
      obtain ⟨xk, xh, xd⟩ := x
      simp only at q0 q1 q2 e3
      have i1 : (0 : Int) ≤ (j : Int) := by omega
      have i2 : (j : Int) < hs.length := by omega
      have HS : Hid (∀ z, Below (w.heap.size + 1) W2 z → (fun z => (z.cell? ⟨w.heap.size, 5, none⟩ = some (.slice (some ⟨b, off, none⟩) hs.length cap) ∧ z.cell? ⟨b, off + j * 3 + 1, none⟩ = some (.bool xh) ∧ z.cell? ⟨b, off + j * 3 + 2, none⟩ = some (.string xd)) ∧ Below (w.heap.size + 1) W2 z) z) := fun z hz => ⟨⟨held_at H1.out y1 rfl hz, (hcw z hz b _ hbl).trans q1, (hcw z hz b _ hbl).trans q2⟩, hz⟩
      have h9 := HB.out
      have n3 : ∀ w, (binOp .neq 24 (.agg #[.bool xh, .string xd]) (.agg #[.bool xh, .string (bd xh xd)])).run Tryz.prog w = .ok (.bool false) w := fun w => by rw [e3]; exact neq_opt _ _ w
      have g3 := fun x y w => run_eqGuard_agg (P := Tryz.prog) w BinOp.neq 24 x y #[.bool xh, .string xd] #[.bool xh, .string (bd xh xd)] Tryz.optGuard
      clear hcw q0 q1 q2 hc e3
      go_wp2_with fail
      clear c5
      go_region_held3 (fun z => (z.cell? ⟨w.heap.size, 5, none⟩ = some (.slice (some ⟨b, off, none⟩) hs.length cap) ∧ z.cell? ⟨b, off + j * 3 + 1, none⟩ = some (.bool xh) ∧ z.cell? ⟨b, off + j * 3 + 2, none⟩ = some (.string xd)) ∧ Below (w.heap.size + 1) W2 z) (first | with_reducible exact HS.out _ (by assumption) | with_reducible exact HS.out _ (Below.drew (by assumption))) (first | (go_at_call 59; refine (xbareB _ _ (w.heap.size + 1) W2 _ hB ?_).mono ?_; (first | assumption | exact Below.drew (by assumption)); rintro e w' ⟨rfl, hbel⟩))
      all_goals
        rename_i hH3
        have HB9 := hid hH3.2
        clear hH3 n3 g3
        go_wp2_with fail
        go_roundg k
        case measure => omega
        case rel => exact ⟨j + 1, by omega, by go_num, HB9⟩
    · have HF := hid (HB1.out.trans (HB.out.mono (by omega)))
      have i2 : ¬ (j : Int) < hs.length := by omega
      go_wp2_with fail
      go_ret
      exact ⟨rfl, HF.out⟩
end Go.Proofs.YtafogjilheniiaaGreat
namespace Go.Proofs.YtafogjilheniiaaGreat
open Go.RowKit
theorem bd_cl {h : Bool} {d : ByteArray} (hc : Cl h d) : bd h d = d := by
  cases h with
  | false => rw [hc rfl]; rfl
  | true => rfl
set_option maxHeartbeats 1000000 in
set_option maxRecDepth 20000 in
theorem lclean_yes (y : Rec) (a1 a2 : Option Addr) (cap1 cap2 : Nat) (w : World) (V1 : Hds w a1 y.hs) (V2 : Hds w a2 y.hs) (hz : y.hs.length ≤ 9223372036854775807) (hK : Cl y.kh y.kd) (hV : Cl y.vh y.vd) (hH : Clh y.hs) :
    Calls Tryz.prog 8 #[recV y a1 cap1, recV y a2 cap2] w fun e w' => e = .returned (.bool true) ∧ Below w.heap.size w w' := by
  obtain ⟨t, kh, kd, vh, vd, hs⟩ := y
  simp only [recV] at *
  have C1 := hid (fun x (hx : Below w.heap.size w x) => xsame_yes t kh vh kd vd hs a1 a2 cap1 cap2 x (V1.below hx) (V2.below hx) hz)
  have C2 := hid (fun x (hx : Below w.heap.size w x) => xclean_yes t kh vh kd vd hs a1 cap1 x (V1.below hx) hz (bd_cl hK) (bd_cl hV) (fun j hj => bd_cl (hH _ (by rw [List.getD_eq_getElem?_getD, List.getElem?_eq_getElem hj, Option.getD_some]; exact List.getElem_mem hj))))
  clear V1 V2 hz hK hV hH
  go_enter Tryz.func8, Tryz.ntmps8
  go_wp2_with fail
  have h1 : ((w.alloc (.cells #[.int .i64 t, .bool kh, .string kd, .bool vh, .string vd, .slice a1 hs.length cap1] 27)).alloc (.cells #[.int .i64 t, .bool kh, .string kd, .bool vh, .string vd, .slice a2 hs.length cap2] 27)).heap[w.heap.size]? = some (.cells #[.int .i64 t, .bool kh, .string kd, .bool vh, .string vd, .slice a1 hs.length cap1] 27 (0, 0)) := heap_alloc_at (heap_new _ _)
  have hb1 : Below w.heap.size w ((w.alloc (.cells #[.int .i64 t, .bool kh, .string kd, .bool vh, .string vd, .slice a1 hs.length cap1] 27)).alloc (.cells #[.int .i64 t, .bool kh, .string kd, .bool vh, .string vd, .slice a2 hs.length cap2] 27)) := ((Below.refl _ w).alloc (Nat.le_refl _) _).alloc (by simp) _
  generalize ((w.alloc (.cells #[.int .i64 t, .bool kh, .string kd, .bool vh, .string vd, .slice a1 hs.length cap1] 27)).alloc (.cells #[.int .i64 t, .bool kh, .string kd, .bool vh, .string vd, .slice a2 hs.length cap2] 27)) = W2 at *
  refine (C1.out _ hb1).mono ?_
  rintro e w1 ⟨rfl, hb2⟩
  obtain ⟨c0, c1, c2, c3, c4, c5⟩ := cells6 ((hb2.block _ (lt_of_heap h1)).trans h1)
  have HB2 := hid (bel_next hb1 (Nat.le_refl _) hb2)
  clear h1 hb1 hb2
  go_wp2_with fail
  refine (C2.out _ HB2.out).mono ?_
  rintro e w2 ⟨rfl, hb3⟩
  have HB3 := hid (bel_next HB2.out (Nat.le_refl _) hb3)
  clear hb3
  go_wp2_with fail
  go_ret
  exact ⟨rfl, HB3.out⟩
set_option maxHeartbeats 1000000 in
set_option maxRecDepth 20000 in
theorem reads_walk (s : ByteArray) (first n : Int) (w : World) (hs : s.size ≤ 9223372036854775807) (f1 : -9223372036854775808 ≤ first) (f2 : first ≤ 9223372036854775807) (_n1 : -9223372036854775808 ≤ n) (_n2 : n ≤ 9223372036854775807) :
    Calls Tryz.prog 3 #[.string s, .int .i64 first, .int .i64 n] w fun e w' => e = .returned (.bool true) ∧ Below w.heap.size w w' := by
  have CR := hid (fun x => read5_any s first n x hs ⟨f1, f2⟩)
  have CX := hid (fun x => xread_any s first n x hs ⟨f1, f2⟩)
  have CFm := hid (fun x => forms_any x)
  have HG : Hid (∀ y, rd5 s first n = .ok y → Good first y.1) := fun y h => by
    unfold rd5 at h
    by_cases hn : 0 ≤ n ∧ n < 65536
    · rw [if_neg (by simpa using hn)] at h
      exact ((nxt_iff hs (Nat.zero_le _) (by omega)).1 h).2.2.1
    · rw [if_pos hn] at h; cases h
  clear hs f1 f2 _n1 _n2
  generalize rd5 s first n = R at *
  go_enter Tryz.func3, Tryz.ntmps3
  go_wp2_with fail
  refine (CFm.out _).mono ?_
  rintro e w1 ⟨rfl, hb1⟩
  have HB1 := hid hb1
  clear hb1
  go_wp2_with fail
  refine (CR.out _).mono ?_
  rintro e w2 ⟨hb2, hm2⟩
  have HB2 := hid (bel_next HB1.out (Nat.le_refl _) hb2)
  clear hb2
  cases R with
  | error x =>
    obtain ⟨rfl, hx⟩ := hm2
    have CC := hid (fun z => lclean_yes ⟨0, false, ⟨#[]⟩, false, ⟨#[]⟩, []⟩ none none 0 0 z (Or.inl rfl) (Or.inl rfl) (by simp) (fun _ => rfl) (fun _ => rfl) (fun x hx => by simp at hx))
    simp only [recV, List.length_nil] at CC
    clear hx
    unfold noRec
    go_wp2_with fail
    have g2 : (w2.alloc (.cells #[.int .i64 0, .bool false, .string ⟨#[]⟩, .bool false, .string ⟨#[]⟩, .slice none 0 0] 27)).heap[w2.heap.size]? = some (.cells #[.int .i64 0, .bool false, .string ⟨#[]⟩, .bool false, .string ⟨#[]⟩, .slice none 0 0] 27 (0, 0)) := heap_new _ _
    have hbb : Below w2.heap.size w2 (w2.alloc (.cells #[.int .i64 0, .bool false, .string ⟨#[]⟩, .bool false, .string ⟨#[]⟩, .slice none 0 0] 27)) := (Below.refl _ _).alloc (Nat.le_refl _) _
    generalize (w2.alloc (.cells #[.int .i64 0, .bool false, .string ⟨#[]⟩, .bool false, .string ⟨#[]⟩, .slice none 0 0] 27)) = w2' at *
    have HB2' := hid (bel_next HB2.out (Nat.le_refl _) hbb)
    have G2 := hid g2
    clear g2 hbb
    refine (CX.out _).mono ?_
    rintro e w3 ⟨hb3, rfl, _⟩
    have g3 := heap_alloc_at (o' := .cells #[.int .i64 0, .bool false, .string ⟨#[]⟩, .bool false, .string ⟨#[]⟩, .slice none 0 0] 27) ((hb3.block _ (lt_of_heap G2.out)).trans G2.out)
    obtain ⟨c0, c1, c2, c3, c4, c5⟩ := cells6 g3
    have HB3 := hid ((bel_next HB2'.out (Nat.le_refl _) hb3).alloc (bel_next HB2'.out (Nat.le_refl _) hb3).size (.cells #[.int .i64 0, .bool false, .string ⟨#[]⟩, .bool false, .string ⟨#[]⟩, .slice none 0 0] 27))
    have hlt := Nat.lt_of_lt_of_le (lt_of_heap G2.out) hb3.size
    have hne3 : w2.heap.size ≠ w3.heap.size := by omega
    clear g3 hb3 
    unfold noRec
    go_wp2_with fail
    refine (CC.out _).mono ?_
    rintro e w5 ⟨rfl, hb5⟩
    have HB5 := hid (bel_next HB3.out (Nat.le_refl _) hb5)
    clear hb5
    go_wp2_with fail
    go_ret
    exact ⟨rfl, HB5.out⟩
  | ok y =>
    obtain ⟨a, cap, rfl, ho2⟩ := hm2
    obtain ⟨a', cap', he, _, VA⟩ := OwnH.slice ho2
    injection he with he1 _ he2
    subst he1 he2
    obtain ⟨h1, h2, h3, h4, h5, h6⟩ := HG.out y rfl
    obtain ⟨⟨t, kh, kd, vh, vd, hs⟩, k⟩ := y
    have CC := hid (fun a2 cap2 z V1 V2 => lclean_yes ⟨t, kh, kd, vh, vd, hs⟩ a a2 cap cap2 z V1 V2 (by show hs.length ≤ _; have : hs.length ≤ 1024 := h5; omega) h3 h4 h6)
    have V2 := hid VA
    clear h1 h2 h3 h4 h5 h6 VA ho2 HG
    simp only [recV] at *
    go_wp2_with fail
    have g2 : (w2.alloc (.cells #[.int .i64 t, .bool kh, .string kd, .bool vh, .string vd, .slice a hs.length cap] 27)).heap[w2.heap.size]? = some (.cells #[.int .i64 t, .bool kh, .string kd, .bool vh, .string vd, .slice a hs.length cap] 27 (0, 0)) := heap_new _ _
    have hbb : Below w2.heap.size w2 (w2.alloc (.cells #[.int .i64 t, .bool kh, .string kd, .bool vh, .string vd, .slice a hs.length cap] 27)) := (Below.refl _ _).alloc (Nat.le_refl _) _
    generalize (w2.alloc (.cells #[.int .i64 t, .bool kh, .string kd, .bool vh, .string vd, .slice a hs.length cap] 27)) = w2' at *
    have VV := hid (V2.out.below hbb)
    have HB2' := hid (bel_next HB2.out (Nat.le_refl _) hbb)
    have G2 := hid g2
    clear g2 hbb
    refine (CX.out _).mono ?_
    rintro e w3 ⟨hb3, a2, cap2, rfl, ho3⟩
    obtain ⟨a', cap', he, _, VB⟩ := OwnH.slice ho3
    injection he with he1 _ he2
    subst he1 he2
    have VV3 := hid ((VV.out.below hb3).below ((Below.refl _ w3).alloc (Nat.le_refl _) (.cells #[.int .i64 t, .bool kh, .string kd, .bool vh, .string vd, .slice a2 hs.length cap2] 27)))
    have VB3 := hid (VB.below ((Below.refl _ w3).alloc (Nat.le_refl _) (.cells #[.int .i64 t, .bool kh, .string kd, .bool vh, .string vd, .slice a2 hs.length cap2] 27)))
    have g3 := heap_alloc_at (o' := .cells #[.int .i64 t, .bool kh, .string kd, .bool vh, .string vd, .slice a2 hs.length cap2] 27) ((hb3.block _ (lt_of_heap G2.out)).trans G2.out)
    obtain ⟨c0, c1, c2, c3, c4, c5⟩ := cells6 g3
    have HB3 := hid ((bel_next HB2'.out (Nat.le_refl _) hb3).alloc (bel_next HB2'.out (Nat.le_refl _) hb3).size (.cells #[.int .i64 t, .bool kh, .string kd, .bool vh, .string vd, .slice a2 hs.length cap2] 27))
    have hlt := Nat.lt_of_lt_of_le (lt_of_heap G2.out) hb3.size
    have hne3 : w2.heap.size ≠ w3.heap.size := by omega
    clear g3 hb3 VB ho3
    simp only [recV]
    go_wp2_with fail
    refine (CC.out _ _ _ VV3.out VB3.out).mono ?_
    rintro e w5 ⟨rfl, hb5⟩
    have HB5 := hid (bel_next HB3.out (Nat.le_refl _) hb5)
    clear hb5
    go_wp2_with fail
    go_ret
    exact ⟨rfl, HB5.out⟩
end Go.Proofs.YtafogjilheniiaaGreat
namespace Go.Proofs.YtafogjilheniiaaGreat
open Go.RowKit
theorem map_ri {l l' : List RI} (h : l'.map RI.r = l.map RI.r) (i : Nat) : (l'.getD i dri).r = (l.getD i dri).r := by
  have := congrArg (fun z => z[i]?) h
  simp only [List.getElem?_map] at this
  rw [List.getD_eq_getElem?_getD, List.getD_eq_getElem?_getD]
  cases h1 : l'[i]? with
  | none =>
    cases h2 : l[i]? with
    | none => rfl
    | some y => rw [h1, h2] at this; cases this
  | some x =>
    cases h2 : l[i]? with
    | none => rw [h1, h2] at this; cases this
    | some y => rw [h1, h2] at this; injection this
theorem fit_uniq {l l' : List RI} {first : Int} {E E' : Nat} (h : l'.map RI.r = l.map RI.r) (h1 : FitE l first E) (h2 : FitE l' first E') : E' = E := by
  have hl : l'.length = l.length := by have := congrArg List.length h; simpa using this
  have he := map_ri h
  rcases h1 with ⟨j, a1, a2, a3, a4⟩ | ⟨a1, a2⟩
  · rcases h2 with ⟨i, b1, b2, b3, b4⟩ | ⟨b1, b2⟩
    · rw [he] at b3 b4
      by_cases hij : i < j
      · exact absurd (a2 i hij) b3
      · by_cases hji : j < i
        · have := b2 j hji; rw [he] at this; exact absurd this a3
        · have : i = j := by omega
          subst this
          rw [b4, a4]
    · have := b1 j (by omega); rw [he] at this; exact absurd this a3
  · rcases h2 with ⟨i, b1, b2, b3, b4⟩ | ⟨b1, b2⟩
    · rw [he] at b3; exact absurd (a1 i (by omega)) b3
    · rw [a2, b2, h]
theorem body_uniq {l l' : List RI} {E E' : Nat} {S S' : ByteArray} (h : l'.map RI.r = l.map RI.r) (h1 : BodyP l E S) (h2 : BodyP l' E' S') : E' = E ∧ S' = S := by
  have hl : l'.length = l.length := by have := congrArg List.length h; simpa using this
  have he := map_ri h 0
  obtain ⟨a1, a2, a3⟩ := h1
  obtain ⟨b1, b2, b3⟩ := h2
  have hE : E' = E := by
    unfold BodyE at a1 b1
    rw [hl, he] at b1
    rcases a1 with ⟨a1, rfl⟩ | ⟨a1, a4⟩
    · rcases b1 with ⟨_, rfl⟩ | ⟨b1, _⟩
      · rfl
      · exact absurd b1 a1
    · rcases b1 with ⟨b1, _⟩ | ⟨_, b4⟩
      · exact absurd a1 b1
      · exact fit_uniq h a4 b4
  subst hE
  refine ⟨rfl, ?_⟩
  by_cases hz : E' = 0
  · rw [a3 hz, b3 hz, h, he]
  · rw [a2 hz, b2 hz]
theorem gm_congr {l l' : List RI} (h : l'.map RI.r = l.map RI.r) : ∀ j, gm l' j = gm l j
  | 0 => by show (l'.getD 0 dri).r.t = (l.getD 0 dri).r.t; rw [map_ri h]
  | j + 1 => by
    show (if gm l' j < (l'.getD j dri).r.t then _ else _) = (if gm l j < (l.getD j dri).r.t then _ else _)
    rw [gm_congr h j, map_ri h]
theorem grt_congr {l l' : List RI} (h : l'.map RI.r = l.map RI.r) : grt l' = grt l := by
  have hl : l'.length = l.length := by have := congrArg List.length h; simpa using this
  unfold grt
  rw [hl, gm_congr h]
theorem good_all {s : ByteArray} {first count : Int} {y : List Rec} {l3 : List RI} (hr : rbd s first count = .ok y) (h : l3.map RI.r = y) : ∀ x ∈ l3, Cl x.r.kh x.r.kd ∧ Cl x.r.vh x.r.vd ∧ Clh x.r.hs ∧ x.r.hs.length ≤ 9223372036854775807 := by
  intro x hx
  have hx2 : x.r ∈ y := by rw [← h]; exact List.mem_map_of_mem hx
  unfold rbd at hr
  by_cases hc : ¬ (1 ≤ count ∧ count ≤ 65536)
  · rw [if_pos hc] at hr; cases hr
  rw [if_neg hc] at hr
  by_cases hs : 16777216 < s.size
  · rw [if_pos hs] at hr; cases hr
  rw [if_neg hs] at hr
  cases hq : run s first count.toNat with
  | error e => rw [hq] at hr; cases hr
  | ok z =>
    obtain ⟨m, k⟩ := z
    rw [hq] at hr
    dsimp only at hr
    by_cases hk : k < s.size
    · rw [if_pos hk] at hr; cases hr
    rw [if_neg hk] at hr
    injection hr with hr
    subst hr
    obtain ⟨_, _, g1, g2, g3, g4⟩ := (run_ran (by omega) (by omega) hq).good _ hx2
    exact ⟨g1, g2, g4, by omega⟩
theorem len_rbd {s : ByteArray} {first count : Int} {y : List Rec} {l3 : List RI} (hr : rbd s first count = .ok y) (h : l3.map RI.r = y) : l3.length ≤ 65536 := by
  have := (body_again (l := l3) (by rw [h]; exact hr)).2.1
  unfold rbd at hr
  by_cases hc : ¬ (1 ≤ count ∧ count ≤ 65536)
  · rw [if_pos hc] at hr; cases hr
  omega
set_option maxHeartbeats 2000000 in
set_option maxRecDepth 20000 in
theorem bodies_walk (l : List RI) (a : Option Addr) (cap : Nat) (s : ByteArray) (first count : Int) (w : World) (V : Rcs w a l) (hT : ∀ x ∈ l, I64 x.r.t) (hM : ∀ x ∈ l, Mod x.r) (hN : ∀ x ∈ l, x.a = none → x.cap = 0) (hH : ∀ x ∈ l, x.r.hs.length ≤ 1048576) (hL : l.length ≤ 1048576) (hf : I64 first) :
    Calls Tryz.prog 4 #[.slice a l.length cap, .string s, .int .i64 first, .int .i64 count] w fun e w' => e = .returned (.bool true) ∧ Below w.heap.size w w' := by
  have CFm := hid (fun x => forms_any x)
  have CCp := hid (fun x V => copied_any l a cap x V hN hH hL)
  have CXB := hid (fun x V => xbody_any l a cap x V hT hM)
  have CXG := hid (fun x V => xgreatest_any l a cap x V (by omega))
  have CR := hid (fun x => rbody_any s first count x hf)
  have CX := hid (fun x => xrbody_any s first count x hf)
  have HVV := hid V
  have HT := hid hT
  have HM := hid hM
  have HBND := hid hL
  clear V hT hM hN hH hL hf
  go_enter Tryz.func4, Tryz.ntmps4
  go_wp2_with fail
  refine (CFm.out _).mono ?_
  rintro e w1 ⟨rfl, hb1⟩
  have HB1 := hid hb1
  have HV1 := hid (HVV.out.below hb1)
  clear hb1 HVV
  go_wp2_with fail
  refine (CCp.out _ HV1.out).mono ?_
  rintro e w2 ⟨⟨v, l', rfl, hH2, hm2⟩, hb2⟩
  obtain ⟨a2, cap2, rfl, hR2⟩ := hH2.slice
  have HB2 := hid (bel_next HB1.out (Nat.le_refl _) hb2)
  have HV2 := hid (HV1.out.below hb2)
  have hT' : ∀ x ∈ l', I64 x.r.t := fun x hx => by
    have hx2 : x.r ∈ l.map RI.r := by rw [← hm2]; exact List.mem_map_of_mem hx
    obtain ⟨y, hy, e⟩ := List.mem_map.1 hx2
    rw [← e]; exact HT.out y hy
  have hM' : ∀ x ∈ l', Mod x.r := fun x hx => by
    have hx2 : x.r ∈ l.map RI.r := by rw [← hm2]; exact List.mem_map_of_mem hx
    obtain ⟨y, hy, e⟩ := List.mem_map.1 hx2
    rw [← e]; exact HM.out y hy
  have hll : l'.length = l.length := by have := congrArg List.length hm2; simpa using this
  have CB := hid (body_any l' a2 cap2 w2 hR2 hT' hM')
  have CG := hid (fun x V => greatest_any l' a2 cap2 x V (by have := HBND.out; omega))
  have HR2 := hid hR2
  have HM2 := hid hm2
  have HLL := hid hll
  rw [hll] at CB CG ⊢
  clear hb2 HV1 hH2 hR2 hm2 hT' hM' hll CCp
  go_wp2_with fail
  refine CB.out.mono ?_
  rintro e w3 ⟨⟨E, S, rfl, hP3⟩, hb3⟩
  have HP3 := hid hP3
  have HB3 := hid (bel_next HB2.out (Nat.le_refl _) hb3)
  have HV3 := hid (HV2.out.below hb3)
  have HR3 := hid (HR2.out.below hb3)
  clear hP3 hb3 HV2 HR2 CB
  go_wp2_with fail
  refine (CXB.out _ HV3.out).mono ?_
  rintro e w4 ⟨⟨E4, S4, rfl, hP4⟩, hb4⟩
  obtain ⟨rfl, rfl⟩ := body_uniq HM2.out hP4 HP3.out
  have HB4 := hid (bel_next HB3.out (Nat.le_refl _) hb4)
  have HV4 := hid (HV3.out.below hb4)
  have HR4 := hid (HR3.out.below hb4)
  clear hP4 hb4 HP3 HV3 HR3 CXB
  have cg1 := fun x (hx : Below w4.heap.size w4 x) => (CG.out x (HR4.out.below hx)).mono (fun _ _ h => And.intro h.1 (bel_next hx (Nat.le_refl _) h.2))
  have cg2 := fun x (hx : Below w4.heap.size w4 x) => (CXG.out x (HV4.out.below hx)).mono (fun _ _ h => And.intro h.1 (bel_next hx (Nat.le_refl _) h.2))
  rw [grt_congr HM2.out] at cg1
  have CG1 := hid cg1
  have CG2 := hid cg2
  have h0 : Below w4.heap.size w4 w4 := Below.refl _ _
  clear cg1 cg2 CG CXG
  go_wp2_with fail
  refine (CG1.out _ h0).mono ?_
  rintro e w5 ⟨rfl, h5⟩
  go_wp2_with fail
  refine (CG2.out _ h5).mono ?_
  rintro e w6 ⟨rfl, h6⟩
  have HB6 := hid (bel_next HB4.out (Nat.le_refl _) h6)
  have HV6 := hid (HV4.out.below h6)
  have HR6 := hid (HR4.out.below h6)
  have HLN1 := HLL
  have HLN2 : Hid (l.length = l.length) := rfl
  have HEQ : Hid (∀ j, j < l.length → (l.getD j dri).r = (l'.getD j dri).r) := fun j _ => (map_ri HM2.out j).symm
  have HHS : Hid (∀ x ∈ l', x.r.hs.length ≤ 9223372036854775807) := fun x hx => by
    have hx2 : x.r ∈ l.map RI.r := by rw [← HM2.out]; exact List.mem_map_of_mem hx
    obtain ⟨y, hy, e⟩ := List.mem_map.1 hx2
    rw [← e]; exact (HM.out y hy).n
  clear h0 h5 h6 HV4 HR4 CG1 CG2 HB4
  go_wp2_with fail
  go_loopg [49] l.length (fun k i wr => ∃ j : Nat, j + k = l.length ∧ i = .int .i64 j ∧ Hid (Below w6.heap.size w6 wr))
  case atStart => exact ⟨0, by omega, rfl, Below.refl _ _⟩
  case round =>
    obtain ⟨j, hk, rfl, HB⟩ := hrel
    by_cases hlt : j < l.length
    · obtain ⟨k, rfl⟩ : ∃ k, gk = k + 1 := ⟨gk - 1, by omega⟩
      have hl1 : j < l'.length := by have := HLN1.out; omega
      have hl2 : j < l.length := by have := HLN2.out; omega
      have hR1 := HR6.out.below HB.out
      have hR2 := HV6.out.below HB.out
      have hH1 := hR1.1 _ (riD_mem hl1)
      have hH2 := hR2.1 _ (riD_mem hl2)
      rcases hR1.2 with h | ⟨b1, off1, e1, hb1, hc1⟩
      · rw [h] at hl1; simp at hl1
      rcases hR2.2 with h | ⟨b2, off2, e2, hb2, hc2⟩
      · rw [h] at hl2; simp at hl2
      subst e1 e2
      obtain ⟨q0, q1, q2, q3, q4, q5⟩ := hc1 j hl1
      obtain ⟨p0, p1, p2, p3, p4, p5⟩ := hc2 j hl2
      have heq := HEQ.out j hlt
      have hg := HHS.out _ (riD_mem hl1)
      generalize l'.getD j dri = x at *
      generalize l.getD j dri = y at *
      obtain ⟨⟨t, kh, kd, vh, vd, hs⟩, x1, k1⟩ := x
      obtain ⟨yr, x2, k2⟩ := y
      dsimp only at heq
      subst heq
      dsimp only at q0 q1 q2 q3 q4 q5 p0 p1 p2 p3 p4 p5 hH1 hH2
      have c1 := fun z (hx : Below wr.heap.size wr z) => (lsame_yes t kh vh kd vd hs x1 x2 k1 k2 z (hH1.below hx) (hH2.below hx) hg).mono (fun _ _ h => And.intro h.1 (bel_next hx (Nat.le_refl _) h.2))
      try simp only [recV] at c1
      have CC := hid c1
      have HS : Hid (∀ z, Below wr.heap.size wr z → (fun z => ((z.cell? ⟨b1, off1 + j * 6, none⟩ = some (.int .i64 t) ∧ z.cell? ⟨b1, off1 + j * 6 + 1, none⟩ = some (.bool kh) ∧ z.cell? ⟨b1, off1 + j * 6 + 2, none⟩ = some (.string kd) ∧ z.cell? ⟨b1, off1 + j * 6 + 3, none⟩ = some (.bool vh) ∧ z.cell? ⟨b1, off1 + j * 6 + 4, none⟩ = some (.string vd) ∧ z.cell? ⟨b1, off1 + j * 6 + 5, none⟩ = some (.slice x1 hs.length k1)) ∧ (z.cell? ⟨b2, off2 + j * 6, none⟩ = some (.int .i64 t) ∧ z.cell? ⟨b2, off2 + j * 6 + 1, none⟩ = some (.bool kh) ∧ z.cell? ⟨b2, off2 + j * 6 + 2, none⟩ = some (.string kd) ∧ z.cell? ⟨b2, off2 + j * 6 + 3, none⟩ = some (.bool vh) ∧ z.cell? ⟨b2, off2 + j * 6 + 4, none⟩ = some (.string vd) ∧ z.cell? ⟨b2, off2 + j * 6 + 5, none⟩ = some (.slice x2 hs.length k2))) ∧ Below wr.heap.size wr z) z) := fun z hx => ⟨⟨⟨(hx.cell (p := ⟨b1, off1 + j * 6, none⟩) hb1).trans q0, (hx.cell (p := ⟨b1, off1 + j * 6 + 1, none⟩) hb1).trans q1, (hx.cell (p := ⟨b1, off1 + j * 6 + 2, none⟩) hb1).trans q2, (hx.cell (p := ⟨b1, off1 + j * 6 + 3, none⟩) hb1).trans q3, (hx.cell (p := ⟨b1, off1 + j * 6 + 4, none⟩) hb1).trans q4, (hx.cell (p := ⟨b1, off1 + j * 6 + 5, none⟩) hb1).trans q5⟩, (hx.cell (p := ⟨b2, off2 + j * 6, none⟩) hb2).trans p0, (hx.cell (p := ⟨b2, off2 + j * 6 + 1, none⟩) hb2).trans p1, (hx.cell (p := ⟨b2, off2 + j * 6 + 2, none⟩) hb2).trans p2, (hx.cell (p := ⟨b2, off2 + j * 6 + 3, none⟩) hb2).trans p3, (hx.cell (p := ⟨b2, off2 + j * 6 + 4, none⟩) hb2).trans p4, (hx.cell (p := ⟨b2, off2 + j * 6 + 5, none⟩) hb2).trans p5⟩, hx⟩
      have i1 : (0 : Int) ≤ (j : Int) := by omega
      have i2 : (j : Int) < (l.length : Nat) := by omega
      have h0 : Below wr.heap.size wr wr := Below.refl _ _
      clear c1 hR1 hR2 hH1 hH2 hc1 hc2 q0 q1 q2 q3 q4 q5 p0 p1 p2 p3 p4 p5 hb1 hb2
      go_wp2_with fail
      go_region_held3 (fun z => ((z.cell? ⟨b1, off1 + j * 6, none⟩ = some (.int .i64 t) ∧ z.cell? ⟨b1, off1 + j * 6 + 1, none⟩ = some (.bool kh) ∧ z.cell? ⟨b1, off1 + j * 6 + 2, none⟩ = some (.string kd) ∧ z.cell? ⟨b1, off1 + j * 6 + 3, none⟩ = some (.bool vh) ∧ z.cell? ⟨b1, off1 + j * 6 + 4, none⟩ = some (.string vd) ∧ z.cell? ⟨b1, off1 + j * 6 + 5, none⟩ = some (.slice x1 hs.length k1)) ∧ (z.cell? ⟨b2, off2 + j * 6, none⟩ = some (.int .i64 t) ∧ z.cell? ⟨b2, off2 + j * 6 + 1, none⟩ = some (.bool kh) ∧ z.cell? ⟨b2, off2 + j * 6 + 2, none⟩ = some (.string kd) ∧ z.cell? ⟨b2, off2 + j * 6 + 3, none⟩ = some (.bool vh) ∧ z.cell? ⟨b2, off2 + j * 6 + 4, none⟩ = some (.string vd) ∧ z.cell? ⟨b2, off2 + j * 6 + 5, none⟩ = some (.slice x2 hs.length k2))) ∧ Below wr.heap.size wr z) (first | with_reducible exact HS.out _ (by assumption) | with_reducible exact HS.out _ (Below.drew (by assumption))) (first | (go_at_call 14; refine (CC.out _ ?_).mono ?_; (first | assumption | exact Below.drew (by assumption)); rintro e w' ⟨rfl, hbel⟩))
      all_goals
        rename_i hH9
        have HB9 := hid (bel_next HB.out (Nat.le_refl _) hH9.2)
        clear hH9
        go_wp2_with fail
        go_roundg k
        case measure => omega
        case rel => have hCC := HBND.out; have ew : wrap64 ((j : Int) + 1) = ((j + 1 : Nat) : Int) := by { unfold wrap64; omega }; exact ⟨j + 1, by omega, congrArg (Value.int .i64) ew, HB9⟩
    · have i2 : ¬ (j : Int) < (l.length : Nat) := by omega
      have HB7 := hid (bel_next HB6.out (Nat.le_refl _) HB.out)
      go_wp2_with fail
      refine (CR.out _).mono ?_
      rintro e w8 ⟨hb8, hm8⟩
      have HB8 := hid (bel_next HB7.out (Nat.le_refl _) hb8)
      clear hb8
      cases hr : rbd s first count with
      | error x =>
        rw [hr] at hm8 CX
        obtain ⟨rfl, hx⟩ := hm8
        clear hr hx
        go_wp2_with fail
        refine (CX.out _).mono ?_
        rintro e w9 ⟨hb9, rfl, _⟩
        have HB9 := hid (bel_next HB8.out (Nat.le_refl _) hb9)
        clear hb9
        go_wp2_with fail
        go_loopg [89] 0 (fun k i wr => i = .int .i64 0 ∧ Hid (Below w9.heap.size w9 wr))
        case atStart => exact ⟨rfl, Below.refl _ _⟩
        case round =>
          obtain ⟨rfl, HB10⟩ := hrel
          have HBF := hid (bel_next HB9.out (Nat.le_refl _) HB10.out)
          go_wp2_with fail
          go_ret
          exact ⟨rfl, HBF.out⟩
      | ok y =>
        rw [hr] at hm8 CX
        obtain ⟨v3, l3, rfl, hH3, hl3⟩ := hm8
        obtain ⟨a3, cap3, rfl, hR3⟩ := hH3.slice
        have HR3 := hid hR3
        clear hH3 hR3
        go_wp2_with fail
        refine (CX.out _).mono ?_
        rintro e w9 ⟨hb9, v4, l4, rfl, hH4, hl4⟩
        obtain ⟨a4, cap4, rfl, hR4⟩ := hH4.slice
        have HB9 := hid (bel_next HB8.out (Nat.le_refl _) hb9)
        have HR39 := hid (HR3.out.below hb9)
        have HR49 := hid hR4
        have hm34 : l4.map RI.r = l3.map RI.r := hl4.trans hl3.symm
        have hll2 : l4.length = l3.length := by have := congrArg List.length hm34; simpa using this
        have HEQ2 : Hid (∀ j, j < l3.length → (l4.getD j dri).r = (l3.getD j dri).r) := fun j _ => map_ri hm34 j
        have HLN1' : Hid (l3.length = l3.length) := rfl
        have HLN2' := hid hll2
        have HGD : Hid (∀ x ∈ l3, Cl x.r.kh x.r.kd ∧ Cl x.r.vh x.r.vd ∧ Clh x.r.hs ∧ x.r.hs.length ≤ 9223372036854775807) := good_all hr hl3
        have HB65 : Hid (l3.length ≤ 1048576) := by have := len_rbd hr hl3; show _ ≤ _; omega
        rw [hll2]
        clear hb9 hH4 hR4 hl3 hl4 hm34 hll2 hr HR3 HBND HLN1 HLN2
        have HBND := HB65
        have HLN1 := HLN1'
        have HLN2 := HLN2'
        go_wp2_with fail
        go_loopg [89] l3.length (fun k i wr => ∃ j : Nat, j + k = l3.length ∧ i = .int .i64 j ∧ Hid (Below w9.heap.size w9 wr))
        case atStart => exact ⟨0, by omega, rfl, Below.refl _ _⟩
        case round =>
          obtain ⟨j, hk, rfl, HB⟩ := hrel
          by_cases hlt : j < l3.length
          · obtain ⟨k, rfl⟩ : ∃ k, gk = k + 1 := ⟨gk - 1, by omega⟩
            have hl1 : j < l3.length := by have := HLN1.out; omega
            have hl2 : j < l4.length := by have := HLN2.out; omega
            have hR1 := HR39.out.below HB.out
            have hR2 := HR49.out.below HB.out
            have hH1 := hR1.1 _ (riD_mem hl1)
            have hH2 := hR2.1 _ (riD_mem hl2)
            rcases hR1.2 with h | ⟨b1, off1, e1, hb1, hc1⟩
            · rw [h] at hl1; simp at hl1
            rcases hR2.2 with h | ⟨b2, off2, e2, hb2, hc2⟩
            · rw [h] at hl2; simp at hl2
            subst e1 e2
            obtain ⟨q0, q1, q2, q3, q4, q5⟩ := hc1 j hl1
            obtain ⟨p0, p1, p2, p3, p4, p5⟩ := hc2 j hl2
            have heq := HEQ2.out j hlt
            have hg := HGD.out _ (riD_mem hl1)
            generalize l3.getD j dri = x at *
            generalize l4.getD j dri = y at *
            obtain ⟨⟨t, kh, kd, vh, vd, hs⟩, x1, k1⟩ := x
            obtain ⟨yr, x2, k2⟩ := y
            dsimp only at heq
            subst heq
            dsimp only at q0 q1 q2 q3 q4 q5 p0 p1 p2 p3 p4 p5 hH1 hH2
            have c1 := fun z (hx : Below wr.heap.size wr z) => (lclean_yes ⟨t, kh, kd, vh, vd, hs⟩ x1 x2 k1 k2 z (hH1.below hx) (hH2.below hx) hg.2.2.2 hg.1 hg.2.1 hg.2.2.1).mono (fun _ _ h => And.intro h.1 (bel_next hx (Nat.le_refl _) h.2))
            try simp only [recV] at c1
            have CC := hid c1
            have HS : Hid (∀ z, Below wr.heap.size wr z → (fun z => ((z.cell? ⟨b1, off1 + j * 6, none⟩ = some (.int .i64 t) ∧ z.cell? ⟨b1, off1 + j * 6 + 1, none⟩ = some (.bool kh) ∧ z.cell? ⟨b1, off1 + j * 6 + 2, none⟩ = some (.string kd) ∧ z.cell? ⟨b1, off1 + j * 6 + 3, none⟩ = some (.bool vh) ∧ z.cell? ⟨b1, off1 + j * 6 + 4, none⟩ = some (.string vd) ∧ z.cell? ⟨b1, off1 + j * 6 + 5, none⟩ = some (.slice x1 hs.length k1)) ∧ (z.cell? ⟨b2, off2 + j * 6, none⟩ = some (.int .i64 t) ∧ z.cell? ⟨b2, off2 + j * 6 + 1, none⟩ = some (.bool kh) ∧ z.cell? ⟨b2, off2 + j * 6 + 2, none⟩ = some (.string kd) ∧ z.cell? ⟨b2, off2 + j * 6 + 3, none⟩ = some (.bool vh) ∧ z.cell? ⟨b2, off2 + j * 6 + 4, none⟩ = some (.string vd) ∧ z.cell? ⟨b2, off2 + j * 6 + 5, none⟩ = some (.slice x2 hs.length k2))) ∧ Below wr.heap.size wr z) z) := fun z hx => ⟨⟨⟨(hx.cell (p := ⟨b1, off1 + j * 6, none⟩) hb1).trans q0, (hx.cell (p := ⟨b1, off1 + j * 6 + 1, none⟩) hb1).trans q1, (hx.cell (p := ⟨b1, off1 + j * 6 + 2, none⟩) hb1).trans q2, (hx.cell (p := ⟨b1, off1 + j * 6 + 3, none⟩) hb1).trans q3, (hx.cell (p := ⟨b1, off1 + j * 6 + 4, none⟩) hb1).trans q4, (hx.cell (p := ⟨b1, off1 + j * 6 + 5, none⟩) hb1).trans q5⟩, (hx.cell (p := ⟨b2, off2 + j * 6, none⟩) hb2).trans p0, (hx.cell (p := ⟨b2, off2 + j * 6 + 1, none⟩) hb2).trans p1, (hx.cell (p := ⟨b2, off2 + j * 6 + 2, none⟩) hb2).trans p2, (hx.cell (p := ⟨b2, off2 + j * 6 + 3, none⟩) hb2).trans p3, (hx.cell (p := ⟨b2, off2 + j * 6 + 4, none⟩) hb2).trans p4, (hx.cell (p := ⟨b2, off2 + j * 6 + 5, none⟩) hb2).trans p5⟩, hx⟩
            have i1 : (0 : Int) ≤ (j : Int) := by omega
            have i2 : (j : Int) < (l3.length : Nat) := by omega
            have h0 : Below wr.heap.size wr wr := Below.refl _ _
            clear c1 hR1 hR2 hH1 hH2 hc1 hc2 q0 q1 q2 q3 q4 q5 p0 p1 p2 p3 p4 p5 hb1 hb2
            go_wp2_with fail
            go_region_held3 (fun z => ((z.cell? ⟨b1, off1 + j * 6, none⟩ = some (.int .i64 t) ∧ z.cell? ⟨b1, off1 + j * 6 + 1, none⟩ = some (.bool kh) ∧ z.cell? ⟨b1, off1 + j * 6 + 2, none⟩ = some (.string kd) ∧ z.cell? ⟨b1, off1 + j * 6 + 3, none⟩ = some (.bool vh) ∧ z.cell? ⟨b1, off1 + j * 6 + 4, none⟩ = some (.string vd) ∧ z.cell? ⟨b1, off1 + j * 6 + 5, none⟩ = some (.slice x1 hs.length k1)) ∧ (z.cell? ⟨b2, off2 + j * 6, none⟩ = some (.int .i64 t) ∧ z.cell? ⟨b2, off2 + j * 6 + 1, none⟩ = some (.bool kh) ∧ z.cell? ⟨b2, off2 + j * 6 + 2, none⟩ = some (.string kd) ∧ z.cell? ⟨b2, off2 + j * 6 + 3, none⟩ = some (.bool vh) ∧ z.cell? ⟨b2, off2 + j * 6 + 4, none⟩ = some (.string vd) ∧ z.cell? ⟨b2, off2 + j * 6 + 5, none⟩ = some (.slice x2 hs.length k2))) ∧ Below wr.heap.size wr z) (first | with_reducible exact HS.out _ (by assumption) | with_reducible exact HS.out _ (Below.drew (by assumption))) (first | (go_at_call 8; refine (CC.out _ ?_).mono ?_; (first | assumption | exact Below.drew (by assumption)); rintro e w' ⟨rfl, hbel⟩))
            all_goals
              rename_i hH9
              have HB9 := hid (bel_next HB.out (Nat.le_refl _) hH9.2)
              clear hH9
              go_wp2_with fail
              go_roundg k
              case measure => omega
              case rel => have hCC := HBND.out; have ew : wrap64 ((j : Int) + 1) = ((j + 1 : Nat) : Int) := by { unfold wrap64; omega }; exact ⟨j + 1, by omega, congrArg (Value.int .i64) ew, HB9⟩
          · have i2 : ¬ (j : Int) < (l3.length : Nat) := by omega
            have HBF := hid (bel_next HB9.out (Nat.le_refl _) HB.out)
            go_wp2_with fail
            go_ret
            exact ⟨rfl, HBF.out⟩
end Go.Proofs.YtafogjilheniiaaGreat
