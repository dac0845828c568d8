/- Texts of the proof, put together: Cpd, Rfa, Rfb, CPs, CPy. -/
import Derived.Test.YtoohmbkgdmmghaaQB
import Derived.Laws.AppendOwnNone
import Derived.Deep.RegionLaw
import Derived.Deep.AppendLies
import Derived.Deep.DeepAppendRoom
import Derived.Lib.AppendZerosOnto
import Derived.Test.YtoohmbkgdmmghaaQA
namespace Go.Proofs.Ytoohmbkgdmmghaa
open Go.RowKit
theorem wpList_copy_hds {w : World} {ops : Array Oper} {rest : List Oper} {o : Oper} {a : Act} {Q : Exit → Act → World → Prop} (hgd : o.guard = none) (s x : Operand)
    (ho : o.op = .call { callee := .builtin .append, args := #[s, x], argTypes := #[24, 24] })
    (B : Nat) (v : Value) (hs : a.eval s = v) (hown : w.ownsRow B 33 3 v 0 []) (hB : B ≤ w.heap.size)
    (ao : Option Addr) (rs : List Hdr) (c : Nat) (hx : a.eval x = .slice ao rs.length c) (hv : Hds w ao rs) (hnil : ao = none → c = 0) (h63 : rs.length ≤ 100000000000)
    (h : ∀ v' w', OwnH w' B v' rs → w.grownBy w' v.ownBlock → wpList Try.prog ops Q rest (a.put o.dst v') w') : wpList Try.prog ops Q (o :: rest) a w := by
  obtain ⟨i0, hi, hz0, hz1, hz2⟩ := info_parts Try.infoHdr
  cases ao with
  | none =>
    have h0 : rs = [] := by
      rcases hv with h | ⟨_, _, e1, _⟩
      · exact h
      · cases e1
    subst h0
    have hc := hnil rfl
    subst hc
    refine wpList_append_own_none hgd s x _ ho B 33 i0 3 Try.underHdrs hi v 0 [] hs hown hx ?_
    exact h v w hown ⟨rfl, rfl, rfl, Nat.le_refl _, fun _ _ _ => rfl⟩
  | some ad =>
    refine wpList_append_own w hgd s x _ ho B 33 i0 (.agg #[.string ⟨#[]⟩, .bool false, .string ⟨#[]⟩]) 3 40 Try.underHdrs hi hz0 hz1 hz2 rfl (by decide) v 0 [] hs hown ad rs.length c (hcs rs) hx (hcs_len rs) ?_ (hcs_one rs) (by unfold maxLen; omega) (by omega) hB ?_
    · clear h63
      intro j u hj
      rcases hv with h0 | ⟨b, off, e1, hlt, hc⟩
      · rw [h0] at hj; simp [hcs] at hj
      · obtain rfl : ad = ⟨b, off, none⟩ := Option.some.inj e1
        have hj2 : j < rs.length * 3 := by have := (List.getElem?_eq_some_iff.1 hj).1; rw [hcs_len] at this; exact this
        have hr := hcs_at rs (j / 3) (by omega)
        obtain ⟨c0, c1, c2⟩ := hc (j / 3) (by omega)
        rw [Go.WideShapes.add_plain]
        have h3 : j % 3 = 0 ∨ j % 3 = 1 ∨ j % 3 = 2 := by omega
        rcases h3 with h3 | h3 | h3
        · have ej : j = j / 3 * 3 := by omega
          rw [← ej] at c0 hr
          rw [c0, ← hr.1]
          exact hj
        · have ej : j = j / 3 * 3 + 1 := by omega
          have ea : off + j = off + j / 3 * 3 + 1 := by omega
          rw [ea, c1, ← hr.2.1, ← ej]
          exact hj
        · have ej : j = j / 3 * 3 + 2 := by omega
          have ea : off + j = off + j / 3 * 3 + 2 := by omega
          rw [ea, c2, ← hr.2.2, ← ej]
          exact hj
    · intro v' w' hown' hgrow _
      rw [Nat.zero_add, List.nil_append] at hown'
      exact h v' w' hown' hgrow
set_option maxHeartbeats 1000000 in
set_option maxRecDepth 20000 in
theorem copied_any (l : List RI) (a : Option Addr) (cap : Nat) (w : World) (V : Rcs w a l) (hN : ∀ x ∈ l, x.a = none → x.cap = 0) (hH : ∀ x ∈ l, x.r.hs.length ≤ 1048576) (hL : l.length ≤ 1048576) :
    Calls Try.prog 10 #[.slice a l.length cap] w fun e w' => (∃ v l', e = .returned v ∧ Held w' w.heap.size v l' ∧ l'.map RI.r = l.map RI.r) ∧ Below w.heap.size w w' := by
  have HVV := hid V
  have HNN := hid hN
  have HHH := hid hH
  have HL := hid hL
  obtain ⟨i0, hi, hz0, hz1, hz2⟩ := info_parts Try.infoRec
  obtain ⟨w4, hmk, hown, hgrow⟩ := run_make_own (P := Try.prog) w w.heap.size 30 26 i0 (.agg #[.int .i64 0, .bool false, .string ⟨#[]⟩, .bool false, .string ⟨#[]⟩, .slice none 0 0]) 6 Try.underRecs hi hz0 hz1 .i64 .i64 (l.length + 2) (by rw [hz2]; omega) (by unfold maxLen; omega) (Nat.le_refl _)
  have hb4 : Below w.heap.size w w4 := (Below.refl _ _).grown hgrow (Nat.le_refl _) (fun k hk => by cases hk)
  have HB4 := hid hb4
  have HO4 : Hid (Held w4 w.heap.size (.slice (some ⟨w.heap.size, 0, none⟩) 0 (l.length + 2)) []) := ⟨hown, fun x hx => by simp at hx, List.Pairwise.nil⟩
  rw [show ((l.length + 2 : Nat) : Int) = wrap64 ((l.length : Int) + 2) by unfold wrap64; omega] at hmk
  clear V hN hH hL hown hgrow hb4
  go_enter Try.func10, Try.ntmps10
  go_wp2_with fail
  clear hmk
  go_loopg [3, 12] l.length (fun k o i wr => ∃ (j : Nat) (acc : List RI), j + k = l.length ∧ i = .int .i64 j ∧ Hid (acc.map RI.r = (l.take j).map RI.r) ∧ Hid (Held wr w.heap.size o acc) ∧ Hid (Below w.heap.size w wr))
  case atStart => exact ⟨0, [], by omega, rfl, rfl, HO4, HB4⟩
  case round =>
    clear HO4 HB4
    obtain ⟨j, acc, hk, rfl, HA, HO, HB⟩ := hrel
    by_cases hlt : j < l.length
    · obtain ⟨k, rfl⟩ : ∃ k, gk = k + 1 := ⟨gk - 1, by omega⟩
      have HTK := hid (take_getD hlt)
      have hV := HVV.out.below HB.out
      have hH := hV.1 _ (riD_mem hlt)
      have hnil := HNN.out _ (riD_mem hlt)
      have hhl := HHH.out _ (riD_mem hlt)
      rcases hV.2 with h | ⟨b, off, rfl, hbl, hc⟩
      · rw [h] at hlt; simp at hlt
      obtain ⟨q0, q1, q2, q3, q4, q5⟩ := hc j hlt
      have i1 : (0 : Int) ≤ (j : Int) := by omega
      have i2 : (j : Int) < l.length := by omega
      have HLEN : Hid (acc.length = j) := by
        have := congrArg List.length HA.out
        rw [List.length_map, List.length_map, List.length_take] at this
        show acc.length = j
        omega
      have HMA : Hid ((acc.map RI.r) ++ [(l.getD j dri).r] = (l.take (j + 1)).map RI.r) := by show _ = _; rw [HTK.out, List.map_append, HA.out]; rfl
      have hsz := HB.out.size
      clear hV hc HTK
      generalize l.getD j dri = x at *
      obtain ⟨⟨t, kh, kd, vh, vd, hs⟩, xa, xc⟩ := x
      simp only at q0 q1 q2 q3 q4 q5 hH hnil hhl HMA
      have HHd := hid hH
      have HNI := hid hnil
      have HHL := hid hhl
      clear hH hnil hhl
      have hown0 := World.ownsRow_lit (base := wr.heap.size + 1) (e := 33) (size := 3) (wr.alloc (.cells #[.int .i64 t, .bool kh, .string kd, .bool vh, .string vd, .slice xa hs.length xc] 26)) #[] 0 (by simp) (by unfold maxLen; omega) rfl
      rw [show (wr.alloc (.cells #[.int .i64 t, .bool kh, .string kd, .bool vh, .string vd, .slice xa hs.length xc] 26)).heap.size = wr.heap.size + 1 by simp] at hown0
      have hba : Below wr.heap.size wr ((wr.alloc (.cells #[.int .i64 t, .bool kh, .string kd, .bool vh, .string vd, .slice xa hs.length xc] 26)).alloc (.cells #[] 33)) := ((Below.refl _ wr).alloc (Nat.le_refl _) _).alloc (by simp) _
      have hVa := HHd.out.below hba
      have hg0 : ((wr.alloc (.cells #[.int .i64 t, .bool kh, .string kd, .bool vh, .string vd, .slice xa hs.length xc] 26)).alloc (.cells #[] 33)).heap[wr.heap.size]? = some (.cells #[.int .i64 t, .bool kh, .string kd, .bool vh, .string vd, .slice xa hs.length xc] 26 (0, 0)) := heap_alloc_at (heap_new _ _)
      have HG0 := hid hg0
      have HBA := hid hba
      have HOW0 := hid hown0
      clear hg0 hba
      go_wp2_with (at_builtin; refine wpList_copy_hds rfl _ _ rfl (wr.heap.size + 1) _ rfl hown0 ?hB xa hs xc rfl hVa HNI.out (by have := HHL.out; omega) ?_)
      intro v6 w6 ho6 hgrow6
      have hlt0 := fun k hk => (World.ownsRow.lt HOW0.out k hk).1
      have hg6 := (hgrow6.block wr.heap.size (lt_of_heap HG0.out) (fun e => by have := hlt0 _ e.symm; omega)).trans HG0.out
      have hb6 : Below wr.heap.size wr w6 := HBA.out.grown hgrow6 HBA.out.size (fun k hk => by have := hlt0 k hk; omega)
      obtain ⟨a6, cap6, rfl, _, _⟩ := OwnH.slice ho6
      obtain ⟨m0, m1, m2, m3, m4, m5⟩ := cells6 hg6
      have n5 := froz_of (i := 5) hg6
      have g7 : (w6.setCell ⟨wr.heap.size, 5, none⟩ (.slice a6 hs.length cap6)).heap[wr.heap.size]? = some (.cells #[.int .i64 t, .bool kh, .string kd, .bool vh, .string vd, .slice a6 hs.length cap6] 26 (0, 0)) := heap_set hg6
      obtain ⟨j0, j1, j2, j3, j4, j5⟩ := cells6 g7
      have hb7 : Below wr.heap.size wr (w6.setCell ⟨wr.heap.size, 5, none⟩ (.slice a6 hs.length cap6)) := hb6.setCell (Nat.le_refl _) _
      have ho7 : OwnH (w6.setCell ⟨wr.heap.size, 5, none⟩ (.slice a6 hs.length cap6)) (wr.heap.size + 1) (.slice a6 hs.length cap6) hs := own_apart ho6 (fun g hg => Below.heap_setCell _ _ _ _ (by have := (World.ownsRow.lt ho6 g hg).1; show g ≠ wr.heap.size; omega))
      have hO7 := HO.out.kept (fun g hg _ => hb7.block g hg)
      have hrow := hO7.row
      have HB7 := hid hb7
      have HO7 := hid hO7
      have HH7 := hid ho7
      have hsz6 := hb6.size
      clear hown0 hVa hgrow6 ho6 hlt0 hg6 g7 hb6 hb7 hO7 ho7
      go_wp2_with (at_builtin; refine wpList_append_own _ rfl _ _ 30 rfl w.heap.size 26 i0 (.agg #[.int .i64 0, .bool false, .string ⟨#[]⟩, .bool false, .string ⟨#[]⟩, .slice none 0 0]) 6 80 Try.underRecs hi hz0 hz1 hz2 rfl (by decide) _ _ _ rfl (hrow.alloc _) ⟨w6.heap.size, 0, none⟩ 1 1 (rc1 ⟨⟨t, kh, kd, vh, vd, hs⟩, a6, cap6⟩) rfl rfl ?c1 ?c2 ?c3 ?c4 ?c5 ?_)
      case c1 => first | exact fun j u h => h | exact cells_newN _ (rc1 ⟨⟨t, kh, kd, vh, vd, hs⟩, a6, cap6⟩) _ _ (by simp)
      case c2 => exact rc1_one _
      case c3 => have := HLEN.out; have := HL.out; unfold maxLen; omega
      case c4 => have := HLEN.out; have := HL.out; omega
      case c5 => first | omega | (simp; omega)
      intro v' w9 hown9 hgrow9 _
      have hbc : Below (w6.setCell ⟨wr.heap.size, 5, none⟩ (.slice a6 hs.length cap6)).heap.size (w6.setCell ⟨wr.heap.size, 5, none⟩ (.slice a6 hs.length cap6)) ((w6.setCell ⟨wr.heap.size, 5, none⟩ (.slice a6 hs.length cap6)).alloc (.cells (rc1 ⟨⟨t, kh, kd, vh, vd, hs⟩, a6, cap6⟩).toArray 26)) := (Below.refl _ _).alloc (Nat.le_refl _) _
      have hH8 := HO7.out.kept (fun g hg _ => hbc.block g hg)
      have hX8 := own_base (show w.heap.size ≤ wr.heap.size + 1 by omega) (own_apart HH7.out (fun g hg => hbc.block g (World.ownsRow.lt HH7.out g hg).2))
      have HAP : Hid (∀ y ∈ acc, ∀ g, y.hv.ownBlock = some g → (RI.hv ⟨⟨t, kh, kd, vh, vd, hs⟩, a6, cap6⟩).ownBlock ≠ some g) := fun y hy g hg he => by
        have h1 := (World.ownsRow.lt (HO.out.hds y hy) g hg).2
        have h2 := (World.ownsRow.lt HH7.out g he).1
        omega
      have HO9 := hid (hH8.snoc (x := ⟨⟨t, kh, kd, vh, vd, hs⟩, a6, cap6⟩) hX8 HAP.out hown9 hgrow9)
      have HB9 : Hid (Below w.heap.size w w9) := ((HB.out.trans (HB7.out.mono hsz)).trans (hbc.mono (by have := HB7.out.size; omega))).grown hgrow9 (by have := HB7.out.size; have := hbc.size; omega) (fun k hk => (World.ownsRow.lt hH8.row k hk).1)
      clear hown9 hgrow9 hbc hH8 hX8 hrow m0 m1 m2 m3 m4 m5 n5 j0 j1 j2 j3 j4 j5
      go_wp2_with fail
      go_roundg k
      case measure => omega
      case rel =>
        have hCC := HL.out
        have ew : wrap64 ((j : Int) + 1) = ((j + 1 : Nat) : Int) := by unfold wrap64; omega
        exact ⟨j + 1, acc ++ [⟨⟨t, kh, kd, vh, vd, hs⟩, a6, cap6⟩], by omega, congrArg (Value.int .i64) ew, by show _ = _; rw [← HMA.out, List.map_append]; rfl, HO9, HB9⟩
    · have hj : j = l.length := by omega
      subst hj
      have HAF : Hid (acc.map RI.r = l.map RI.r) := by show _ = _; rw [HA.out, List.take_length]
      go_wp2_with fail
      go_ret
      exact ⟨⟨_, acc, rfl, HO.out, HAF.out⟩, HB.out⟩
end Go.Proofs.Ytoohmbkgdmmghaa
namespace Go.Proofs.Ytoohmbkgdmmghaa
open Go.RowKit
theorem append_two {P : Program} (w : World) (t ty : TypeId) (base : Nat) (e : TypeId) (i : TypeInfo) (z : Value) (size bytes : Nat) (ht : P.underlying t = some (.slice e)) (hi : P.info? e = some i) (hz : i.zero = some z)
    (hsize : i.size = size) (hby : i.bytes = bytes) (hzs : z.cells.size = size) (hsz : 0 < size)
    (v : Value) (n : Nat) (xs : List Value) (hown : w.ownsRow base e size v n xs)
    (ad : Addr) (m c : Nat) (news : List Value) (hl : news.length = m * size) (hnews : ∀ j u, news[j]? = some u → w.cell? (ad.add j) = some u) (h1 : ∀ u ∈ news, u.oneCell' = true)
    (hm : 0 < m) (h63 : n + m ≤ maxLen) (hbytes : (n + m) * bytes ≤ 140737488355328) (hbase : base ≤ w.heap.size) :
    ∃ g cap w', (Builtin.append_ #[t, t] ty #[v, .slice (some ad) m c]).run P w = .ok (.slice (some ⟨g, 0, none⟩) (n + m) cap) w' ∧
      w'.ownsRow base e size (.slice (some ⟨g, 0, none⟩) (n + m) cap) (n + m) (xs ++ news) ∧ ((v = .slice (some ⟨g, 0, none⟩) n cap ∧ w.grownBy w' (some g)) ∨ (g = w.heap.size ∧ Below w.heap.size w w')) := by
  obtain ⟨g, cap, w', hr, h2, h3, h4, h5⟩ := run_append_lies (P := P) w t ty base e i z size bytes ht hi hz hsize hby hzs hsz v n xs hown ad m c news hl hnews h1 hm h63 hbytes hbase _ rfl
  have hsmall : n + m ≤ 9223372036854775807 := by simp only [maxLen] at h63; omega
  have hbel : ∀ o : Obj, Below w.heap.size w (w.drew.alloc o) := fun o => (show Below w.heap.size w w.drew from ⟨rfl, rfl, rfl, Nat.le_refl _, fun _ _ => rfl⟩).alloc (Nat.le_refl _) o
  rcases hown.2 with ⟨rfl, rfl⟩ | ⟨g0, cap0, cur, rfl, hbg, hg, hnc, hcm, hcs, htake⟩
  · have hr' := run_append_nil (P := P) w t ty e i z ht hi hz ad m c news (by rw [hsize]; exact hl) hnews hm (by omega) (by rw [hby]; have hb0 := hbytes; simp only [Nat.zero_add] at hb0; omega)
    have hr2 := hr
    rw [hr'] at hr2
    injection hr2 with e1 e2
    injection e1 with e1 _ _
    injection e1 with e1
    injection e1 with e1 _ _
    refine ⟨g, cap, w', hr, h2, Or.inr ⟨e1.symm, ?_⟩⟩
    rw [← e2]
    exact hbel _
  · by_cases hroom : n + m ≤ cap0
    · obtain ⟨w2, hr', k2, k3⟩ := run_append_own_spare (P := P) w base t ty e i size ht hi hsize g0 n cap0 xs hown ad m c news hl hnews h1 hroom
      exact ⟨g0, cap0, w2, hr', k2, Or.inl ⟨rfl, k3⟩⟩
    · have holds : ∀ j u, xs[j]? = some u → w.cell? ((⟨g0, 0, none⟩ : Addr).add j) = some u := hown.cells (g := g0) rfl
      have hr' := run_append_grow (P := P) w t ty e i z ht hi hz ⟨g0, 0, none⟩ n cap0 xs (by rw [hsize]; exact hown.1) holds ad m c news (by rw [hsize]; exact hl) hnews (by omega) (by omega) (by rw [hby]; exact growslice_fits (by omega) hbytes)
      have hr2 := hr
      rw [hr'] at hr2
      injection hr2 with e1 e2
      injection e1 with e1 _ _
      injection e1 with e1
      injection e1 with e1 _ _
      refine ⟨g, cap, w', hr, h2, Or.inr ⟨e1.symm, ?_⟩⟩
      rw [← e2]
      exact hbel _
theorem wpList_append_two {P : Program} (w : World) {ops : Array Oper} {rest : List Oper} {o : Oper} {a : Act} {Q : Exit → Act → World → Prop} (hgd : o.guard = none) (s x : Operand) (t : TypeId)
    (ho : o.op = .call { callee := .builtin .append, args := #[s, x], argTypes := #[t, t] })
    (base : Nat) (e : TypeId) (i : TypeInfo) (z : Value) (size bytes : Nat) (ht : P.underlying t = some (.slice e)) (hi : P.info? e = some i) (hz : i.zero = some z)
    (hsize : i.size = size) (hby : i.bytes = bytes) (hzs : z.cells.size = size) (hsz : 0 < size)
    (v : Value) (n : Nat) (xs : List Value) (hs : a.eval s = v) (hown : w.ownsRow base e size v n xs)
    (ad : Addr) (m c : Nat) (news : List Value) (hx : a.eval x = .slice (some ad) m c) (hl : news.length = m * size) (hnews : ∀ j u, news[j]? = some u → w.cell? (ad.add j) = some u) (h1 : ∀ u ∈ news, u.oneCell' = true)
    (hm : 0 < m) (h63 : n + m ≤ maxLen) (hbytes : (n + m) * bytes ≤ 140737488355328) (hbase : base ≤ w.heap.size)
    (h : ∀ g cap w', w'.ownsRow base e size (.slice (some ⟨g, 0, none⟩) (n + m) cap) (n + m) (xs ++ news) → ((v = .slice (some ⟨g, 0, none⟩) n cap ∧ w.grownBy w' (some g)) ∨ (g = w.heap.size ∧ Below w.heap.size w w')) → wpList P ops Q rest (a.put o.dst (.slice (some ⟨g, 0, none⟩) (n + m) cap)) w') : wpList P ops Q (o :: rest) a w := by
  refine wpList_plain hgd fun K hK => ?_
  obtain ⟨g, cap, w', hr, h2, h3⟩ := append_two (P := P) w t o.type base e i z size bytes ht hi hz hsize hby hzs hsz v n xs hown ad m c news hl hnews h1 hm h63 hbytes hbase
  unfold Oper.wp execOp
  simp only [ho, resolve, invoke, builtin, Sem.run_bind, Sem.run_pure, Result.andThen_ok, List.map_toArray, List.map_cons, List.map_nil, hs, hx, hr]
  exact hK _ _ (h g cap w' h2 h3)
/-- A row that grows by noughts: in its own block behind what it holds, or elsewhere. -/
theorem appendZ {P : Program} (w : World) (t tn ty : TypeId) (base : Nat) (e : TypeId) (i : TypeInfo) (z : Value) (size bytes : Nat) (ht : P.underlying t = some (.slice e)) (htn : P.underlying tn = some (.int .i64)) (hi : P.info? e = some i) (hz : i.zero = some z)
    (hsize : i.size = size) (hby : i.bytes = bytes) (hzs : z.cells.size = size) (hsz : 0 < size) (hz1 : ∀ m, ∀ u ∈ (Builtin.zeroCells z.cells m).toList, u.oneCell' = true)
    (v : Value) (n : Nat) (xs : List Value) (hown : w.ownsRow base e size v n xs) (k : Nat) (h0 : 0 < k) (h63 : n + k ≤ 1000000000000) (hb : (n + k) * bytes ≤ 140737488355328) :
    ∃ v' w', (Builtin.append_ #[t, tn] ty #[v, .int .i64 k]).run P w = .ok v' w' ∧ ((∃ g, v.ownBlock = some g ∧ w.grownBy w' (some g) ∧ w'.ownsRow base e size v n xs) ∨ Below w.heap.size w w') := by
  have hbel : ∀ o : Obj, Below w.heap.size w (w.drew.alloc o) := fun o => (show Below w.heap.size w w.drew from ⟨rfl, rfl, rfl, Nat.le_refl _, fun _ _ => rfl⟩).alloc (Nat.le_refl _) o
  have hkb : k * bytes ≤ 281474976710656 := Nat.le_trans (Nat.mul_le_mul_right bytes (Nat.le_add_left k n)) (by omega)
  rcases hown.2 with ⟨rfl, rfl⟩ | ⟨g, cap, cur, rfl, hbg, hg, hnc, hcm, hcs, htake⟩
  · exact ⟨_, _, Lib.run_append_nil_zeros w t tn ty e i z .i64 .i64 ht htn hi hz k h0 (by omega) (by omega) (by rw [hby]; exact hkb), Or.inr (hbel _)⟩
  · by_cases hroom : n + k ≤ cap
    · have hst := run_storeCells_at P g (n * size) e (Builtin.zeroCells z.cells k).toList 0 cur w hg (by
        rw [Array.length_toList, size_zeroCells, hzs, hcs, Nat.add_zero, ← Nat.add_mul]
        exact Nat.mul_le_mul_right size hroom) (hz1 k)
      simp only [Nat.add_zero] at hst
      refine ⟨.slice (some ⟨g, 0, none⟩) (n + k) cap, w.setRow g (cur.toList.take (n * size) ++ (Builtin.zeroCells z.cells k).toList ++ cur.toList.drop (n * size + (Builtin.zeroCells z.cells k).toList.length)).toArray, ?_, Or.inl ⟨g, rfl, ⟨rfl, rfl, rfl, ?_, fun j hj hs => setRow_other w g j _ (fun he => hs (by rw [he]))⟩, hown.1, Or.inr ⟨g, cap, _, rfl, hbg, setRow_heap w g cur _ e _ hg, hnc, hcm, ?_, ?_⟩⟩⟩
      · have hk : k ≠ 0 := by omega
        have hw : IntKind.i64.wrap (k : Int) = k := by rw [IntKind.wrap_i64]; omega
        have h48i : ¬ (281474976710656 < (k : Int) * (bytes : Int)) := by
          rw [← Int.natCast_mul]
          omega
        have hneg : ¬ ((k : Int) < 0) := by omega
        have hns : ¬ (k * size = 0) := Nat.mul_ne_zero hk (by omega)
        have ha : (⟨g, 0, none⟩ : Addr).add (n * size) = ⟨g, n * size, none⟩ := by rw [Go.WideShapes.add_plain, Nat.zero_add]
        simp [Builtin.append_, run_underlying ht, run_underlying htn, sizeOf, typeInfo, zeroValue, hi, hz, hsize, hby, asInt, asIntOf, hw, hneg, hns, h48i, hroom, ha, hst]

      · simp [World.setRow]
      · have hle : n * size + k * size ≤ cap * size := by rw [← Nat.add_mul]; exact Nat.mul_le_mul_right size hroom
        simp only [List.size_toArray, List.length_append, List.length_take, List.length_drop, Array.length_toList, size_zeroCells, hzs, hcs]
        omega
      · have hle : n * size ≤ cap * size := Nat.mul_le_mul_right size hnc
        have hlen : (cur.toList.take (n * size)).length = n * size := by rw [List.length_take, Array.length_toList, hcs]; omega
        simp only [List.append_assoc]
        rw [List.take_append_of_le_length (by rw [hlen]; exact Nat.le_refl _), List.take_of_length_le (by rw [hlen]; exact Nat.le_refl _)]
        exact htake
    · have hold := run_firstCells_some (P := P) w.drew i.size n ⟨g, 0, none⟩ n cap xs (by rw [hsize]; exact hown.1) (hown.cells (g := g) rfl)
      exact ⟨_, _, Lib.run_append_grow_zeros w t tn ty e i z .i64 .i64 ht htn hi hz _ n cap xs hold k h0 (by omega) (by omega) (by omega) (by rw [hby]; exact hkb) (by rw [hby]; exact growslice_fits (by omega) hb), Or.inr (hbel _)⟩
theorem own_shrink {w : World} {B n M cap g size : Nat} {e : TypeId} {xs zs : List Value} (h : w.ownsRow B e size (.slice (some ⟨g, 0, none⟩) M cap) M zs) (hn : n ≤ M) (hx : zs.take (n * size) = xs) : w.ownsRow B e size (.slice (some ⟨g, 0, none⟩) n cap) n xs := by
  obtain ⟨h1, h2⟩ := h
  have hm := Nat.mul_le_mul_right size hn
  rcases h2 with ⟨h2, _⟩ | ⟨g', cap', cur, e', hb, hh, k1, k2, k3, k4⟩
  · cases h2
  · injection e' with e1 _ e3
    injection e1 with e1
    injection e1 with e1
    subst e1 e3
    exact ⟨by rw [← hx, List.length_take, h1]; omega, Or.inr ⟨g, cap, cur, rfl, hb, hh, by omega, k2, k3, by rw [← hx, ← k4, List.take_take, Nat.min_eq_left hm]⟩⟩
theorem rcs_set_same {x : RI} : ∀ (l : List RI) (i : Nat), i < l.length → rc1 x = rc1 (l.getD i dri) → rcs (l.set i x) = rcs l
  | [], _, h, _ => by simp at h
  | r :: l, 0, _, h => by
    show rc1 x ++ rcs l = rc1 r ++ rcs l
    rw [h]; rfl
  | r :: l, i + 1, hi, h => by
    show rc1 r ++ rcs (l.set i x) = rc1 r ++ rcs l
    rw [rcs_set_same l i (by simpa using hi) (by simpa using h)]
theorem hv_set_same {x : RI} : ∀ (l : List RI) (i : Nat), i < l.length → x.hv = (l.getD i dri).hv → (l.set i x).map RI.hv = l.map RI.hv
  | [], _, h, _ => by simp at h
  | r :: l, 0, _, h => by
    show x.hv :: l.map RI.hv = r.hv :: l.map RI.hv
    rw [h]; rfl
  | r :: l, i + 1, hi, h => by
    show r.hv :: (l.set i x).map RI.hv = r.hv :: l.map RI.hv
    rw [hv_set_same l i (by simpa using hi) (by simpa using h)]
theorem hv_of {x y : RI} (h : rc1 x = rc1 y) : x.hv = y.hv := by
  have := congrArg (fun z => z[5]?) h
  exact Option.some.inj this
theorem set_self : ∀ (l : List RI) (i : Nat), l.set i (l.getD i dri) = l
  | [], _ => rfl
  | r :: l, 0 => rfl
  | r :: l, i + 1 => by
    show r :: l.set i (l.getD i dri) = r :: l
    rw [set_self l i]
theorem getD_some {l : List RI} {i : Nat} (h : i < l.length) : l[i]? = some (l.getD i dri) := by
  rw [List.getD_eq_getElem?_getD, List.getElem?_eq_getElem h, Option.getD_some]
theorem Held.apart {w : World} {B : Nat} {v : Value} {l : List RI} (h : Held w B v l) {i j g : Nat} {x y : RI} (hij : i ≠ j) (hi : l[i]? = some x) (hj : l[j]? = some y) (hx : x.hv.ownBlock = some g) : y.hv.ownBlock ≠ some g := by
  have ha := List.pairwise_iff_getElem.1 h.ap
  obtain ⟨hi', rfl⟩ := List.getElem?_eq_some_iff.1 hi
  obtain ⟨hj', rfl⟩ := List.getElem?_eq_some_iff.1 hj
  rcases Nat.lt_or_gt_of_ne hij with h1 | h1
  · exact ha i j hi' hj' h1 g hx
  · exact fun hy => ha j i hj' hi' h1 g hy hx
theorem Held.touch {w w' : World} {B : Nat} {v : Value} {l : List RI} {i g : Nat} {x : RI} (h : Held w B v l) (hi : i < l.length) (hx : (l.getD i dri).hv.ownBlock = some g) (hg : w.grownBy w' (some g)) (ho : OwnH w' B x.hv x.r.hs) (hc : rc1 x = rc1 (l.getD i dri)) : Held w' B v (l.set i x) := by
  have hh := h.hds _ (riD_mem hi)
  obtain ⟨c, hb⟩ := ownH_blk hh hx
  have hvn : v.ownBlock ≠ some g := own_ne h.row hb (by decide)
  refine ⟨?_, ?_, ?_⟩
  · rw [List.length_set, rcs_set_same l i hi hc]
    exact own_apart h.row (fun k hk => hg.block k (World.ownsRow.lt h.row k hk).2 (fun e => hvn (hk.trans e)))
  · intro y hy
    obtain ⟨j, hj⟩ := List.getElem?_of_mem hy
    rw [List.getElem?_set] at hj
    by_cases hij : i = j
    · rw [if_pos hij, if_pos hi] at hj
      injection hj with hj
      subst hj; exact ho
    · rw [if_neg hij] at hj
      have hy2 := h.hds y (List.mem_of_getElem? hj)
      have hne := h.apart hij (getD_some hi) hj hx
      exact own_apart hy2 (fun k hk => hg.block k (World.ownsRow.lt hy2 k hk).2 (fun e => hne (hk.trans e)))
  · have k : (l.map RI.hv).Pairwise (fun p q => ∀ g, p.ownBlock = some g → q.ownBlock ≠ some g) := List.pairwise_map.2 h.ap
    rw [← hv_set_same l i hi (hv_of hc)] at k
    exact List.pairwise_map.1 k
/-- Records that may be written over, beside blocks that stay. -/
structure St (w0 w4 : World) (B lo : Nat) (va : Value) (w : World) (l : List RI) : Prop where
  held : Held w B va l
  low : ∀ g, (va.ownBlock = some g ∨ ∃ x ∈ l, x.hv.ownBlock = some g) → g < lo
  kept : ∀ g, lo ≤ g → g < w4.heap.size → w.heap[g]? = w4.heap[g]?
  size : w4.heap.size ≤ w.heap.size
  lo4 : lo ≤ w4.heap.size
  blo : B ≤ lo
  bel : Below B w0 w
theorem St.fresh {w0 w4 w w' : World} {B lo : Nat} {va : Value} {l : List RI} (h : St w0 w4 B lo va w l) (hb : Below w.heap.size w w') : St w0 w4 B lo va w' l where
  held := h.held.kept (fun g hg _ => hb.block g hg)
  low := h.low
  kept := fun g h1 h2 => (hb.block g (Nat.lt_of_lt_of_le h2 h.size)).trans (h.kept g h1 h2)
  size := Nat.le_trans h.size hb.size
  lo4 := h.lo4
  blo := h.blo
  bel := h.bel.trans (hb.mono (Nat.le_trans h.blo (Nat.le_trans h.lo4 h.size)))
theorem St.far {w0 w4 w w' : World} {B lo g : Nat} {va : Value} {l : List RI} (h : St w0 w4 B lo va w l) (hb : w.grownBy w' (some g)) (hg : w4.heap.size ≤ g) : St w0 w4 B lo va w' l where
  held := h.held.kept (fun k hk hk2 => hb.block k hk (fun e => by have := h.low k hk2; have := h.lo4; injection e with e; omega))
  low := h.low
  kept := fun k h1 h2 => (hb.block k (Nat.lt_of_lt_of_le h2 h.size) (fun e => by injection e with e; omega)).trans (h.kept k h1 h2)
  size := Nat.le_trans h.size hb.size
  lo4 := h.lo4
  blo := h.blo
  bel := h.bel.grown hb (Nat.le_trans h.blo (Nat.le_trans h.lo4 h.size)) (fun k hk => by injection hk with hk; have := h.lo4; have := h.blo; omega)
theorem St.touch {w0 w4 w w' : World} {B lo i g : Nat} {va : Value} {l : List RI} {x : RI} (h : St w0 w4 B lo va w l) (hi : i < l.length) (hx : (l.getD i dri).hv.ownBlock = some g) (hg : w.grownBy w' (some g)) (ho : OwnH w' B x.hv x.r.hs) (hc : rc1 x = rc1 (l.getD i dri)) : St w0 w4 B lo va w' (l.set i x) where
  held := h.held.touch hi hx hg ho hc
  low := fun k hk => by
    refine h.low k ?_
    rcases hk with hk | ⟨y, hy, hk⟩
    · exact Or.inl hk
    · right
      have hm : y.hv ∈ (l.set i x).map RI.hv := List.mem_map_of_mem hy
      rw [hv_set_same l i hi (hv_of hc)] at hm
      obtain ⟨y2, hy2, e⟩ := List.mem_map.1 hm
      exact ⟨y2, hy2, by rw [e]; exact hk⟩
  kept := fun k h1 h2 => (hg.block k (Nat.lt_of_lt_of_le h2 h.size) (fun e => by injection e with e; have := h.low g (Or.inr ⟨_, riD_mem hi, hx⟩); omega)).trans (h.kept k h1 h2)
  size := Nat.le_trans h.size hg.size
  lo4 := h.lo4
  blo := h.blo
  bel := h.bel.grown hg (Nat.le_trans h.blo (Nat.le_trans h.lo4 h.size)) (fun k hk => by injection hk with hk; subst hk; exact (World.ownsRow.lt (h.held.hds _ (riD_mem hi)) _ hx).1)
/-- A slice that has grown out of a record's headers. -/
def Gr (w4 w : World) (B : Nat) (x : RI) (vg : Value) (m : Nat) (ys : List Value) : Prop :=
  w.ownsRow B 33 3 vg m ys ∧ ((vg = .slice x.a m x.cap ∧ x.r.hs.length ≤ m ∧ ys.take (x.r.hs.length * 3) = hcs x.r.hs) ∨ ∀ g, vg.ownBlock = some g → w4.heap.size ≤ g)
theorem Gr.start {w4 w : World} {B : Nat} {x : RI} (h : OwnH w B x.hv x.r.hs) : Gr w4 w B x x.hv x.r.hs.length (hcs x.r.hs) :=
  ⟨h, Or.inl ⟨rfl, Nat.le_refl _, List.take_of_length_le (by rw [hcs_len]; exact Nat.le_refl _)⟩⟩
theorem Gr.below {w4 w w' : World} {B m : Nat} {x : RI} {vg : Value} {ys : List Value} (h : Gr w4 w B x vg m ys) (hb : Below w.heap.size w w') : Gr w4 w' B x vg m ys :=
  ⟨own_apart h.1 (fun g hg => hb.block g (World.ownsRow.lt h.1 g hg).2), h.2⟩
theorem Gr.step {w0 w4 w w' : World} {B lo i m g cap : Nat} {va vg : Value} {l : List RI} {ys news : List Value} (h : St w0 w4 B lo va w l) (hi : i < l.length) (hG : Gr w4 w B (l.getD i dri) vg m ys)
    (hown : w'.ownsRow B 33 3 (.slice (some ⟨g, 0, none⟩) (m + 1) cap) (m + 1) (ys ++ news)) (hor : (vg = .slice (some ⟨g, 0, none⟩) m cap ∧ w.grownBy w' (some g)) ∨ (g = w.heap.size ∧ Below w.heap.size w w')) :
    St w0 w4 B lo va w' l ∧ Gr w4 w' B (l.getD i dri) (.slice (some ⟨g, 0, none⟩) (m + 1) cap) (m + 1) (ys ++ news) := by
  rcases hor with ⟨rfl, hg⟩ | ⟨rfl, hb⟩
  · rcases hG.2 with ⟨e, hle, htk⟩ | hfar
    · injection e with e1 _ e3
      have hl : (l.getD i dri).r.hs.length * 3 ≤ ys.length := by have := hG.1.1; omega
      have htk2 : (ys ++ news).take ((l.getD i dri).r.hs.length * 3) = hcs (l.getD i dri).r.hs := by rw [List.take_append_of_le_length hl]; exact htk
      have hx : (l.getD i dri).hv = .slice (some ⟨g, 0, none⟩) (l.getD i dri).r.hs.length cap := by unfold RI.hv; rw [← e1, ← e3]
      have ho : OwnH w' B (l.getD i dri).hv (l.getD i dri).r.hs := by
        rw [hx]
        exact own_shrink hown (by omega) htk2
      have hs := h.touch hi (by rw [hx]; rfl) hg ho rfl
      rw [set_self] at hs
      exact ⟨hs, hown, Or.inl ⟨by rw [← e1, ← e3], by omega, htk2⟩⟩
    · exact ⟨h.far hg (hfar g rfl), hown, Or.inr (fun k hk => by
        have e : g = k := by simpa [Value.ownBlock] using hk
        rw [← e]; exact hfar g rfl)⟩
  · exact ⟨h.fresh hb, hown, Or.inr (fun k hk => by
      have e : w.heap.size = k := by simpa [Value.ownBlock] using hk
      rw [← e]; exact h.size)⟩
theorem zc_hdr (n : Nat) : ∀ u ∈ (Builtin.zeroCells (Value.agg #[.string ⟨#[]⟩, .bool false, .string ⟨#[]⟩]).cells n).toList, u.oneCell' = true := by
  intro u hu
  rw [Array.mem_toList_iff] at hu
  unfold Builtin.zeroCells at hu
  obtain ⟨i, _, rfl⟩ := Array.mem_map.1 hu
  have hm : i % 3 = 0 ∨ i % 3 = 1 ∨ i % 3 = 2 := by omega
  show (#[Value.string ⟨#[]⟩, .bool false, .string ⟨#[]⟩][i % 3]!).oneCell' = true
  rcases hm with h | h | h <;> rw [h] <;> rfl
theorem zc_rec (n : Nat) : ∀ u ∈ (Builtin.zeroCells (Value.agg #[.int .i64 0, .bool false, .string ⟨#[]⟩, .bool false, .string ⟨#[]⟩, .slice none 0 0]).cells n).toList, u.oneCell' = true := by
  intro u hu
  rw [Array.mem_toList_iff] at hu
  unfold Builtin.zeroCells at hu
  obtain ⟨i, _, rfl⟩ := Array.mem_map.1 hu
  have hm : i % 6 = 0 ∨ i % 6 = 1 ∨ i % 6 = 2 ∨ i % 6 = 3 ∨ i % 6 = 4 ∨ i % 6 = 5 := by omega
  show (#[Value.int .i64 0, .bool false, .string ⟨#[]⟩, .bool false, .string ⟨#[]⟩, .slice none 0 0][i % 6]!).oneCell' = true
  rcases hm with h | h | h | h | h | h <;> rw [h] <;> rfl
theorem Try.undInt : Try.prog.underlying 3 = some (.int .i64) := by kernel_rfl
/-- 'append(a[i].Headers, make([]api.Header, 30)...)'. -/
theorem St.zeros {w0 w4 w : World} {B lo i : Nat} {va : Value} {l : List RI} (h : St w0 w4 B lo va w l) (hi : i < l.length) (hn : (l.getD i dri).r.hs.length ≤ 1048576) :
    ∃ v' w', (Builtin.append_ #[24, 3] 24 #[.slice (l.getD i dri).a (l.getD i dri).r.hs.length (l.getD i dri).cap, .int .i64 30]).run Try.prog w = .ok v' w' ∧ St w0 w4 B lo va w' l := by
  obtain ⟨i0, ii, hz0, hz1, hz2⟩ := info_parts Try.infoHdr
  have hh := h.held.hds _ (riD_mem hi)
  obtain ⟨v', w', hr, hor⟩ := appendZ (P := Try.prog) w 24 3 24 B 33 i0 (.agg #[.string ⟨#[]⟩, .bool false, .string ⟨#[]⟩]) 3 40 Try.underHdrs Try.undInt ii hz0 hz1 hz2 rfl (by decide) zc_hdr _ _ _ hh 30 (by decide) (by omega) (by omega)
  refine ⟨v', w', hr, ?_⟩
  rcases hor with ⟨g, h1, h2, h3⟩ | hb
  · have hs := h.touch hi h1 h2 h3 rfl
    rw [set_self] at hs
    exact hs
  · exact h.fresh hb
end Go.Proofs.Ytoohmbkgdmmghaa
namespace Go.Proofs.Ytoohmbkgdmmghaa
open Go.RowKit
theorem gby_trans {a b c : World} {r : Option Nat} (h1 : a.grownBy b r) (h2 : b.grownBy c r) : a.grownBy c r :=
  ⟨h2.os.trans h1.os, h2.tape.trans h1.tape, h2.output.trans h1.output, Nat.le_trans h1.size h2.size, fun k hk hn => (h2.block k (Nat.lt_of_lt_of_le hk h1.size) hn).trans (h1.block k hk hn)⟩
theorem hcs_set (y : Hdr) : ∀ (hs : List Hdr) (k : Nat), (((hcs hs).set (k * 3) (.string y.1)).set (k * 3 + 1) (.bool y.2.1)).set (k * 3 + 2) (.string y.2.2) = hcs (hs.set k y)
  | [], k => by simp [hcs]
  | r :: l, 0 => rfl
  | r :: l, k + 1 => by
    have ih := hcs_set y l k
    have e1 : (k + 1) * 3 = k * 3 + 1 + 1 + 1 := by omega
    show (((hc1 r ++ hcs l).set ((k + 1) * 3) (.string y.1)).set ((k + 1) * 3 + 1) (.bool y.2.1)).set ((k + 1) * 3 + 2) (.string y.2.2) = hc1 r ++ hcs (l.set k y)
    rw [e1, ← ih]
    rfl
theorem rcs_set (x : RI) : ∀ (l : List RI) (k : Nat), ((((((rcs l).set (k * 6) (.int .i64 x.r.t)).set (k * 6 + 1) (.bool x.r.kh)).set (k * 6 + 2) (.string x.r.kd)).set (k * 6 + 3) (.bool x.r.vh)).set (k * 6 + 4) (.string x.r.vd)).set (k * 6 + 5) (.slice x.a x.r.hs.length x.cap) = rcs (l.set k x)
  | [], k => by simp [rcs]
  | r :: l, 0 => rfl
  | r :: l, k + 1 => by
    have ih := rcs_set x l k
    have e1 : (k + 1) * 6 = k * 6 + 1 + 1 + 1 + 1 + 1 + 1 := by omega
    show ((((((rc1 r ++ rcs l).set ((k + 1) * 6) (.int .i64 x.r.t)).set ((k + 1) * 6 + 1) (.bool x.r.kh)).set ((k + 1) * 6 + 2) (.string x.r.kd)).set ((k + 1) * 6 + 3) (.bool x.r.vh)).set ((k + 1) * 6 + 4) (.string x.r.vd)).set ((k + 1) * 6 + 5) (.slice x.a x.r.hs.length x.cap) = rc1 r ++ rcs (l.set k x)
    rw [e1, ← ih]
    rfl
def hset (x : RI) (k : Nat) (y : Hdr) : RI := ⟨⟨x.r.t, x.r.kh, x.r.kd, x.r.vh, x.r.vd, x.r.hs.set k y⟩, x.a, x.cap⟩
theorem rc1_hset (x : RI) (k : Nat) (y : Hdr) : rc1 (hset x k y) = rc1 x := by
  unfold rc1 hset
  simp only [List.length_set]
theorem hv_hset (x : RI) (k : Nat) (y : Hdr) : (hset x k y).hv = x.hv := hv_of (rc1_hset x k y)
theorem St.seth {w0 w4 w : World} {B lo i k g : Nat} {va : Value} {l : List RI} (h : St w0 w4 B lo va w l) (hi : i < l.length) (hx : (l.getD i dri).a = some ⟨g, 0, none⟩) (y : Hdr) :
    St w0 w4 B lo va (((w.setCell ⟨g, k * 3, none⟩ (.string y.1)).setCell ⟨g, k * 3 + 1, none⟩ (.bool y.2.1)).setCell ⟨g, k * 3 + 2, none⟩ (.string y.2.2)) (l.set i (hset (l.getD i dri) k y)) := by
  have hh := h.held.hds _ (riD_mem hi)
  have e : (l.getD i dri).hv = .slice (some ⟨g, 0, none⟩) (l.getD i dri).r.hs.length (l.getD i dri).cap := by unfold RI.hv; rw [hx]
  unfold OwnH at hh
  rw [e] at hh
  obtain ⟨h1, g1⟩ := hh.stored (k * 3) (.string y.1)
  obtain ⟨h2, g2⟩ := h1.stored (k * 3 + 1) (.bool y.2.1)
  obtain ⟨h3, g3⟩ := h2.stored (k * 3 + 2) (.string y.2.2)
  rw [hcs_set] at h3
  refine h.touch hi (by rw [e]; rfl) (gby_trans (gby_trans g1 g2) g3) ?_ (rc1_hset _ _ _)
  rw [hv_hset, e]
  show World.ownsRow _ _ _ _ _ (List.length ((l.getD i dri).r.hs.set k y)) (hcs ((l.getD i dri).r.hs.set k y))
  rw [List.length_set]
  exact h3
def ri7 : RI := ⟨⟨7, false, ⟨#[]⟩, false, ⟨#[]⟩, []⟩, none, 0⟩
theorem St.six {w0 w4 w : World} {B lo i g cap : Nat} {l : List RI} (h : St w0 w4 B lo (.slice (some ⟨g, 0, none⟩) l.length cap) w l) :
    St w0 w4 B lo (.slice (some ⟨g, 0, none⟩) l.length cap) ((((((w.setCell ⟨g, i * 6, none⟩ (.int .i64 7)).setCell ⟨g, i * 6 + 1, none⟩ (.bool false)).setCell ⟨g, i * 6 + 2, none⟩ (.string ⟨#[]⟩)).setCell ⟨g, i * 6 + 3, none⟩ (.bool false)).setCell ⟨g, i * 6 + 4, none⟩ (.string ⟨#[]⟩)).setCell ⟨g, i * 6 + 5, none⟩ (.slice none 0 0)) (l.set i ri7) := by
  obtain ⟨h1, g1⟩ := h.held.row.stored (i * 6) (.int .i64 7)
  obtain ⟨h2, g2⟩ := h1.stored (i * 6 + 1) (.bool false)
  obtain ⟨h3, g3⟩ := h2.stored (i * 6 + 2) (.string ⟨#[]⟩)
  obtain ⟨h4, g4⟩ := h3.stored (i * 6 + 3) (.bool false)
  obtain ⟨h5, g5⟩ := h4.stored (i * 6 + 4) (.string ⟨#[]⟩)
  obtain ⟨h6, g6⟩ := h5.stored (i * 6 + 5) (.slice none 0 0)
  have er := rcs_set ri7 l i
  have hG := gby_trans (gby_trans (gby_trans (gby_trans (gby_trans g1 g2) g3) g4) g5) g6
  generalize ((((((w.setCell ⟨g, i * 6, none⟩ (.int .i64 7)).setCell ⟨g, i * 6 + 1, none⟩ (.bool false)).setCell ⟨g, i * 6 + 2, none⟩ (.string ⟨#[]⟩)).setCell ⟨g, i * 6 + 3, none⟩ (.bool false)).setCell ⟨g, i * 6 + 4, none⟩ (.string ⟨#[]⟩)).setCell ⟨g, i * 6 + 5, none⟩ (.slice none 0 0)) = w' at *
  have hrow : w'.ownsRow B 26 6 (.slice (some ⟨g, 0, none⟩) l.length cap) l.length (rcs (l.set i ri7)) := by rw [← er]; exact h6
  have hglo : g < lo := h.low g (Or.inl rfl)
  have hBg : B ≤ g := (World.ownsRow.lt h.held.row g rfl).1
  refine ⟨⟨by rw [List.length_set]; exact hrow, ?_, ?_⟩, ?_, ?_, Nat.le_trans h.size hG.size, h.lo4, h.blo, ?_⟩
  · intro y hy
    rcases List.mem_or_eq_of_mem_set hy with hy | rfl
    · have hy2 := h.held.hds y hy
      refine own_apart hy2 (fun k hk => hG.block k (World.ownsRow.lt hy2 k hk).2 (fun e => ?_))
      injection e with e
      subst e
      obtain ⟨c, hc⟩ := ownH_blk hy2 hk
      exact own_ne h.held.row hc (by decide) rfl
    · exact ownH_nil _ _
  · rw [List.pairwise_iff_getElem]
    have ha := List.pairwise_iff_getElem.1 h.held.ap
    intro a b ha1 hb1 hab k k1 k2
    rw [List.getElem_set] at k1 k2
    by_cases e1 : i = a
    · rw [if_pos e1] at k1; cases k1
    · by_cases e2 : i = b
      · rw [if_pos e2] at k2; cases k2
      · rw [if_neg e1] at k1
        rw [if_neg e2] at k2
        exact ha a b (by simpa using ha1) (by simpa using hb1) hab k k1 k2
  · intro k hk
    refine h.low k ?_
    rcases hk with hk | ⟨y, hy, hk⟩
    · exact Or.inl hk
    · rcases List.mem_or_eq_of_mem_set hy with hy | rfl
      · exact Or.inr ⟨y, hy, hk⟩
      · cases hk
  · exact fun k k1 k2 => (hG.block k (Nat.lt_of_lt_of_le k2 h.size) (fun e => by injection e with e; omega)).trans (h.kept k k1 k2)
  · exact h.bel.grown hG (Nat.le_trans h.blo (Nat.le_trans h.lo4 h.size)) (fun k hk => by injection hk with hk; omega)
/-- 'append(a, make([]api.Record, 9)...)'. -/
theorem St.zerosR {w0 w4 w : World} {B lo : Nat} {va : Value} {l : List RI} (h : St w0 w4 B lo va w l) (hn : l.length ≤ 1048576) :
    ∃ v' w', (Builtin.append_ #[30, 3] 30 #[va, .int .i64 9]).run Try.prog w = .ok v' w' ∧ (∀ g, lo ≤ g → g < w4.heap.size → w'.heap[g]? = w4.heap[g]?) ∧ Below B w0 w' ∧ w4.heap.size ≤ w'.heap.size := by
  obtain ⟨i0, ii, hz0, hz1, hz2⟩ := info_parts Try.infoRec
  obtain ⟨v', w', hr, hor⟩ := appendZ (P := Try.prog) w 30 3 30 B 26 i0 (.agg #[.int .i64 0, .bool false, .string ⟨#[]⟩, .bool false, .string ⟨#[]⟩, .slice none 0 0]) 6 80 Try.underRecs Try.undInt ii hz0 hz1 hz2 rfl (by decide) zc_rec _ _ _ h.held.row 9 (by decide) (by omega) (by omega)
  refine ⟨v', w', hr, ?_⟩
  rcases hor with ⟨g, h1, h2, _⟩ | hb
  · have hglo : g < lo := h.low g (Or.inl h1)
    have hBg : B ≤ g := (World.ownsRow.lt h.held.row g h1).1
    exact ⟨fun k k1 k2 => (h2.block k (Nat.lt_of_lt_of_le k2 h.size) (fun e => by injection e with e; omega)).trans (h.kept k k1 k2), h.bel.grown h2 (Nat.le_trans h.blo (Nat.le_trans h.lo4 h.size)) (fun k hk => by injection hk with hk; omega), Nat.le_trans h.size h2.size⟩
  · have := h.fresh hb
    exact ⟨this.kept, this.bel, this.size⟩
/-- What ReadBody answers, found or not. -/
theorem rbody_u (s : ByteArray) (first count : Int) (hf : I64 first) : ∃ (E : Nat) (y : List Rec), y.length ≤ 65536 ∧ (∀ r ∈ y, r.hs.length ≤ 1024) ∧ ∀ w, Calls Try.prog 12 #[.string s, .int .i64 first, .int .i64 count] w fun e w' => Below w.heap.size w w' ∧ ∃ v l, e = .returned (.tuple #[v, .int .i64 E]) ∧ Held w' w.heap.size v l ∧ l.map RI.r = y := by
  have hc := fun w => rbody_any s first count w hf
  cases hr : rbd s first count with
  | error x =>
    refine ⟨x, [], Nat.zero_le _, fun r hr => by simp at hr, fun w => (hc w).mono ?_⟩
    rintro e w' ⟨hb, hm⟩
    rw [hr] at hm
    obtain ⟨rfl, _⟩ := hm
    exact ⟨hb, _, [], rfl, ⟨World.ownsRow_nil _ _ _ _, fun x hx => by simp at hx, List.Pairwise.nil⟩, rfl⟩
  | ok y =>
    refine ⟨0, y, ?_, ?_, fun w => (hc w).mono ?_⟩
    · unfold rbd at hr
      by_cases hc : ¬ (1 ≤ count ∧ count ≤ 65536)
      · rw [if_pos hc] at hr; cases hr
      rw [if_neg hc] at hr
      by_cases hs : 16777216 < s.size
      · rw [if_pos hs] at hr; cases hr
      rw [if_neg hs] at hr
      cases hq : run s first count.toNat with
      | error e => rw [hq] at hr; cases hr
      | ok z =>
        obtain ⟨m, k⟩ := z
        rw [hq] at hr
        dsimp only at hr
        by_cases hk : k < s.size
        · rw [if_pos hk] at hr; cases hr
        rw [if_neg hk] at hr
        injection hr with hr
        subst hr
        have := (run_ran (by omega) (by omega) hq).len
        omega
    · intro r hx2
      unfold rbd at hr
      by_cases hc : ¬ (1 ≤ count ∧ count ≤ 65536)
      · rw [if_pos hc] at hr; cases hr
      rw [if_neg hc] at hr
      by_cases hs : 16777216 < s.size
      · rw [if_pos hs] at hr; cases hr
      rw [if_neg hs] at hr
      cases hq : run s first count.toNat with
      | error e => rw [hq] at hr; cases hr
      | ok z =>
        obtain ⟨m, k⟩ := z
        rw [hq] at hr
        dsimp only at hr
        by_cases hk : k < s.size
        · rw [if_pos hk] at hr; cases hr
        rw [if_neg hk] at hr
        injection hr with hr
        subst hr
        exact ((run_ran (by omega) (by omega) hq).good _ hx2).2.2.2.2.1
    · rintro e w' ⟨hb, hm⟩
      rw [hr] at hm
      obtain ⟨v, l, rfl, h1, h2⟩ := hm
      exact ⟨hb, v, l, rfl, h1, h2⟩
end Go.Proofs.Ytoohmbkgdmmghaa
namespace Go.Proofs.Ytoohmbkgdmmghaa
open Go.RowKit
/-- The copy under way: its block, its headers so far, and what lies below B is as it was. -/
structure CpI (B : Nat) (W2 x : World) (G : Nat) (R : Rec) (v : Value) (l : List Hdr) : Prop where
  blk : x.heap[G]? = some (.cells #[.int .i64 R.t, .bool R.kh, .string R.kd, .bool R.vh, .string R.vd, v] 26 (0, 0))
  own : OwnH x B v l
  bel : Below B W2 x
  hB : B ≤ W2.heap.size
theorem CpI.next {B G : Nat} {W2 x y : World} {R : Rec} {v : Value} {l : List Hdr} (h : CpI B W2 x G R v l) (hb : Below x.heap.size x y) : CpI B W2 y G R v l :=
  ⟨(hb.block G (lt_of_heap h.blk)).trans h.blk, own_apart h.own (fun g hg => hb.block g (World.ownsRow.lt h.own g hg).2), bel_next h.bel h.hB hb, h.hB⟩
theorem CpI.grown {B G j : Nat} {W2 x y : World} {R : Rec} {v : Value} {l : List Hdr} {r : Hdr} {g cap : Nat} (h : CpI B W2 x G R v l) (ho : y.ownsRow B 33 3 (.slice (some ⟨g, 0, none⟩) (j + 1) cap) (j + 1) (hcs l ++ hc1 r)) (hg : x.grownBy y v.ownBlock) :
    y.heap[G]? = some (.cells #[.int .i64 R.t, .bool R.kh, .string R.kd, .bool R.vh, .string R.vd, v] 26 (0, 0)) ∧ y.ownsRow B 33 3 (.slice (some ⟨g, 0, none⟩) (j + 1) cap) (j + 1) (hcs l ++ hc1 r) ∧ Below B W2 y :=
  ⟨(hg.block G (lt_of_heap h.blk) (fun e => own_ne h.own h.blk (by decide) e.symm)).trans h.blk, ho, h.bel.grown hg (Nat.le_trans h.hB h.bel.size) (fun k hk => (World.ownsRow.lt h.own k hk).1)⟩
theorem CpI.put {B G j : Nat} {W2 y : World} {R : Rec} {v : Value} {l : List Hdr} {r : Hdr} {g cap : Nat} (h : y.heap[G]? = some (.cells #[.int .i64 R.t, .bool R.kh, .string R.kd, .bool R.vh, .string R.vd, v] 26 (0, 0)) ∧ y.ownsRow B 33 3 (.slice (some ⟨g, 0, none⟩) (j + 1) cap) (j + 1) (hcs l ++ hc1 r) ∧ Below B W2 y) (hl : l.length = j) (hG : B ≤ G) (hB : B ≤ W2.heap.size) :
    CpI B W2 (y.setCell ⟨G, 5, none⟩ (.slice (some ⟨g, 0, none⟩) (j + 1) cap)) G R (.slice (some ⟨g, 0, none⟩) (j + 1) cap) (l ++ [r]) :=
  ⟨heap_set h.1, own_apart (ownH_snoc h.2.1 hl) (fun k hk => Below.heap_setCell _ _ _ _ (fun e => own_ne h.2.1 h.1 (by decide) (hk.trans (congrArg some e)))), h.2.2.setCell hG _, hB⟩
theorem take_map {hs l : List Hdr} {j : Nat} {x : Hdr} (hl : l = (hs.map fun x => (x.1, x.2.1, bd x.2.1 x.2.2)).take j) (hj : j < hs.length) (hx : hs.getD j df = x) : l ++ [(x.1, x.2.1, bd x.2.1 x.2.2)] = (hs.map fun x => (x.1, x.2.1, bd x.2.1 x.2.2)).take (j + 1) := by
  have hj2 : j < (hs.map fun x => (x.1, x.2.1, bd x.2.1 x.2.2)).length := by rw [List.length_map]; exact hj
  rw [List.take_succ_eq_append_getElem hj2, hl, List.getElem_map]
  rw [List.getD_eq_getElem?_getD, List.getElem?_eq_getElem hj, Option.getD_some] at hx
  rw [hx]
theorem own_mono {w : World} {B B' n size : Nat} {e : TypeId} {v : Value} {l : List Value} (h : w.ownsRow B e size v n l) (hB : B' ≤ B) : w.ownsRow B' e size v n l := by
  obtain ⟨h1, h2⟩ := h
  rcases h2 with h2 | ⟨g, c, cur, e, hb, r⟩
  · exact ⟨h1, Or.inl h2⟩
  · exact ⟨h1, Or.inr ⟨g, c, cur, e, Nat.le_trans hB hb, r⟩⟩
theorem cp_end {w W2 x : World} {G j cap' : Nat} {t : Int} {kh vh : Bool} {kd vd : ByteArray} {hs l : List Hdr} {a' : Option Addr} (h : CpI (w.heap.size + 2) W2 x G ⟨t, kh, bd kh kd, vh, bd vh vd, []⟩ (.slice a' j cap') l) (hj : j = hs.length) (hl : l = (hs.map fun x => (x.1, x.2.1, bd x.2.1 x.2.2)).take j) (hb : Below w.heap.size w W2)
    (hr : x.heap[w.heap.size + 1]? = some (.cells #[.int .i64 0, .bool false, .string ⟨#[]⟩, .bool false, .string ⟨#[]⟩, .slice none 0 0] 26 (0, 0))) :
    let y := ((((((x.setCell ⟨w.heap.size + 1, 0, none⟩ (.int .i64 t)).setCell ⟨w.heap.size + 1, 1, none⟩ (.bool kh)).setCell ⟨w.heap.size + 1, 2, none⟩ (.string (bd kh kd))).setCell ⟨w.heap.size + 1, 3, none⟩ (.bool vh)).setCell ⟨w.heap.size + 1, 4, none⟩ (.string (bd vh vd))).setCell ⟨w.heap.size + 1, 5, none⟩ (.slice a' j cap'))
    (y.cell? ⟨w.heap.size + 1, 0, none⟩ = some (.int .i64 t) ∧ y.cell? ⟨w.heap.size + 1, 1, none⟩ = some (.bool kh) ∧ y.cell? ⟨w.heap.size + 1, 2, none⟩ = some (.string (bd kh kd)) ∧ y.cell? ⟨w.heap.size + 1, 3, none⟩ = some (.bool vh) ∧ y.cell? ⟨w.heap.size + 1, 4, none⟩ = some (.string (bd vh vd)) ∧ y.cell? ⟨w.heap.size + 1, 5, none⟩ = some (.slice a' j cap')) ∧
    Ending.returned (.agg #[.int .i64 t, .bool kh, .string (bd kh kd), .bool vh, .string (bd vh vd), .slice a' j cap']) = .returned (recV (cln ⟨t, kh, kd, vh, vd, hs⟩) a' cap') ∧ OwnH y w.heap.size (.slice a' (cln ⟨t, kh, kd, vh, vd, hs⟩).hs.length cap') (cln ⟨t, kh, kd, vh, vd, hs⟩).hs ∧ Below w.heap.size w y := by
  intro y
  have hlen : (hs.map fun x => (x.1, x.2.1, bd x.2.1 x.2.2)).length = j := by rw [List.length_map]; exact hj.symm
  have hll : l = (hs.map fun x => (x.1, x.2.1, bd x.2.1 x.2.2)) := by rw [hl, List.take_of_length_le (by rw [hlen]; exact Nat.le_refl _)]
  have hy : y.heap[w.heap.size + 1]? = some (.cells #[.int .i64 t, .bool kh, .string (bd kh kd), .bool vh, .string (bd vh vd), .slice a' j cap'] 26 (0, 0)) := heap_set (heap_set (heap_set (heap_set (heap_set (heap_set hr)))))
  have hle : w.heap.size ≤ w.heap.size + 1 := Nat.le_succ _
  refine ⟨cells6 hy, ?_, ?_, ?_⟩
  · unfold recV cln
    rw [hlen]
  · show World.ownsRow y w.heap.size 33 3 (.slice a' (hs.map fun x => (x.1, x.2.1, bd x.2.1 x.2.2)).length cap') (hs.map fun x => (x.1, x.2.1, bd x.2.1 x.2.2)).length (hcs (hs.map fun x => (x.1, x.2.1, bd x.2.1 x.2.2)))
    rw [← hll]
    have hlj : l.length = j := by rw [hll]; exact hlen
    rw [hlj]
    have ho := own_mono (B' := w.heap.size) h.own (Nat.le_trans hle (Nat.le_succ _))
    rw [hlj] at ho
    refine own_apart ho (fun g hg => ?_)
    have hne : g ≠ w.heap.size + 1 := fun e => by have := (World.ownsRow.lt h.own g hg).1; omega
    exact (Below.heap_setCell _ _ _ _ hne).trans ((Below.heap_setCell _ _ _ _ hne).trans ((Below.heap_setCell _ _ _ _ hne).trans ((Below.heap_setCell _ _ _ _ hne).trans ((Below.heap_setCell _ _ _ _ hne).trans (Below.heap_setCell _ _ _ _ hne)))))
  · exact ((((((hb.trans (h.bel.mono (by omega))).setCell hle _).setCell hle _).setCell hle _).setCell hle _).setCell hle _).setCell hle _
end Go.Proofs.Ytoohmbkgdmmghaa
namespace Go.Proofs.Ytoohmbkgdmmghaa
open Go.RowKit
theorem held6 {w0 x : World} {B P : Nat} {T : TypeId} {v0 v1 v2 v3 v4 v5 : Value} (h : w0.heap[P]? = some (.cells #[v0, v1, v2, v3, v4, v5] T (0, 0))) (hP : P < B) (hb : Below B w0 x) :
    (x.cell? ⟨P, 0, none⟩ = some v0 ∧ x.cell? ⟨P, 1, none⟩ = some v1 ∧ x.cell? ⟨P, 2, none⟩ = some v2 ∧ x.cell? ⟨P, 3, none⟩ = some v3 ∧ x.cell? ⟨P, 4, none⟩ = some v4 ∧ x.cell? ⟨P, 5, none⟩ = some v5) ∧ Below B w0 x := ⟨cells6 ((hb.block P hP).trans h), hb⟩
theorem bel6 {w0 x : World} {B G : Nat} {v0 v1 v2 v3 v4 v5 : Value} (h : Below B w0 x) (hG : B ≤ G) : Below B w0 ((((((x.setCell ⟨G, 0, none⟩ v0).setCell ⟨G, 1, none⟩ v1).setCell ⟨G, 2, none⟩ v2).setCell ⟨G, 3, none⟩ v3).setCell ⟨G, 4, none⟩ v4).setCell ⟨G, 5, none⟩ v5) :=
  (((((h.setCell hG _).setCell hG _).setCell hG _).setCell hG _).setCell hG _).setCell hG _
theorem heap6 {x : World} {G : Nat} {T : TypeId} {u0 u1 u2 u3 u4 u5 v0 v1 v2 v3 v4 v5 : Value} (h : x.heap[G]? = some (.cells #[u0, u1, u2, u3, u4, u5] T (0, 0))) :
    ((((((x.setCell ⟨G, 0, none⟩ v0).setCell ⟨G, 1, none⟩ v1).setCell ⟨G, 2, none⟩ v2).setCell ⟨G, 3, none⟩ v3).setCell ⟨G, 4, none⟩ v4).setCell ⟨G, 5, none⟩ v5).heap[G]? = some (.cells #[v0, v1, v2, v3, v4, v5] T (0, 0)) := heap_set (heap_set (heap_set (heap_set (heap_set (heap_set h)))))
set_option maxHeartbeats 1000000 in
set_option maxRecDepth 20000 in
theorem copy_any (t : Int) (kh vh : Bool) (kd vd : ByteArray) (hs : List Hdr) (a : Option Addr) (cap : Nat) (w : World) (V : Hds w a hs) (hz : hs.length ≤ 1048576) :
    Calls Try.prog 8 #[.agg #[.int .i64 t, .bool kh, .string kd, .bool vh, .string vd, .slice a hs.length cap]] w fun e w' => (∃ a' cap', e = .returned (recV (cln ⟨t, kh, kd, vh, vd, hs⟩) a' cap') ∧ OwnH w' w.heap.size (.slice a' (cln ⟨t, kh, kd, vh, vd, hs⟩).hs.length cap') (cln ⟨t, kh, kd, vh, vd, hs⟩).hs) ∧ Below w.heap.size w w' := by
  have HVV := hid V
  have HZZ := hid hz
  clear V hz
  go_enter Try.func8, Try.ntmps8
  go_wp2_with fail
  have h1 : ((w.alloc (.cells #[.int .i64 t, .bool kh, .string kd, .bool vh, .string vd, .slice a hs.length cap] 26)).alloc (.cells #[.int .i64 0, .bool false, .string ⟨#[]⟩, .bool false, .string ⟨#[]⟩, .slice none 0 0] 26)).heap[w.heap.size]? = some (.cells #[.int .i64 t, .bool kh, .string kd, .bool vh, .string vd, .slice a hs.length cap] 26 (0, 0)) := heap_alloc_at (heap_new _ _)
  have h2 : ((w.alloc (.cells #[.int .i64 t, .bool kh, .string kd, .bool vh, .string vd, .slice a hs.length cap] 26)).alloc (.cells #[.int .i64 0, .bool false, .string ⟨#[]⟩, .bool false, .string ⟨#[]⟩, .slice none 0 0] 26)).heap[w.heap.size + 1]? = some (.cells #[.int .i64 0, .bool false, .string ⟨#[]⟩, .bool false, .string ⟨#[]⟩, .slice none 0 0] 26 (0, 0)) := heap_new' _ _ _ (by simp)
  have hb0 : Below w.heap.size w ((w.alloc (.cells #[.int .i64 t, .bool kh, .string kd, .bool vh, .string vd, .slice a hs.length cap] 26)).alloc (.cells #[.int .i64 0, .bool false, .string ⟨#[]⟩, .bool false, .string ⟨#[]⟩, .slice none 0 0] 26)) := ((Below.refl _ w).alloc (Nat.le_refl _) _).alloc (by simp) _
  have hs1 : ((w.alloc (.cells #[.int .i64 t, .bool kh, .string kd, .bool vh, .string vd, .slice a hs.length cap] 26)).alloc (.cells #[.int .i64 0, .bool false, .string ⟨#[]⟩, .bool false, .string ⟨#[]⟩, .slice none 0 0] 26)).heap.size = w.heap.size + 2 := by simp
  generalize ((w.alloc (.cells #[.int .i64 t, .bool kh, .string kd, .bool vh, .string vd, .slice a hs.length cap] 26)).alloc (.cells #[.int .i64 0, .bool false, .string ⟨#[]⟩, .bool false, .string ⟨#[]⟩, .slice none 0 0] 26)) = W2 at *
  have hB : w.heap.size + 2 ≤ W2.heap.size := by omega
  have HB1 := hid hb0
  have h0 : Below (w.heap.size + 2) W2 W2 := Below.refl _ _
  have H1 := hid h1
  have H2 := hid h2
  have y1 : w.heap.size < w.heap.size + 2 := by omega
  have y2 : w.heap.size + 1 < w.heap.size + 2 := by omega
  clear h1 h2 hb0
  go_cut [3] (fun v wc => ∃ G, v = .pointer (some ⟨G, 0, none⟩) ∧ w.heap.size + 2 ≤ G ∧ wc.heap[G]? = some (.cells #[.int .i64 t, .bool kh, .string (bd kh kd), .bool vh, .string (bd vh vd), .slice none 0 0] 26 (0, 0)) ∧ Below (w.heap.size + 2) W2 wc)
  case first =>
    refine wp_region_held_drew (S := fun x => (x.cell? ⟨w.heap.size, 0, none⟩ = some (.int .i64 t) ∧ x.cell? ⟨w.heap.size, 1, none⟩ = some (.bool kh) ∧ x.cell? ⟨w.heap.size, 2, none⟩ = some (.string kd) ∧ x.cell? ⟨w.heap.size, 3, none⟩ = some (.bool vh) ∧ x.cell? ⟨w.heap.size, 4, none⟩ = some (.string vd) ∧ x.cell? ⟨w.heap.size, 5, none⟩ = some (.slice a hs.length cap)) ∧ Below (w.heap.size + 2) W2 x) (by kernel_rfl) (held6 H1.out y1 (Below.drew h0)) (fun hHeld => ?_)
    refine wpAnyH_take (i := 0) (oi := { dst := some 6, op := Op.fieldAddr 26 (Operand.tmp 1) 0, type := 0, pos := "record.go:120", after := #[], guard := none }) (v := ?_) rfl (by kernel_rfl) (by kernel_rfl) (by kernel_rfl) (fun _ _ _ h => h) (Or.inl ⟨by rfl, ?_⟩) (by assumption) ?_
    rotate_left
    · (intro z hSw; (try dsimp only at hSw); go_simp)
      all_goals with_reducible rfl
    try simp only [Act.put, List.setIfInBounds_toArray, List.set_cons_zero, List.set_cons_succ]
    refine wpAnyH_take (i := 1) (oi := { dst := some 7, op := Op.load 2 (Operand.tmp 6), type := 2, pos := "record.go:120", after := #[{ on := 0, ground := Ground.data }], guard := none }) (v := ?_) rfl (by kernel_rfl) (by kernel_rfl) (by kernel_rfl) (fun _ _ _ h => h) (Or.inl ⟨by rfl, ?_⟩) (by assumption) ?_
    rotate_left
    · (intro z hSw; (try dsimp only at hSw); go_simp)
      all_goals with_reducible rfl
    try simp only [Act.put, List.setIfInBounds_toArray, List.set_cons_zero, List.set_cons_succ]
    refine wpAnyH_take (i := 2) (oi := { dst := some 8, op := Op.fieldAddr 26 (Operand.tmp 1) 1, type := 0, pos := "record.go:120", after := #[], guard := none }) (v := ?_) rfl (by kernel_rfl) (by kernel_rfl) (by kernel_rfl) (fun _ _ _ h => h) (Or.inl ⟨by rfl, ?_⟩) (by assumption) ?_
    rotate_left
    · (intro z hSw; (try dsimp only at hSw); go_simp)
      all_goals with_reducible rfl
    try simp only [Act.put, List.setIfInBounds_toArray, List.set_cons_zero, List.set_cons_succ]
    refine wpAnyH_take (i := 3) (oi := { dst := some 9, op := Op.load 23 (Operand.tmp 8), type := 23, pos := "record.go:120", after := #[{ on := 2, ground := Ground.data }], guard := none }) (v := ?_) rfl (by kernel_rfl) (by kernel_rfl) (by kernel_rfl) (fun _ _ _ h => h) (Or.inl ⟨by rfl, ?_⟩) (by assumption) ?_
    rotate_left
    · (intro z hSw; (try dsimp only at hSw); go_simp)
      all_goals with_reducible rfl
    try simp only [Act.put, List.setIfInBounds_toArray, List.set_cons_zero, List.set_cons_succ]
    refine wpAnyH_take (i := 5) (oi := { dst := some 11, op := Op.fieldAddr 26 (Operand.tmp 1) 2, type := 0, pos := "record.go:120", after := #[], guard := none }) (v := ?_) rfl (by kernel_rfl) (by kernel_rfl) (by kernel_rfl) (fun _ _ _ h => h) (Or.inl ⟨by rfl, ?_⟩) (by assumption) ?_
    rotate_left
    · (intro z hSw; (try dsimp only at hSw); go_simp)
      all_goals with_reducible rfl
    try simp only [Act.put, List.setIfInBounds_toArray, List.set_cons_zero, List.set_cons_succ]
    refine wpAnyH_take (i := 6) (oi := { dst := some 12, op := Op.load 23 (Operand.tmp 11), type := 23, pos := "record.go:120", after := #[{ on := 5, ground := Ground.data }], guard := none }) (v := ?_) rfl (by kernel_rfl) (by kernel_rfl) (by kernel_rfl) (fun _ _ _ h => h) (Or.inl ⟨by rfl, ?_⟩) (by assumption) ?_
    rotate_left
    · (intro z hSw; (try dsimp only at hSw); go_simp)
      all_goals with_reducible rfl
    try simp only [Act.put, List.setIfInBounds_toArray, List.set_cons_zero, List.set_cons_succ]
    refine wpAnyH_ready (rs := [4, 9]) (by kernel_rfl) (by simp) ?_
    refine AllReadyH.cons (o := { dst := some 10, op := Op.call { callee := Callee.value (Operand.func 15), args := #[Operand.tmp 9], argTypes := #[23] }, type := 23, pos := "record.go:120", after := #[{ on := 3, ground := Ground.data }], guard := none }) rfl (fun K hK => ?_) (AllReadyH.cons (o := { dst := some 3, op := Op.alloc 26, type := 0, pos := "record.go:120", after := #[], guard := none }) rfl (fun K hK => ?_) AllReadyH.nil)
    · go_simp
      go_at_call 15
      refine (bare_any _ _ _).mono ?_
      rintro e z1 ⟨rfl, hb1⟩
      go_wp2_with fail
      refine hK.out _ _ (held6 H1.out y1 (bel_next hHeld.2 hB hb1)) (fun hHeld => ?_)
      clear hK K
      try simp only [Act.put, List.setIfInBounds_toArray, List.set_cons_zero, List.set_cons_succ]
      refine wpAnyH_ready (rs := [7, 9]) (by kernel_rfl) (by simp) ?_
      refine AllReadyH.cons (o := { dst := some 13, op := Op.call { callee := Callee.value (Operand.func 15), args := #[Operand.tmp 12], argTypes := #[23] }, type := 23, pos := "record.go:120", after := #[{ on := 6, ground := Ground.data }, { on := 4, ground := Ground.chain }], guard := none }) rfl (fun K hK => ?_) (AllReadyH.cons (o := { dst := some 3, op := Op.alloc 26, type := 0, pos := "record.go:120", after := #[], guard := none }) rfl (fun K hK => ?_) AllReadyH.nil)
      · go_simp
        go_at_call 15
        refine (bare_any _ _ _).mono ?_
        rintro e z2 ⟨rfl, hb2⟩
        go_wp2_with fail
        refine hK.out _ _ (held6 H1.out y1 (bel_next hHeld.2 hB hb2)) (fun hHeld => ?_)
        clear hK K
        try simp only [Act.put, List.setIfInBounds_toArray, List.set_cons_zero, List.set_cons_succ]
        refine wpAnyH_take (i := 8) (oi := { dst := some 14, op := Op.build 26 #[(0, Operand.tmp 7), (1, Operand.tmp 10), (2, Operand.tmp 13)], type := 26, pos := "record.go:120", after := #[{ on := 1, ground := Ground.data }, { on := 4, ground := Ground.data }, { on := 7, ground := Ground.data }], guard := none }) (v := ?_) rfl (by kernel_rfl) (by kernel_rfl) (by kernel_rfl) (fun _ _ _ h => h) (Or.inl ⟨by rfl, ?_⟩) (by assumption) ?_
        rotate_left
        · (intro z hSw; (try dsimp only at hSw); go_simp)
          all_goals with_reducible rfl
        try simp only [Act.put, List.setIfInBounds_toArray, List.set_cons_zero, List.set_cons_succ]
        refine wpAnyH_ready (rs := [9]) (by kernel_rfl) (by simp) ?_
        refine AllReadyH.cons (o := { dst := some 3, op := Op.alloc 26, type := 0, pos := "record.go:120", after := #[], guard := none }) rfl (fun K hK => ?_) AllReadyH.nil
        go_simp
        have hge : w.heap.size + 2 ≤ z2.heap.size := Nat.le_trans hB hHeld.2.size
        refine hK.out _ _ (held6 H1.out y1 (hHeld.2.alloc (Nat.le_trans hB hHeld.2.size) _)) (fun hHeld => ?_)
        have hg : (z2.alloc (.cells #[.int .i64 0, .bool false, .string ⟨#[]⟩, .bool false, .string ⟨#[]⟩, .slice none 0 0] 26)).heap[z2.heap.size]? = some (.cells #[.int .i64 0, .bool false, .string ⟨#[]⟩, .bool false, .string ⟨#[]⟩, .slice none 0 0] 26 (0, 0)) := heap_new _ _
        clear hK K
        generalize z2.heap.size = G at hge hg ⊢
        generalize (z2.alloc (.cells #[.int .i64 0, .bool false, .string ⟨#[]⟩, .bool false, .string ⟨#[]⟩, .slice none 0 0] 26)) = zA at *
        try simp only [Act.put, List.setIfInBounds_toArray, List.set_cons_zero, List.set_cons_succ]
        refine wpAnyH_ready (rs := [10]) (by kernel_rfl) (by simp) ?_
        refine AllReadyH.cons (o := { dst := none, op := Op.store 26 (Operand.tmp 3) (Operand.tmp 14), type := 0, pos := "record.go:120", after := #[{ on := 9, ground := Ground.data }, { on := 8, ground := Ground.data }, { on := 7, ground := Ground.chain }, { on := 0, ground := Ground.phase }, { on := 1, ground := Ground.phase }, { on := 2, ground := Ground.phase }, { on := 3, ground := Ground.phase }, { on := 4, ground := Ground.phase }, { on := 5, ground := Ground.phase }, { on := 6, ground := Ground.phase }, { on := 7, ground := Ground.phase }, { on := 8, ground := Ground.phase }, { on := 9, ground := Ground.phase }], guard := none }) rfl (fun K hK => ?_) AllReadyH.nil
        obtain ⟨m0, m1, m2, m3, m4, m5⟩ := cells6 hg
        have fz := fun o => froz_of (i := o) hg
        go_simp
        refine hK.out _ _ (held6 H1.out y1 (bel6 hHeld.2 hge)) (fun hHeld => ?_)
        have hg6 := heap6 hg (v0 := .int .i64 t) (v1 := .bool kh) (v2 := .string (bd kh kd)) (v3 := .bool vh) (v4 := .string (bd vh vd)) (v5 := .slice none 0 0)
        clear hK K m0 m1 m2 m3 m4 m5 fz hg
        try simp only [Act.put, List.setIfInBounds_toArray, List.set_cons_zero, List.set_cons_succ]
        refine wpAnyH_done (by kernel_rfl) ?_ _
        go_wp2
        go_meet
        case rel => exact ⟨G, rfl, hge, hg6, hHeld.2⟩
      · go_simp
        have hge : w.heap.size + 2 ≤ z1.heap.size := Nat.le_trans hB hHeld.2.size
        refine hK.out _ _ (held6 H1.out y1 (hHeld.2.alloc (Nat.le_trans hB hHeld.2.size) _)) (fun hHeld => ?_)
        have hg : (z1.alloc (.cells #[.int .i64 0, .bool false, .string ⟨#[]⟩, .bool false, .string ⟨#[]⟩, .slice none 0 0] 26)).heap[z1.heap.size]? = some (.cells #[.int .i64 0, .bool false, .string ⟨#[]⟩, .bool false, .string ⟨#[]⟩, .slice none 0 0] 26 (0, 0)) := heap_new _ _
        clear hK K
        generalize z1.heap.size = G at hge hg ⊢
        generalize (z1.alloc (.cells #[.int .i64 0, .bool false, .string ⟨#[]⟩, .bool false, .string ⟨#[]⟩, .slice none 0 0] 26)) = zA at *
        try simp only [Act.put, List.setIfInBounds_toArray, List.set_cons_zero, List.set_cons_succ]
        refine wpAnyH_ready (rs := [7]) (by kernel_rfl) (by simp) ?_
        refine AllReadyH.cons (o := { dst := some 13, op := Op.call { callee := Callee.value (Operand.func 15), args := #[Operand.tmp 12], argTypes := #[23] }, type := 23, pos := "record.go:120", after := #[{ on := 6, ground := Ground.data }, { on := 4, ground := Ground.chain }], guard := none }) rfl (fun K hK => ?_) AllReadyH.nil
        go_simp
        go_at_call 15
        refine (bare_any _ _ _).mono ?_
        rintro e z2 ⟨rfl, hb2⟩
        go_wp2_with fail
        refine hK.out _ _ (held6 H1.out y1 (bel_next hHeld.2 hB hb2)) (fun hHeld => ?_)
        clear hK K
        try simp only [Act.put, List.setIfInBounds_toArray, List.set_cons_zero, List.set_cons_succ]
        have hg := (hb2.block G (lt_of_heap hg)).trans hg
        refine wpAnyH_take (i := 8) (oi := { dst := some 14, op := Op.build 26 #[(0, Operand.tmp 7), (1, Operand.tmp 10), (2, Operand.tmp 13)], type := 26, pos := "record.go:120", after := #[{ on := 1, ground := Ground.data }, { on := 4, ground := Ground.data }, { on := 7, ground := Ground.data }], guard := none }) (v := ?_) rfl (by kernel_rfl) (by kernel_rfl) (by kernel_rfl) (fun _ _ _ h => h) (Or.inl ⟨by rfl, ?_⟩) (by assumption) ?_
        rotate_left
        · (intro z hSw; (try dsimp only at hSw); go_simp)
          all_goals with_reducible rfl
        try simp only [Act.put, List.setIfInBounds_toArray, List.set_cons_zero, List.set_cons_succ]
        refine wpAnyH_ready (rs := [10]) (by kernel_rfl) (by simp) ?_
        refine AllReadyH.cons (o := { dst := none, op := Op.store 26 (Operand.tmp 3) (Operand.tmp 14), type := 0, pos := "record.go:120", after := #[{ on := 9, ground := Ground.data }, { on := 8, ground := Ground.data }, { on := 7, ground := Ground.chain }, { on := 0, ground := Ground.phase }, { on := 1, ground := Ground.phase }, { on := 2, ground := Ground.phase }, { on := 3, ground := Ground.phase }, { on := 4, ground := Ground.phase }, { on := 5, ground := Ground.phase }, { on := 6, ground := Ground.phase }, { on := 7, ground := Ground.phase }, { on := 8, ground := Ground.phase }, { on := 9, ground := Ground.phase }], guard := none }) rfl (fun K hK => ?_) AllReadyH.nil
        obtain ⟨m0, m1, m2, m3, m4, m5⟩ := cells6 hg
        have fz := fun o => froz_of (i := o) hg
        go_simp
        refine hK.out _ _ (held6 H1.out y1 (bel6 hHeld.2 hge)) (fun hHeld => ?_)
        have hg6 := heap6 hg (v0 := .int .i64 t) (v1 := .bool kh) (v2 := .string (bd kh kd)) (v3 := .bool vh) (v4 := .string (bd vh vd)) (v5 := .slice none 0 0)
        clear hK K m0 m1 m2 m3 m4 m5 fz hg
        try simp only [Act.put, List.setIfInBounds_toArray, List.set_cons_zero, List.set_cons_succ]
        refine wpAnyH_done (by kernel_rfl) ?_ _
        go_wp2
        go_meet
        case rel => exact ⟨G, rfl, hge, hg6, hHeld.2⟩
    · go_simp
      have hge : w.heap.size + 2 ≤ w.heap.size + 2 := Nat.le_refl _
      refine hK.out _ _ (held6 H1.out y1 (hHeld.2.alloc (Nat.le_trans hB hHeld.2.size) _)) (fun hHeld => ?_)
      have hg : (W2.alloc (.cells #[.int .i64 0, .bool false, .string ⟨#[]⟩, .bool false, .string ⟨#[]⟩, .slice none 0 0] 26)).drew.heap[w.heap.size + 2]? = some (.cells #[.int .i64 0, .bool false, .string ⟨#[]⟩, .bool false, .string ⟨#[]⟩, .slice none 0 0] 26 (0, 0)) := heap_new' W2 _ _ hs1
      clear hK K
      generalize (W2.alloc (.cells #[.int .i64 0, .bool false, .string ⟨#[]⟩, .bool false, .string ⟨#[]⟩, .slice none 0 0] 26)).drew = zA at *
      try simp only [Act.put, List.setIfInBounds_toArray, List.set_cons_zero, List.set_cons_succ]
      refine wpAnyH_ready (rs := [4]) (by kernel_rfl) (by simp) ?_
      refine AllReadyH.cons (o := { dst := some 10, op := Op.call { callee := Callee.value (Operand.func 15), args := #[Operand.tmp 9], argTypes := #[23] }, type := 23, pos := "record.go:120", after := #[{ on := 3, ground := Ground.data }], guard := none }) rfl (fun K hK => ?_) AllReadyH.nil
      go_simp
      go_at_call 15
      refine (bare_any _ _ _).mono ?_
      rintro e z1 ⟨rfl, hb1⟩
      go_wp2_with fail
      refine hK.out _ _ (held6 H1.out y1 (bel_next hHeld.2 hB hb1)) (fun hHeld => ?_)
      clear hK K
      try simp only [Act.put, List.setIfInBounds_toArray, List.set_cons_zero, List.set_cons_succ]
      have hg := (hb1.block (w.heap.size + 2) (lt_of_heap hg)).trans hg
      refine wpAnyH_ready (rs := [7]) (by kernel_rfl) (by simp) ?_
      refine AllReadyH.cons (o := { dst := some 13, op := Op.call { callee := Callee.value (Operand.func 15), args := #[Operand.tmp 12], argTypes := #[23] }, type := 23, pos := "record.go:120", after := #[{ on := 6, ground := Ground.data }, { on := 4, ground := Ground.chain }], guard := none }) rfl (fun K hK => ?_) AllReadyH.nil
      go_simp
      go_at_call 15
      refine (bare_any _ _ _).mono ?_
      rintro e z2 ⟨rfl, hb2⟩
      go_wp2_with fail
      refine hK.out _ _ (held6 H1.out y1 (bel_next hHeld.2 hB hb2)) (fun hHeld => ?_)
      clear hK K
      try simp only [Act.put, List.setIfInBounds_toArray, List.set_cons_zero, List.set_cons_succ]
      have hg := (hb2.block (w.heap.size + 2) (lt_of_heap hg)).trans hg
      refine wpAnyH_take (i := 8) (oi := { dst := some 14, op := Op.build 26 #[(0, Operand.tmp 7), (1, Operand.tmp 10), (2, Operand.tmp 13)], type := 26, pos := "record.go:120", after := #[{ on := 1, ground := Ground.data }, { on := 4, ground := Ground.data }, { on := 7, ground := Ground.data }], guard := none }) (v := ?_) rfl (by kernel_rfl) (by kernel_rfl) (by kernel_rfl) (fun _ _ _ h => h) (Or.inl ⟨by rfl, ?_⟩) (by assumption) ?_
      rotate_left
      · (intro z hSw; (try dsimp only at hSw); go_simp)
        all_goals with_reducible rfl
      try simp only [Act.put, List.setIfInBounds_toArray, List.set_cons_zero, List.set_cons_succ]
      refine wpAnyH_ready (rs := [10]) (by kernel_rfl) (by simp) ?_
      refine AllReadyH.cons (o := { dst := none, op := Op.store 26 (Operand.tmp 3) (Operand.tmp 14), type := 0, pos := "record.go:120", after := #[{ on := 9, ground := Ground.data }, { on := 8, ground := Ground.data }, { on := 7, ground := Ground.chain }, { on := 0, ground := Ground.phase }, { on := 1, ground := Ground.phase }, { on := 2, ground := Ground.phase }, { on := 3, ground := Ground.phase }, { on := 4, ground := Ground.phase }, { on := 5, ground := Ground.phase }, { on := 6, ground := Ground.phase }, { on := 7, ground := Ground.phase }, { on := 8, ground := Ground.phase }, { on := 9, ground := Ground.phase }], guard := none }) rfl (fun K hK => ?_) AllReadyH.nil
      obtain ⟨m0, m1, m2, m3, m4, m5⟩ := cells6 hg
      have fz := fun o => froz_of (i := o) hg
      go_simp
      refine hK.out _ _ (held6 H1.out y1 (bel6 hHeld.2 hge)) (fun hHeld => ?_)
      have hg6 := heap6 hg (v0 := .int .i64 t) (v1 := .bool kh) (v2 := .string (bd kh kd)) (v3 := .bool vh) (v4 := .string (bd vh vd)) (v5 := .slice none 0 0)
      clear hK K m0 m1 m2 m3 m4 m5 fz hg
      try simp only [Act.put, List.setIfInBounds_toArray, List.set_cons_zero, List.set_cons_succ]
      refine wpAnyH_done (by kernel_rfl) ?_ _
      go_wp2
      go_meet
      case rel => exact ⟨w.heap.size + 2, rfl, hge, hg6, hHeld.2⟩
  case rest =>
    obtain ⟨G, rfl, hge, hg, hb⟩ := hcut
    have HGE := hid hge
    have HBZ := hid hB
    have HI : Hid (CpI (w.heap.size + 2) W2 wc G ⟨t, kh, bd kh kd, vh, bd vh vd, []⟩ (.slice none 0 0) []) := ⟨hg, ownH_nil _ _, hb, hB⟩
    have c5 : wc.cell? ⟨w.heap.size, 5, none⟩ = some (.slice a hs.length cap) := (cells6 ((hb.block w.heap.size y1).trans H1.out)).2.2.2.2.2
    clear hge hg hb hB h0 hs1
    go_wp2_with fail
    go_loopg [18] hs.length (fun k i wr => ∃ (j : Nat) (l : List Hdr) (a' : Option Addr) (cap' : Nat), j + k = hs.length ∧ i = .int .i64 j ∧ l = (hs.map fun x => (x.1, x.2.1, bd x.2.1 x.2.2)).take j ∧ Hid (CpI (w.heap.size + 2) W2 wr G ⟨t, kh, bd kh kd, vh, bd vh vd, []⟩ (.slice a' j cap') l))
    case atStart => exact ⟨0, [], none, 0, by omega, rfl, by simp, HI⟩
    case round =>
      clear HI c5
      obtain ⟨j, l, a', cap', hk, rfl, hl, HI⟩ := hrel
      have hlj : l.length = j := by rw [hl, List.length_take, List.length_map]; omega
      have HLL := hid hl
      have HLJ := hid hlj
      have HKK := hid hk
      clear hl hlj hk
      by_cases hlt : j < hs.length
      · obtain ⟨k, rfl⟩ : ∃ k, gk = k + 1 := ⟨gk - 1, by have := HKK.out; omega⟩
        obtain ⟨i0, hi, hz0, hz1, hz2⟩ := info_parts Try.infoHdr
        rcases HVV.out with h | ⟨b, off, rfl, hbl, hc⟩
        · rw [h] at hlt; simp at hlt
        obtain ⟨q0, q1, q2⟩ := hc j hlt
        have hcw : ∀ o, wr.cell? ⟨b, o, none⟩ = w.cell? ⟨b, o, none⟩ := fun o => (HI.out.bel.cell (p := ⟨b, o, none⟩) (by show b < _; omega)).trans (HB1.out.cell (p := ⟨b, o, none⟩) hbl)
        obtain ⟨x, hx⟩ : ∃ x, hs.getD j df = x := ⟨_, rfl⟩
        rw [hx] at q0 q1 q2
        obtain ⟨xk, xh, xd⟩ := x
        dsimp only at q0 q1 q2
        have l0 := (hcw _).trans q0
        have l1 := (hcw _).trans q1
        have l2 := (hcw _).trans q2
        have HX := hid hx
        have HJL := hid hlt
        have i1 : (0 : Int) ≤ (j : Int) := by omega
        have i2 : (j : Int) < hs.length := by omega
        have hh0 : (wr.alloc (.cells #[.string xk, .bool xh, .string xd] 33)).drew.heap[wr.heap.size]? = some (.cells #[.string xk, .bool xh, .string xd] 33 (0, 0)) := heap_new _ _
        have HI0 : Hid (CpI (w.heap.size + 2) W2 (wr.alloc (.cells #[.string xk, .bool xh, .string xd] 33)).drew G ⟨t, kh, bd kh kd, vh, bd vh vd, []⟩ (.slice a' j cap') l) := HI.out.next (((Below.refl _ _).alloc (Nat.le_refl _) _).drew)
        have HVL : Hid ((Value.slice a' j cap').ownBlock ≠ some wr.heap.size) := fun e => Nat.lt_irrefl _ (World.ownsRow.lt HI.out.own _ e).2
        have HGL : Hid (wr.heap.size ≠ G) := fun e => Nat.lt_irrefl G (Nat.lt_of_lt_of_eq (lt_of_heap HI.out.blk) e)
        clear hcw q0 q1 q2 hc hx
        go_wp2_with fail
        refine wp_region_held_drew (S := fun z => z.cell? ⟨wr.heap.size, 0, none⟩ = some (.string xk) ∧ z.cell? ⟨wr.heap.size, 1, none⟩ = some (.bool xh) ∧ z.cell? ⟨wr.heap.size, 2, none⟩ = some (.string xd)) (by kernel_rfl) (cells3 hh0) (fun hHeld => ?_)
        generalize (wr.alloc (.cells #[.string xk, .bool xh, .string xd] 33)).drew = z0 at *
        refine wpAnyH_take (i := 0) (oi := { dst := some 22, op := Op.fieldAddr 26 (Operand.tmp 3) 3, type := 0, pos := "record.go:122", after := #[], guard := none }) (v := ?_) rfl (by kernel_rfl) (by kernel_rfl) (by kernel_rfl) (fun _ _ _ h => h) (Or.inl ⟨by rfl, ?_⟩) (by assumption) ?_
        rotate_left
        · (intro z hSw; (try dsimp only at hSw); go_simp)
          all_goals with_reducible rfl
        try simp only [Act.put, List.setIfInBounds_toArray, List.set_cons_zero, List.set_cons_succ]
        refine wpAnyH_take (i := 2) (oi := { dst := some 24, op := Op.load 33 (Operand.tmp 5), type := 33, pos := "record.go:122", after := #[], guard := none }) (v := ?_) rfl (by kernel_rfl) (by kernel_rfl) (by kernel_rfl) (fun _ _ _ h => h) (Or.inl ⟨by rfl, ?_⟩) (by assumption) ?_
        rotate_left
        · (intro z hSw; (try dsimp only at hSw); go_simp)
          all_goals with_reducible rfl
        try simp only [Act.put, List.setIfInBounds_toArray, List.set_cons_zero, List.set_cons_succ]
        refine wpAnyH_ready (rs := [1, 3]) (by kernel_rfl) (by simp) ?_
        refine AllReadyH.cons (o := { dst := some 23, op := Op.load 24 (Operand.tmp 22), type := 24, pos := "record.go:122", after := #[{ on := 0, ground := Ground.data }], guard := none }) rfl (fun K hK => ?_) (AllReadyH.cons (o := { dst := some 25, op := Op.call { callee := Callee.value (Operand.func 16), args := #[Operand.tmp 24], argTypes := #[33] }, type := 33, pos := "record.go:122", after := #[{ on := 2, ground := Ground.data }], guard := none }) rfl (fun K hK => ?_) AllReadyH.nil)
        · have m5 := (cells6 HI0.out.blk).2.2.2.2.2
          go_simp
          refine hK.out _ _ (cells3 hh0) (fun hHeld => ?_)
          clear hK K m5
          try simp only [Act.put, List.setIfInBounds_toArray, List.set_cons_zero, List.set_cons_succ]
          refine wpAnyH_ready (rs := [3]) (by kernel_rfl) (by simp) ?_
          refine AllReadyH.cons (o := { dst := some 25, op := Op.call { callee := Callee.value (Operand.func 16), args := #[Operand.tmp 24], argTypes := #[33] }, type := 33, pos := "record.go:122", after := #[{ on := 2, ground := Ground.data }], guard := none }) rfl (fun K hK => ?_) AllReadyH.nil
          go_simp
          go_at_call 16
          refine (bareh_any _ _ _ _).mono ?_
          rintro e z1 ⟨rfl, hb1⟩
          go_wp2_with fail
          have hh1 := (hb1.block _ (lt_of_heap hh0)).trans hh0
          have HI1 := hid (HI0.out.next hb1)
          refine hK.out _ _ (cells3 hh1) (fun hHeld => ?_)
          clear hK K
          try simp only [Act.put, List.setIfInBounds_toArray, List.set_cons_zero, List.set_cons_succ]
          refine wpAnyH_ready (rs := [4]) (by kernel_rfl) (by simp) ?_
          refine AllReadyH.cons (o := { dst := some 26, op := Op.buildSlice 24 1 #[(0, Operand.tmp 25)], type := 24, pos := "record.go:122", after := #[{ on := 3, ground := Ground.data }], guard := none }) rfl (fun K hK => ?_) AllReadyH.nil
          go_simp
          have hb2 : Below z1.heap.size z1 (z1.alloc (.cells #[.string xk, .bool xh, .string (bd xh xd)] 33)) := (Below.refl _ _).alloc (Nat.le_refl _) _
          have hn : (z1.alloc (.cells #[.string xk, .bool xh, .string (bd xh xd)] 33)).heap[z1.heap.size]? = some (.cells #[.string xk, .bool xh, .string (bd xh xd)] 33 (0, 0)) := heap_new _ _
          have hh2 := (hb2.block _ (lt_of_heap hh1)).trans hh1
          have HI2 := hid (HI1.out.next hb2)
          refine hK.out _ _ (cells3 hh2) (fun hHeld => ?_)
          clear hK K
          generalize (z1.alloc (.cells #[.string xk, .bool xh, .string (bd xh xd)] 33)) = z2 at *
          try simp only [Act.put, List.setIfInBounds_toArray, List.set_cons_zero, List.set_cons_succ]
          refine wpAnyH_ready (rs := [5]) (by kernel_rfl) (by simp) ?_
          refine AllReadyH.cons (o := { dst := some 27, op := Op.call { callee := Callee.builtin Builtin.append, args := #[Operand.tmp 23, Operand.tmp 26], argTypes := #[24, 24] }, type := 24, pos := "record.go:122", after := #[{ on := 1, ground := Ground.data }, { on := 4, ground := Ground.data }, { on := 3, ground := Ground.chain }], guard := none }) rfl (fun K hK => ?_) AllReadyH.nil
          refine step_append_lies _ rfl (.tmp 23) (.tmp 26) 24 rfl (w.heap.size + 2) 33 i0 (.agg #[.string ⟨#[]⟩, .bool false, .string ⟨#[]⟩]) 3 40 Try.underHdrs hi hz0 hz1 hz2 rfl (by decide) (.slice a' j cap') j (hcs l) rfl (HLJ.out ▸ HI2.out.own) ⟨z1.heap.size, 0, none⟩ 1 1 [.string xk, .bool xh, .string (bd xh xd)] rfl rfl (World.news_of_block hn) (hcs_one [(xk, xh, bd xh xd)]) (by decide) (by have := HZZ.out; unfold maxLen; omega) (by have := HZZ.out; omega) (Nat.le_trans HI2.out.hB HI2.out.bel.size) _ rfl ?_
          intro g cap2 z9 hown hgr hat hlt9
          have hh9 := (hgr.block wr.heap.size (lt_of_heap hh2) (fun e => HVL.out e.symm)).trans hh2
          have HO9 := hid (HI2.out.grown (r := (xk, xh, bd xh xd)) hown hgr)
          refine hK.out _ _ (cells3 hh9) (fun hHeld => ?_)
          clear hK K hown hgr hat
          try simp only [Act.put, List.setIfInBounds_toArray, List.set_cons_zero, List.set_cons_succ]
          refine wpAnyH_take (i := 6) (oi := { dst := some 28, op := Op.fieldAddr 26 (Operand.tmp 3) 3, type := 0, pos := "record.go:122", after := #[{ on := 0, ground := Ground.phase }, { on := 1, ground := Ground.phase }, { on := 2, ground := Ground.phase }, { on := 3, ground := Ground.phase }, { on := 4, ground := Ground.phase }, { on := 5, ground := Ground.phase }], guard := none }) (v := ?_) rfl (by kernel_rfl) (by kernel_rfl) (by kernel_rfl) (fun _ _ _ h => h) (Or.inl ⟨by rfl, ?_⟩) (by assumption) ?_
          rotate_left
          · (intro z hSw; (try dsimp only at hSw); go_simp)
            all_goals with_reducible rfl
          try simp only [Act.put, List.setIfInBounds_toArray, List.set_cons_zero, List.set_cons_succ]
          refine wpAnyH_ready (rs := [7]) (by kernel_rfl) (by simp) ?_
          refine AllReadyH.cons (o := { dst := none, op := Op.store 24 (Operand.tmp 28) (Operand.tmp 27), type := 0, pos := "record.go:122", after := #[{ on := 6, ground := Ground.data }, { on := 5, ground := Ground.data }, { on := 5, ground := Ground.chain }, { on := 0, ground := Ground.phase }, { on := 1, ground := Ground.phase }, { on := 2, ground := Ground.phase }, { on := 3, ground := Ground.phase }, { on := 4, ground := Ground.phase }, { on := 5, ground := Ground.phase }], guard := none }) rfl (fun K hK => ?_) AllReadyH.nil
          have m5 := (cells6 HO9.out.1).2.2.2.2.2
          have f5 := froz_of (i := 5) HO9.out.1
          go_simp
          have hhA : (z9.setCell ⟨G, 5, none⟩ (.slice (some ⟨g, 0, none⟩) (j + 1) cap2)).heap[wr.heap.size]? = _ := heap_set_far hh9 (fun e => HGL.out e)
          refine hK.out _ _ (cells3 hhA) (fun hHeld => ?_)
          clear hK K m5 f5
          try simp only [Act.put, List.setIfInBounds_toArray, List.set_cons_zero, List.set_cons_succ]
          refine wpAnyH_done (by kernel_rfl) ?_ _
          have HIA := hid (CpI.put HO9.out HLJ.out HGE.out HBZ.out)
          go_wp2
          go_roundg k
          case measure => omega
          case rel => have hz := HZZ.out; have ew : wrap64 ((j : Int) + 1) = ((j + 1 : Nat) : Int) := by { unfold wrap64; omega }; exact ⟨j + 1, l ++ [(xk, xh, bd xh xd)], some ⟨g, 0, none⟩, cap2, by have := HKK.out; omega, congrArg (Value.int .i64) ew, take_map HLL.out HJL.out HX.out, HIA⟩
        · go_simp
          go_at_call 16
          refine (bareh_any _ _ _ _).mono ?_
          rintro e z1 ⟨rfl, hb1⟩
          go_wp2_with fail
          have hh1 := (hb1.block _ (lt_of_heap hh0)).trans hh0
          have HI1 := hid (HI0.out.next hb1)
          refine hK.out _ _ (cells3 hh1) (fun hHeld => ?_)
          clear hK K
          try simp only [Act.put, List.setIfInBounds_toArray, List.set_cons_zero, List.set_cons_succ]
          refine wpAnyH_ready (rs := [1, 4]) (by kernel_rfl) (by simp) ?_
          refine AllReadyH.cons (o := { dst := some 23, op := Op.load 24 (Operand.tmp 22), type := 24, pos := "record.go:122", after := #[{ on := 0, ground := Ground.data }], guard := none }) rfl (fun K hK => ?_) (AllReadyH.cons (o := { dst := some 26, op := Op.buildSlice 24 1 #[(0, Operand.tmp 25)], type := 24, pos := "record.go:122", after := #[{ on := 3, ground := Ground.data }], guard := none }) rfl (fun K hK => ?_) AllReadyH.nil)
          · have m5 := (cells6 HI1.out.blk).2.2.2.2.2
            go_simp
            refine hK.out _ _ (cells3 hh1) (fun hHeld => ?_)
            clear hK K m5
            try simp only [Act.put, List.setIfInBounds_toArray, List.set_cons_zero, List.set_cons_succ]
            refine wpAnyH_ready (rs := [4]) (by kernel_rfl) (by simp) ?_
            refine AllReadyH.cons (o := { dst := some 26, op := Op.buildSlice 24 1 #[(0, Operand.tmp 25)], type := 24, pos := "record.go:122", after := #[{ on := 3, ground := Ground.data }], guard := none }) rfl (fun K hK => ?_) AllReadyH.nil
            go_simp
            have hb2 : Below z1.heap.size z1 (z1.alloc (.cells #[.string xk, .bool xh, .string (bd xh xd)] 33)) := (Below.refl _ _).alloc (Nat.le_refl _) _
            have hn : (z1.alloc (.cells #[.string xk, .bool xh, .string (bd xh xd)] 33)).heap[z1.heap.size]? = some (.cells #[.string xk, .bool xh, .string (bd xh xd)] 33 (0, 0)) := heap_new _ _
            have hh2 := (hb2.block _ (lt_of_heap hh1)).trans hh1
            have HI2 := hid (HI1.out.next hb2)
            refine hK.out _ _ (cells3 hh2) (fun hHeld => ?_)
            clear hK K
            generalize (z1.alloc (.cells #[.string xk, .bool xh, .string (bd xh xd)] 33)) = z2 at *
            try simp only [Act.put, List.setIfInBounds_toArray, List.set_cons_zero, List.set_cons_succ]
            refine wpAnyH_ready (rs := [5]) (by kernel_rfl) (by simp) ?_
            refine AllReadyH.cons (o := { dst := some 27, op := Op.call { callee := Callee.builtin Builtin.append, args := #[Operand.tmp 23, Operand.tmp 26], argTypes := #[24, 24] }, type := 24, pos := "record.go:122", after := #[{ on := 1, ground := Ground.data }, { on := 4, ground := Ground.data }, { on := 3, ground := Ground.chain }], guard := none }) rfl (fun K hK => ?_) AllReadyH.nil
            refine step_append_lies _ rfl (.tmp 23) (.tmp 26) 24 rfl (w.heap.size + 2) 33 i0 (.agg #[.string ⟨#[]⟩, .bool false, .string ⟨#[]⟩]) 3 40 Try.underHdrs hi hz0 hz1 hz2 rfl (by decide) (.slice a' j cap') j (hcs l) rfl (HLJ.out ▸ HI2.out.own) ⟨z1.heap.size, 0, none⟩ 1 1 [.string xk, .bool xh, .string (bd xh xd)] rfl rfl (World.news_of_block hn) (hcs_one [(xk, xh, bd xh xd)]) (by decide) (by have := HZZ.out; unfold maxLen; omega) (by have := HZZ.out; omega) (Nat.le_trans HI2.out.hB HI2.out.bel.size) _ rfl ?_
            intro g cap2 z9 hown hgr hat hlt9
            have hh9 := (hgr.block wr.heap.size (lt_of_heap hh2) (fun e => HVL.out e.symm)).trans hh2
            have HO9 := hid (HI2.out.grown (r := (xk, xh, bd xh xd)) hown hgr)
            refine hK.out _ _ (cells3 hh9) (fun hHeld => ?_)
            clear hK K hown hgr hat
            try simp only [Act.put, List.setIfInBounds_toArray, List.set_cons_zero, List.set_cons_succ]
            refine wpAnyH_take (i := 6) (oi := { dst := some 28, op := Op.fieldAddr 26 (Operand.tmp 3) 3, type := 0, pos := "record.go:122", after := #[{ on := 0, ground := Ground.phase }, { on := 1, ground := Ground.phase }, { on := 2, ground := Ground.phase }, { on := 3, ground := Ground.phase }, { on := 4, ground := Ground.phase }, { on := 5, ground := Ground.phase }], guard := none }) (v := ?_) rfl (by kernel_rfl) (by kernel_rfl) (by kernel_rfl) (fun _ _ _ h => h) (Or.inl ⟨by rfl, ?_⟩) (by assumption) ?_
            rotate_left
            · (intro z hSw; (try dsimp only at hSw); go_simp)
              all_goals with_reducible rfl
            try simp only [Act.put, List.setIfInBounds_toArray, List.set_cons_zero, List.set_cons_succ]
            refine wpAnyH_ready (rs := [7]) (by kernel_rfl) (by simp) ?_
            refine AllReadyH.cons (o := { dst := none, op := Op.store 24 (Operand.tmp 28) (Operand.tmp 27), type := 0, pos := "record.go:122", after := #[{ on := 6, ground := Ground.data }, { on := 5, ground := Ground.data }, { on := 5, ground := Ground.chain }, { on := 0, ground := Ground.phase }, { on := 1, ground := Ground.phase }, { on := 2, ground := Ground.phase }, { on := 3, ground := Ground.phase }, { on := 4, ground := Ground.phase }, { on := 5, ground := Ground.phase }], guard := none }) rfl (fun K hK => ?_) AllReadyH.nil
            have m5 := (cells6 HO9.out.1).2.2.2.2.2
            have f5 := froz_of (i := 5) HO9.out.1
            go_simp
            have hhA : (z9.setCell ⟨G, 5, none⟩ (.slice (some ⟨g, 0, none⟩) (j + 1) cap2)).heap[wr.heap.size]? = _ := heap_set_far hh9 (fun e => HGL.out e)
            refine hK.out _ _ (cells3 hhA) (fun hHeld => ?_)
            clear hK K m5 f5
            try simp only [Act.put, List.setIfInBounds_toArray, List.set_cons_zero, List.set_cons_succ]
            refine wpAnyH_done (by kernel_rfl) ?_ _
            have HIA := hid (CpI.put HO9.out HLJ.out HGE.out HBZ.out)
            go_wp2
            go_roundg k
            case measure => omega
            case rel => have hz := HZZ.out; have ew : wrap64 ((j : Int) + 1) = ((j + 1 : Nat) : Int) := by { unfold wrap64; omega }; exact ⟨j + 1, l ++ [(xk, xh, bd xh xd)], some ⟨g, 0, none⟩, cap2, by have := HKK.out; omega, congrArg (Value.int .i64) ew, take_map HLL.out HJL.out HX.out, HIA⟩
          · go_simp
            have hb2 : Below z1.heap.size z1 (z1.alloc (.cells #[.string xk, .bool xh, .string (bd xh xd)] 33)) := (Below.refl _ _).alloc (Nat.le_refl _) _
            have hn : (z1.alloc (.cells #[.string xk, .bool xh, .string (bd xh xd)] 33)).heap[z1.heap.size]? = some (.cells #[.string xk, .bool xh, .string (bd xh xd)] 33 (0, 0)) := heap_new _ _
            have hh2 := (hb2.block _ (lt_of_heap hh1)).trans hh1
            have HI2 := hid (HI1.out.next hb2)
            refine hK.out _ _ (cells3 hh2) (fun hHeld => ?_)
            clear hK K
            generalize (z1.alloc (.cells #[.string xk, .bool xh, .string (bd xh xd)] 33)) = z2 at *
            try simp only [Act.put, List.setIfInBounds_toArray, List.set_cons_zero, List.set_cons_succ]
            refine wpAnyH_ready (rs := [1]) (by kernel_rfl) (by simp) ?_
            refine AllReadyH.cons (o := { dst := some 23, op := Op.load 24 (Operand.tmp 22), type := 24, pos := "record.go:122", after := #[{ on := 0, ground := Ground.data }], guard := none }) rfl (fun K hK => ?_) AllReadyH.nil
            have m5 := (cells6 HI2.out.blk).2.2.2.2.2
            go_simp
            refine hK.out _ _ (cells3 hh2) (fun hHeld => ?_)
            clear hK K m5
            try simp only [Act.put, List.setIfInBounds_toArray, List.set_cons_zero, List.set_cons_succ]
            refine wpAnyH_ready (rs := [5]) (by kernel_rfl) (by simp) ?_
            refine AllReadyH.cons (o := { dst := some 27, op := Op.call { callee := Callee.builtin Builtin.append, args := #[Operand.tmp 23, Operand.tmp 26], argTypes := #[24, 24] }, type := 24, pos := "record.go:122", after := #[{ on := 1, ground := Ground.data }, { on := 4, ground := Ground.data }, { on := 3, ground := Ground.chain }], guard := none }) rfl (fun K hK => ?_) AllReadyH.nil
            refine step_append_lies _ rfl (.tmp 23) (.tmp 26) 24 rfl (w.heap.size + 2) 33 i0 (.agg #[.string ⟨#[]⟩, .bool false, .string ⟨#[]⟩]) 3 40 Try.underHdrs hi hz0 hz1 hz2 rfl (by decide) (.slice a' j cap') j (hcs l) rfl (HLJ.out ▸ HI2.out.own) ⟨z1.heap.size, 0, none⟩ 1 1 [.string xk, .bool xh, .string (bd xh xd)] rfl rfl (World.news_of_block hn) (hcs_one [(xk, xh, bd xh xd)]) (by decide) (by have := HZZ.out; unfold maxLen; omega) (by have := HZZ.out; omega) (Nat.le_trans HI2.out.hB HI2.out.bel.size) _ rfl ?_
            intro g cap2 z9 hown hgr hat hlt9
            have hh9 := (hgr.block wr.heap.size (lt_of_heap hh2) (fun e => HVL.out e.symm)).trans hh2
            have HO9 := hid (HI2.out.grown (r := (xk, xh, bd xh xd)) hown hgr)
            refine hK.out _ _ (cells3 hh9) (fun hHeld => ?_)
            clear hK K hown hgr hat
            try simp only [Act.put, List.setIfInBounds_toArray, List.set_cons_zero, List.set_cons_succ]
            refine wpAnyH_take (i := 6) (oi := { dst := some 28, op := Op.fieldAddr 26 (Operand.tmp 3) 3, type := 0, pos := "record.go:122", after := #[{ on := 0, ground := Ground.phase }, { on := 1, ground := Ground.phase }, { on := 2, ground := Ground.phase }, { on := 3, ground := Ground.phase }, { on := 4, ground := Ground.phase }, { on := 5, ground := Ground.phase }], guard := none }) (v := ?_) rfl (by kernel_rfl) (by kernel_rfl) (by kernel_rfl) (fun _ _ _ h => h) (Or.inl ⟨by rfl, ?_⟩) (by assumption) ?_
            rotate_left
            · (intro z hSw; (try dsimp only at hSw); go_simp)
              all_goals with_reducible rfl
            try simp only [Act.put, List.setIfInBounds_toArray, List.set_cons_zero, List.set_cons_succ]
            refine wpAnyH_ready (rs := [7]) (by kernel_rfl) (by simp) ?_
            refine AllReadyH.cons (o := { dst := none, op := Op.store 24 (Operand.tmp 28) (Operand.tmp 27), type := 0, pos := "record.go:122", after := #[{ on := 6, ground := Ground.data }, { on := 5, ground := Ground.data }, { on := 5, ground := Ground.chain }, { on := 0, ground := Ground.phase }, { on := 1, ground := Ground.phase }, { on := 2, ground := Ground.phase }, { on := 3, ground := Ground.phase }, { on := 4, ground := Ground.phase }, { on := 5, ground := Ground.phase }], guard := none }) rfl (fun K hK => ?_) AllReadyH.nil
            have m5 := (cells6 HO9.out.1).2.2.2.2.2
            have f5 := froz_of (i := 5) HO9.out.1
            go_simp
            have hhA : (z9.setCell ⟨G, 5, none⟩ (.slice (some ⟨g, 0, none⟩) (j + 1) cap2)).heap[wr.heap.size]? = _ := heap_set_far hh9 (fun e => HGL.out e)
            refine hK.out _ _ (cells3 hhA) (fun hHeld => ?_)
            clear hK K m5 f5
            try simp only [Act.put, List.setIfInBounds_toArray, List.set_cons_zero, List.set_cons_succ]
            refine wpAnyH_done (by kernel_rfl) ?_ _
            have HIA := hid (CpI.put HO9.out HLJ.out HGE.out HBZ.out)
            go_wp2
            go_roundg k
            case measure => omega
            case rel => have hz := HZZ.out; have ew : wrap64 ((j : Int) + 1) = ((j + 1 : Nat) : Int) := by { unfold wrap64; omega }; exact ⟨j + 1, l ++ [(xk, xh, bd xh xd)], some ⟨g, 0, none⟩, cap2, by have := HKK.out; omega, congrArg (Value.int .i64) ew, take_map HLL.out HJL.out HX.out, HIA⟩
      · have i2 : ¬ (j : Int) < hs.length := by omega
        obtain ⟨n0, n1, n2, n3, n4, n5⟩ := cells6 HI.out.blk
        have hjl : j = hs.length := by have := HKK.out; omega
        have r2 : wr.heap[w.heap.size + 1]? = some (.cells #[.int .i64 0, .bool false, .string ⟨#[]⟩, .bool false, .string ⟨#[]⟩, .slice none 0 0] 26 (0, 0)) := (HI.out.bel.block _ (by omega)).trans H2.out
        obtain ⟨m0, m1, m2, m3, m4, m5⟩ := cells6 r2
        have fz := fun o => froz_of (i := o) r2
        have HJ := hid hjl
        have HR := hid r2
        clear hjl r2
        have HFF := hid (cp_end HI.out HJ.out HLL.out HB1.out HR.out)
        clear HI HLL
        go_wp2_with fail
        exact bodyPost_ret (v := .agg #[.int .i64 t, .bool kh, .string (bd kh kd), .bool vh, .string (bd vh vd), .slice a' j cap']) (by obtain ⟨j0, j1, j2, j3, j4, j5⟩ := HFF.out.1; simp [results, Try.results8, go_sem, j0, j1, j2, j3, j4, j5]) rfl ⟨⟨a', cap', HFF.out.2.1, HFF.out.2.2.1⟩, HFF.out.2.2.2⟩
end Go.Proofs.Ytoohmbkgdmmghaa
