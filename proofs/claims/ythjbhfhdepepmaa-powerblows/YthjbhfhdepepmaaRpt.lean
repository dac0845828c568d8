/- The document's disk: put, Create, Remove. -/
import Derived.Test.YthjbhfhdepepmaaRov
namespace Go.Proofs.Ythjbhfhdepepmaa
open Go.RowKit
theorem Try.infoRF : (Try.prog.info? 74).map (fun i => (i.zero, i.size, i.bytes)) = some (some (.agg #[.string ⟨#[]⟩, .string ⟨#[]⟩, .int .i64 0]), 3, 40) := by kernel_rfl
theorem Try.underRFs : Try.prog.underlying 75 = some (.slice 74) := by kernel_rfl
theorem info_parts {P : Program} {t : TypeId} {z : Value} {n b : Nat} (h : (P.info? t).map (fun i => (i.zero, i.size, i.bytes)) = some (some z, n, b)) : ∃ i, P.info? t = some i ∧ i.zero = some z ∧ i.size = n ∧ i.bytes = b := by
  cases hi : P.info? t with
  | none => rw [hi] at h; cases h
  | some i =>
    rw [hi] at h
    simp only [Option.map_some, Option.some.injEq, Prod.mk.injEq] at h
    exact ⟨i, rfl, h.1, h.2.1, h.2.2⟩
theorem own_le {w : World} {base base' size n : Nat} {e : TypeId} {v : Value} {xs : List Value} (h : w.ownsRow base e size v n xs) (hb : base' ≤ base) : w.ownsRow base' e size v n xs := by
  refine ⟨h.1, ?_⟩
  rcases h.2 with h2 | ⟨g, cap, cur, e1, e2, r⟩
  · exact Or.inl h2
  · exact Or.inr ⟨g, cap, cur, e1, Nat.le_trans hb e2, r⟩
theorem grown_ch {w w' : World} {v : Value} {B n size : Nat} {e : TypeId} {l : List Value} {w0 : World} {S : Nat → Prop} (hc : Ch S w0 w) (h : w.ownsRow B e size v n l) (hB : w0.heap.size ≤ B) (hg : w.grownBy w' v.ownBlock) : Ch S w0 w' :=
  ⟨hg.os.trans hc.os, hg.tape.trans hc.tape, hg.output.trans hc.output, Nat.le_trans hc.size hg.size, fun k hk hs => (hg.block k (Nat.lt_of_lt_of_le hk hc.size) (fun e => by have := (h.lt k e.symm).1; omega)).trans (hc.block k hk hs)⟩
theorem cells_newN (w : World) (xs : List Value) (t : TypeId) (n : Nat) (h : w.heap.size = n) : ∀ j u, xs[j]? = some u → (w.alloc (.cells xs.toArray t)).cell? ((⟨n, 0, none⟩ : Addr).add j) = some u := by
  subst h
  intro j u hj
  rw [Go.WideShapes.add_plain]
  have := heap_new w (.cells xs.toArray t)
  rw [cell_of this]
  simpa using hj
theorem rfs_left (l r : Vw) {w : World} {g N : Nat} (hN : (l ++ r).length = N) (hcl : ∀ j, j < N * 3 → w.cell? ⟨g, j, none⟩ = (rfs (l ++ r))[j]?) : ∀ j u, (rfs l)[j]? = some u → w.cell? ((⟨g, 0, none⟩ : Addr).add j) = some u := by
  intro j u hj
  have hlt := (List.getElem?_eq_some_iff.1 hj).1
  rw [rfs_len] at hlt
  subst hN
  rw [Go.WideShapes.add_plain, Nat.zero_add, hcl _ (by simp; omega), rfs_app, List.getElem?_append_left (by rw [rfs_len]; exact hlt)]
  exact hj
theorem rfs_right (l r : Vw) {w : World} {g N : Nat} (hN : (l ++ r).length = N) (hcl : ∀ j, j < N * 3 → w.cell? ⟨g, j, none⟩ = (rfs (l ++ r))[j]?) : ∀ j u, (rfs r)[j]? = some u → w.cell? ((⟨g, l.length * 3, none⟩ : Addr).add j) = some u := by
  intro j u hj
  have hlt := (List.getElem?_eq_some_iff.1 hj).1
  rw [rfs_len] at hlt
  subst hN
  rw [Go.WideShapes.add_plain, hcl _ (by simp; omega), rfs_app, List.getElem?_append_right (by rw [rfs_len]; omega), rfs_len, show l.length * 3 + j - l.length * 3 = j from by omega]
  exact hj
/-- A new row in the place of the files. -/
theorem Rk.moved {w w' : World} {d : Nat} {fl v : Value} {rm : Nat} {cl cb : Int} {V V' : Vw} {n : Nat} (h : Rk w d fl rm cl cb V) (hc : Ch (fun _ => False) w w') (ho : w'.ownsRow w.heap.size 74 3 v n (rfs V')) (hn : V'.length = n) (k : Nat) :
    RAft w (Rt d fl) d rm cl cb V' ((w'.drewN k).setCell ⟨d, 1, none⟩ v) := by
  have hb := heap_set (i := 1) (v := v) ((h.ch (hc.drewN k) (fun _ _ e => e)).blk)
  have hd := lt_of_heap h.blk
  subst hn
  refine ⟨_, ⟨v, ⟨hb, ?_⟩, rfl⟩, ((hc.mono (T := Rt d fl) (fun _ _ e => e.elim)).drewN k).setCell _ _ (fun _ => Or.inl rfl), ?_⟩
  · refine own_ch (own_le ho (Nat.zero_le _)) (((Ch.refl (fun i => i = d) w').drewN k).setCell _ _ (fun _ => rfl)) ?_
    rintro i hi rfl
    have := (ho.lt i hi).1
    omega
  · rintro i (rfl | hi)
    · exact Or.inl (Or.inl rfl)
    · exact Or.inr (ho.lt i hi).1
set_option maxHeartbeats 2000000 in
set_option maxRecDepth 20000 in
theorem rput_any (d : Nat) (fl : Value) (rm : Nat) (cl cb : Int) (l r : Vw) (nm : ByteArray) (w : World) (h : Rk w d fl rm cl cb (l ++ r)) (hc : (l ++ r).length ≤ 65536) :
    Calls Try.prog 69 #[.pointer (some ⟨d, 0, none⟩), .int .i64 l.length, .agg #[.string nm, .string ⟨#[]⟩, .int .i64 0]] w fun e w' => e = .returned (.tuple #[]) ∧ RAft w (Rt d fl) d rm cl cb (l ++ (nm, [], 0) :: r) w' := by
  obtain ⟨i0, hi, hz0, hz1, hz2⟩ := info_parts Try.infoRF
  obtain ⟨w1, hw1⟩ : ∃ w1, w1 = w.alloc (Obj.cells #[.string nm, .string ⟨#[]⟩, .int .i64 0] 74) := ⟨_, rfl⟩
  have HC1 : Hid (Ch (fun _ => False) w w1) := by show Ch _ _ _; rw [hw1]; exact (Ch.refl _ w).alloc _
  have hk1 := h.ch HC1.out (fun _ _ e => e)
  have hs1 : w1.heap.size = w.heap.size + 1 := by rw [hw1]; simp
  have hf1 := heap_new w (Obj.cells #[.string nm, .string ⟨#[]⟩, .int .i64 0] 74)
  rw [← hw1] at hf1
  have z0 : w1.cell? ⟨w.heap.size, 0, none⟩ = some (.string nm) := (cell_of hf1).trans rfl
  have z1 : w1.cell? ⟨w.heap.size, 1, none⟩ = some (.string ⟨#[]⟩) := (cell_of hf1).trans rfl
  have z2 : w1.cell? ⟨w.heap.size, 2, none⟩ = some (.int .i64 0) := (cell_of hf1).trans rfl
  have c1 := hk1.c1
  rcases hk1.form with ⟨rfl, hv⟩ | ⟨g, cap, rfl, hcl, hfz, hg⟩
  · obtain ⟨rfl, rfl⟩ := List.append_eq_nil_iff.1 hv
    go_enter Try.func69, Try.ntmps69
    have hw1' := hw1.symm
    clear hw1
    clear hc hv
    go_wp2_with (at_builtin; refine wpList_append_own _ rfl _ _ 75 rfl w.heap.size 74 i0 (.agg #[.string ⟨#[]⟩, .string ⟨#[]⟩, .int .i64 0]) 3 40 Try.underRFs hi hz0 hz1 hz2 rfl (by decide) _ _ _ rfl ((World.ownsRow_nil w1 _ _ _).alloc _) ⟨w.heap.size + 1, 0, none⟩ 1 1 (rfc (nm, [], 0)) rfl rfl ?c1 ?c2 ?c3 ?c4 ?c5 ?_)
    case c1 => exact cells_newN _ (rfc (nm, [], 0)) _ _ hs1
    case c2 => exact rfs_one [(nm, [], 0)]
    case c3 => unfold maxLen; omega
    case c4 => omega
    case c5 => simp; omega
    intro v2 w2 hown2 hgrow2 _
    obtain ⟨a2, cap2, rfl⟩ := own_form hown2
    have HC2 := hid' (grown_ch (HC1.out.alloc _) ((World.ownsRow_nil w1 w.heap.size 74 3).alloc _) (Nat.le_refl _) hgrow2)
    have hk2 := h.ch HC2.out (fun _ _ e => e)
    have c1' := hk2.c1
    have fz2 := hk2.fz 1
    have HM := hid' (fun k => h.moved (V' := [(nm, [], 0)]) HC2.out hown2 rfl k)
    clear hk2 hk1 h hgrow2 HC1 z0 z1 z2 c1 hf1 HC2
    go_wp2_with (at_builtin; refine wpList_append_own_none rfl _ _ 75 rfl w.heap.size 74 i0 3 Try.underRFs hi _ _ _ rfl hown2 rfl ?_)
    go_end0
    exact ⟨rfl, HM.out 0⟩
  · have HCL := hid' (rfs_left l r rfl hcl)
    clear hcl
    generalize hN : (l ++ r).length = N at *
    have hLN : l.length + r.length = N := by rw [← hN]; simp
    have hltI : (l.length : Int) ≤ N := by omega
    generalize hL : l.length = L at *
    have HL := hid' hL
    have HN := hid' hN
    have hw1' := hw1.symm
    clear hw1 hN hL
    have hNc : N ≤ cap := by
      rcases h.row.2 with ⟨e, _⟩ | ⟨g', cap', cur, e, _, _, hnc, _⟩
      · cases e
      · injection e with _ e1 e2
        subst e2
        rw [HN.out] at hnc
        exact hnc
    have hLc : L ≤ cap := by omega
    go_enter Try.func69, Try.ntmps69
    go_wp2_with (at_builtin; refine wpList_append_own _ rfl _ _ 75 rfl w.heap.size 74 i0 (.agg #[.string ⟨#[]⟩, .string ⟨#[]⟩, .int .i64 0]) 3 40 Try.underRFs hi hz0 hz1 hz2 rfl (by decide) _ _ _ rfl (World.ownsRow_nil w1 _ _ _) ⟨g, 0, none⟩ L cap (rfs l) rfl ?b0 ?b1 ?b2 ?b3 ?b4 ?b5 ?_)
    case b0 => rw [rfs_len, HL.out]
    case b1 => exact HCL.out
    case b2 => exact rfs_one _
    case b3 => unfold maxLen; omega
    case b4 => omega
    case b5 => omega
    intro v2 w2 hown2 hgrow2 _
    have HC2 := hid' (grown_ch HC1.out (World.ownsRow_nil w1 w.heap.size 74 3) (Nat.le_refl _) hgrow2)
    have hs2 : w.heap.size < w2.heap.size := by have := hgrow2.size; omega
    have hfe : w2.heap[w.heap.size]? = w1.heap[w.heap.size]? := hgrow2.block _ (by omega) (by simp [Value.ownBlock])
    have y0 : w2.cell? ⟨w.heap.size, 0, none⟩ = some (.string nm) := (cell_of (hfe.trans hf1)).trans rfl
    have y1 : w2.cell? ⟨w.heap.size, 1, none⟩ = some (.string ⟨#[]⟩) := (cell_of (hfe.trans hf1)).trans rfl
    have y2 : w2.cell? ⟨w.heap.size, 2, none⟩ = some (.int .i64 0) := (cell_of (hfe.trans hf1)).trans rfl
    clear HCL z0 z1 z2 c1 hf1 hfe hgrow2 hk1 HC1 hw1' hfz
    obtain ⟨H2, hH2⟩ : ∃ H2, w2.heap.size = H2 := ⟨_, rfl⟩
    go_wp2_with (at_builtin; refine wpList_append_own _ rfl _ _ 75 rfl w.heap.size 74 i0 (.agg #[.string ⟨#[]⟩, .string ⟨#[]⟩, .int .i64 0]) 3 40 Try.underRFs hi hz0 hz1 hz2 rfl (by decide) _ _ _ rfl (hown2.alloc _) ⟨H2, 0, none⟩ 1 1 (rfc (nm, [], 0)) rfl rfl ?c1 ?c2 ?c3 ?c4 ?c5 ?_)
    case c1 => exact cells_newN _ (rfc (nm, [], 0)) _ _ hH2
    case c2 => exact rfs_one [(nm, [], 0)]
    case c3 => unfold maxLen; omega
    case c4 => omega
    case c5 => simp; omega
    intro v3 w3 hown3 hgrow3 _
    have HC3 := hid' (grown_ch (HC2.out.alloc _) (hown2.alloc _) (Nat.le_refl _) hgrow3)
    have hk3 := h.ch HC3.out (fun _ _ e => e)
    have c1 := hk3.c1
    have hs3 := HC3.out.size
    obtain ⟨a3, cap3, rfl⟩ := own_form hown3
    have e7 : rfs [(nm, ([] : List UInt8), (0 : Nat))] = rfc (nm, [], 0) := by simp [rfs]
    have hown3' : w3.ownsRow w.heap.size 74 3 (.slice a3 (L + 1) cap3) (L + 1) (rfs (l ++ [(nm, [], 0)])) := by rw [rfs_app, e7]; exact hown3
    have HCR := hid' (rfs_right l r rfl (hk3.form.elim (fun k => by cases k.1) (fun ⟨g', cap', e, hc', _⟩ => by
      injection e with e _ _
      injection e with e
      injection e with e
      subst e
      exact hc')))
    rw [HL.out] at HCR
    obtain ⟨off, hoff, hce⟩ : ∃ off, (if cap = L then (some ⟨g, 0, none⟩ : Option Addr) else some ⟨g, L * 3, none⟩) = some ⟨g, off, none⟩ ∧ ∀ j u, (rfs r)[j]? = some u → w3.cell? ((⟨g, off, none⟩ : Addr).add j) = some u := by
      by_cases e : cap = L
      · refine ⟨0, if_pos e, fun j u hj => ?_⟩
        obtain rfl : r = [] := List.eq_nil_of_length_eq_zero (by omega)
        cases hj
      · exact ⟨L * 3, if_neg e, HCR.out⟩
    have HCE := hid' hce
    clear hce
    have eR : N - L = r.length := by omega
    clear hown2 hown3 hgrow3 y0 y1 y2 hk3 HC2
    go_wp2_with (at_builtin; refine wpList_append_own _ rfl _ _ 75 rfl w.heap.size 74 i0 (.agg #[.string ⟨#[]⟩, .string ⟨#[]⟩, .int .i64 0]) 3 40 Try.underRFs hi hz0 hz1 hz2 rfl (by decide) _ _ _ rfl hown3' ⟨g, off, none⟩ r.length (cap - L) (rfs r) (by first | rfl | simp [Act.eval, hoff]) ?e0 ?e1 ?e2 ?e3 ?e4 ?e5 ?_)
    case e0 => rw [rfs_len]
    case e1 => exact HCE.out
    case e2 => exact rfs_one _
    case e3 => unfold maxLen; omega
    case e4 => omega
    case e5 => omega
    intro v4 w4 hown4 hgrow4 _
    obtain ⟨a4, cap4, rfl⟩ := own_form hown4
    have HC4 := hid' (grown_ch HC3.out hown3' (Nat.le_refl _) hgrow4)
    have hk4 := h.ch HC4.out (fun _ _ e => e)
    have c1' := hk4.c1
    have fz4 := hk4.fz 1
    have e6 : rfs (l ++ [(nm, [], 0)]) ++ rfs r = rfs (l ++ (nm, [], 0) :: r) := by rw [← rfs_app]; simp
    rw [e6] at hown4
    have HM := hid' (fun k => h.moved HC4.out hown4 (by rw [List.length_append, List.length_cons, HL.out]; omega) k)
    clear hk4 h hgrow4 HC3 hown4 HC4 hown3' HCR HCE
    go_wp2_with fail
    go_end0
    exact ⟨rfl, HM.out 0⟩
end Go.Proofs.Ythjbhfhdepepmaa
