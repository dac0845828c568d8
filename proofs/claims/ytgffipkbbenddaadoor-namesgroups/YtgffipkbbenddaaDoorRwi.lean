/- The document's with. -/
import Derived.Test.YtgffipkbbenddaaDoorGrx
import Derived.Test.YtgffipkbbenddaaDoorGrw
import Derived.Deep.DeepCutAuto
namespace Go.Proofs.YtgffipkbbenddaaDoor
open Go.RowKit Go.Lib
theorem Tryd.infoR : (Tryd.prog.info? 65).map (fun i => (i.zero, i.size, i.bytes)) = some (some (.agg #[.int .i64 0, .bool false, .bool false, .bool false]), 4, 16) := by kernel_rfl
theorem wi_ne (b : Nat) : ∀ l : List Sg, (wi b l).length ≠ 0
  | [] => by simp [wi]
  | s :: l => by
    rw [wi]
    split
    · simp
    · split <;> simp
theorem row_own {w : World} {B : Nat} {e : TypeId} {size n : Nat} {v : Value} {xs : List Value} (h : w.ownsRow B e size v n xs) {g : Nat} (hg : v.ownBlock = some g) : B ≤ g := by
  rcases h.2 with ⟨rfl, _⟩ | ⟨g', cap, cur, rfl, h3, _⟩
  · cases hg
  · simp only [Value.ownBlock, Option.some.injEq] at hg; omega
theorem sgl_setm (A B : List Sg) (s : Sg) {k : Nat} (hk : k ≤ 2) : (sgl (A ++ s :: B)).set (A.length * 4 + 1 + k) (.bool true) = sgl (A ++ setb s k :: B) := by
  have e1 : A ++ s :: B = (A ++ [s]) ++ B := by simp
  have e2 : A ++ setb s k :: B = (A ++ [setb s k]) ++ B := by simp
  rw [e1, e2, sgl_app (A ++ [s]) B, sgl_app (A ++ [setb s k]) B, List.set_append_left _ _ (by rw [sgl_len]; simp; omega), sgl_set A s hk]
set_option maxRecDepth 20000 in
set_option maxHeartbeats 4000000 in
theorem with_any (l : List Sg) (b k : Nat) (hb : b ≤ 4611686018427387904) (hk : k ≤ 2) (a : Option Addr) (cap : Nat) (w : World) (hv : Sgs w a l) (hn : l.length ≤ 8796093022206) :
    Calls Tryd.prog 27 #[.slice a l.length cap, .int .i64 b, .int .i64 k] w fun e w' => (∃ v, e = .returned v ∧ OwS 65 w' w.heap.size v (mb b k (wi b l))) ∧ Below w.heap.size w w' := by
  have HV := hid hv
  obtain ⟨N, hN⟩ : ∃ N, N = l.length := ⟨_, rfl⟩
  have HN := hid hN
  rw [← hN] at hn ⊢
  clear hv hN
  have HK := hid hk
  have HBM := hid hb
  obtain ⟨i0, hi, hz0, hz1, hz2⟩ := info_parts Tryd.infoR
  clear hk
  go_enter Tryd.func27, Tryd.ntmps27
  go_wp2_with fail
  go_loopg [7, 8, 9] N (fun q v lb i wr => ∃ (j : Nat) (o : List Sg) (f : Bool), j + q = N ∧ lb = .bool f ∧ i = .int .i64 (j : Int) ∧ o.length ≤ j + 1 ∧ Hid (OwS 65 wr w.heap.size v o) ∧ Hid ((f = false ∧ o = l.take j ∧ ∀ x ∈ o, x.b < (b : Int)) ∨ (f = true ∧ o ++ l.drop j = wi b l)) ∧ Hid (Below w.heap.size w wr))
  case atStart => exact ⟨0, [], false, by omega, rfl, rfl, by simp, OwS.nil _ _ _, Or.inl ⟨rfl, rfl, by simp⟩, Below.refl _ _⟩
  case round =>
    obtain ⟨j, o, f, hj, rfl, rfl, hol, HO, HI, HB⟩ := hrel
    have hbs := HB.out.size
    by_cases hlt : j < N
    · obtain ⟨k', rfl⟩ : ∃ k', gk = k' + 1 := ⟨gk - 1, by omega⟩
      have hjl : j < l.length := by rw [← HN.out]; exact hlt
      have hltI : (j : Int) < N := by omega
      rcases HV.out with e | ⟨b1, o1, rfl, hb1, hc1⟩
      · exact absurd hjl (by rw [e]; simp)
      have c0 := hc1 j hjl
      rw [List.getD_eq_getElem?_getD, List.getElem?_eq_getElem hjl] at c0
      simp only [Option.getD_some] at c0
      have HDr := hid (List.drop_eq_getElem_cons hjl)
      have HTk := hid (List.take_succ_eq_append_getElem hjl)
      generalize l[j] = s at *
      obtain ⟨sb, sx, sy, sz⟩ := s
      simp only at c0
      have HCe : Hid (∀ wx, Below w.heap.size w wx → wx.cell? ⟨b1, o1 + j * 4, none⟩ = some (.int .i64 sb) ∧ wx.cell? ⟨b1, o1 + j * 4 + 1, none⟩ = some (.bool sx) ∧ wx.cell? ⟨b1, o1 + j * 4 + 2, none⟩ = some (.bool sy) ∧ wx.cell? ⟨b1, o1 + j * 4 + 3, none⟩ = some (.bool sz)) := fun wx hx =>
        ⟨(hx.cell (p := ⟨b1, o1 + j * 4, none⟩) hb1).trans c0.1, (hx.cell (p := ⟨b1, o1 + j * 4 + 1, none⟩) hb1).trans c0.2.1, (hx.cell (p := ⟨b1, o1 + j * 4 + 2, none⟩) hb1).trans c0.2.2.1, (hx.cell (p := ⟨b1, o1 + j * 4 + 3, none⟩) hb1).trans c0.2.2.2⟩
      obtain ⟨d0, d1, d2, d3⟩ := HCe.out _ HB.out
      have HJ := hid hj
      clear hj hc1 c0
      rcases HI.out with ⟨rfl, ho, hall⟩ | ⟨rfl, ho⟩
      · have HOo := hid (And.intro ho hall)
        have hoj : o.length ≤ j := by rw [ho, List.length_take]; omega
        clear ho hall HI
        by_cases hsb : (b : Int) < sb
        · have hne : (sb == (b : Int)) = false := by rw [beq_eq_false_iff_ne]; omega
          go_wp2_with (first | (at_builtin; refine wpList_append_lies _ rfl _ _ 35 rfl w.heap.size 65 i0 (.agg #[.int .i64 0, .bool false, .bool false, .bool false]) 4 16 Tryd.underlying35 hi hz0 hz1 hz2 rfl (by decide) _ o.length (sgl o) rfl (OwS.alloc HO.out _) ⟨wr.heap.size, 0, none⟩ 1 1 (sgc (zs b)) rfl rfl (World.news_of_block (heap_new wr _)) (sgc_one _) (by omega) (by unfold maxLen; omega) (by omega) (Nat.le_trans hbs (bel_alloc wr _).size) _ rfl ?_; intro ga capa wa howna hgrowa hata hlta; have HBa : Hid (Below w.heap.size w wa) := (HB.out.alloc hbs _).grown hgrowa (Nat.le_trans hbs (bel_alloc wr _).size) (fun k hk => OwS.own HO.out hk); have hbsa : w.heap.size ≤ wa.heap.size := HBa.out.size; clear hgrowa hata hlta; obtain ⟨e0, e1, e2, e3⟩ := HCe.out _ HBa.out) | (at_builtin; refine wpList_append_lies _ rfl _ _ 35 rfl w.heap.size 65 i0 (.agg #[.int .i64 0, .bool false, .bool false, .bool false]) 4 16 Tryd.underlying35 hi hz0 hz1 hz2 rfl (by decide) _ (o.length + 1) (sgl o ++ sgc (zs b)) rfl (howna.alloc _) ⟨wa.heap.size, 0, none⟩ 1 1 (sgc (Sg.mk sb sx sy sz)) rfl rfl (World.news_of_block (heap_new wa _)) (sgc_one _) (by omega) (by unfold maxLen; omega) (by omega) (Nat.le_trans hbsa (bel_alloc wa _).size) _ rfl ?_; intro gb capb wb hownb hgrowb hatb hltb; have HBb : Hid (Below w.heap.size w wb) := (HBa.out.alloc hbsa _).grown hgrowb (Nat.le_trans hbsa (bel_alloc wa _).size) (fun k hk => row_own howna hk); have hbsb : w.heap.size ≤ wb.heap.size := HBb.out.size; clear hgrowb hatb hltb))
          have HOb : Hid (OwS 65 wb w.heap.size (.slice (some ⟨gb, 0, none⟩) (o.length + 1 + 1) capb) ((o ++ [zs b]) ++ [Sg.mk sb sx sy sz])) := by
            show OwS _ _ _ _ _
            unfold OwS
            rw [sgl_app, sgl_app, List.length_append, List.length_append]
            exact hownb
          clear howna hownb
          go_roundg k'
          case measure => omega
          case rel =>
            refine ⟨j + 1, (o ++ [zs b]) ++ [Sg.mk sb sx sy sz], true, by have := HJ.out; omega, rfl, congrArg (Value.int .i64) (by omega), by simp; omega, HOb, Or.inr ⟨rfl, ?_⟩, HBb⟩
            obtain ⟨ho, hall⟩ := HOo.out
            have e : l = o ++ Sg.mk sb sx sy sz :: l.drop (j + 1) := by rw [ho, ← HDr.out, List.take_append_drop]
            conv => rhs; rw [e]
            rw [wi_split (by show (b : Int) ≤ sb; omega) o hall, if_neg (by show ¬ sb = (b : Int); omega)]
            simp
        · by_cases hse : sb = b
          · have hle : decide ((b : Int) < sb) = false := decide_eq_false hsb
            have heq : (sb == (b : Int)) = true := by simpa using hse
            have HSE := hid hse
            have HSB := hid hsb
            clear hse hsb
            go_wp2_with (at_builtin; refine wpList_append_lies _ rfl _ _ 35 rfl w.heap.size 65 i0 (.agg #[.int .i64 0, .bool false, .bool false, .bool false]) 4 16 Tryd.underlying35 hi hz0 hz1 hz2 rfl (by decide) _ o.length (sgl o) rfl (OwS.alloc HO.out _) ⟨wr.heap.size, 0, none⟩ 1 1 (sgc (Sg.mk sb sx sy sz)) rfl rfl (World.news_of_block (heap_new wr _)) (sgc_one _) (by omega) (by unfold maxLen; omega) (by omega) (Nat.le_trans hbs (bel_alloc wr _).size) _ rfl ?_; intro ga capa wa howna hgrowa hata hlta; have HBa : Hid (Below w.heap.size w wa) := (HB.out.alloc hbs _).grown hgrowa (Nat.le_trans hbs (bel_alloc wr _).size) (fun k hk => OwS.own HO.out hk); have hbsa : w.heap.size ≤ wa.heap.size := HBa.out.size; clear hgrowa hata hlta)
            have HOa : Hid (OwS 65 wa w.heap.size (.slice (some ⟨ga, 0, none⟩) (o.length + 1) capa) (o ++ [Sg.mk sb sx sy sz])) := by
              show OwS _ _ _ _ _
              unfold OwS
              rw [sgl_app, List.length_append]
              exact howna
            clear howna
            go_roundg k'
            case measure => omega
            case rel =>
              refine ⟨j + 1, o ++ [Sg.mk sb sx sy sz], true, by have := HJ.out; omega, rfl, congrArg (Value.int .i64) (by omega), by simp; omega, HOa, Or.inr ⟨rfl, ?_⟩, HBa⟩
              obtain ⟨ho, hall⟩ := HOo.out
              have e : l = o ++ Sg.mk sb sx sy sz :: l.drop (j + 1) := by rw [ho, ← HDr.out, List.take_append_drop]
              conv => rhs; rw [e]
              rw [wi_split (by show (b : Int) ≤ sb; rw [HSE.out]; omega) o hall, if_pos (by show sb = (b : Int); exact HSE.out)]
              simp
          · have hne : (sb == (b : Int)) = false := by rw [beq_eq_false_iff_ne]; exact hse
            have hle : decide ((b : Int) < sb) = false := decide_eq_false hsb
            have HSB := hid (And.intro hsb hse)
            clear hse hsb
            go_wp2_with (at_builtin; refine wpList_append_lies _ rfl _ _ 35 rfl w.heap.size 65 i0 (.agg #[.int .i64 0, .bool false, .bool false, .bool false]) 4 16 Tryd.underlying35 hi hz0 hz1 hz2 rfl (by decide) _ o.length (sgl o) rfl (OwS.alloc HO.out _) ⟨wr.heap.size, 0, none⟩ 1 1 (sgc (Sg.mk sb sx sy sz)) rfl rfl (World.news_of_block (heap_new wr _)) (sgc_one _) (by omega) (by unfold maxLen; omega) (by omega) (Nat.le_trans hbs (bel_alloc wr _).size) _ rfl ?_; intro ga capa wa howna hgrowa hata hlta; have HBa : Hid (Below w.heap.size w wa) := (HB.out.alloc hbs _).grown hgrowa (Nat.le_trans hbs (bel_alloc wr _).size) (fun k hk => OwS.own HO.out hk); have hbsa : w.heap.size ≤ wa.heap.size := HBa.out.size; clear hgrowa hata hlta)
            have HOa : Hid (OwS 65 wa w.heap.size (.slice (some ⟨ga, 0, none⟩) (o.length + 1) capa) (o ++ [Sg.mk sb sx sy sz])) := by
              show OwS _ _ _ _ _
              unfold OwS
              rw [sgl_app, List.length_append]
              exact howna
            clear howna
            go_roundg k'
            case measure => omega
            case rel =>
              obtain ⟨ho, hall⟩ := HOo.out
              refine ⟨j + 1, o ++ [Sg.mk sb sx sy sz], false, by have := HJ.out; omega, rfl, congrArg (Value.int .i64) (by omega), by simp; omega, HOa, Or.inl ⟨rfl, by rw [HTk.out, ho], fun y hy => ?_⟩, HBa⟩
              rcases List.mem_append.1 hy with hy | hy
              · exact hall y hy
              · rw [List.mem_singleton.1 hy]; show sb < (b : Int); have := HSB.out; omega
      · have HOo := hid ho
        clear ho HI
        go_wp2_with (at_builtin; refine wpList_append_lies _ rfl _ _ 35 rfl w.heap.size 65 i0 (.agg #[.int .i64 0, .bool false, .bool false, .bool false]) 4 16 Tryd.underlying35 hi hz0 hz1 hz2 rfl (by decide) _ o.length (sgl o) rfl (OwS.alloc HO.out _) ⟨wr.heap.size, 0, none⟩ 1 1 (sgc (Sg.mk sb sx sy sz)) rfl rfl (World.news_of_block (heap_new wr _)) (sgc_one _) (by omega) (by unfold maxLen; omega) (by omega) (Nat.le_trans hbs (bel_alloc wr _).size) _ rfl ?_; intro ga capa wa howna hgrowa hata hlta; have HBa : Hid (Below w.heap.size w wa) := (HB.out.alloc hbs _).grown hgrowa (Nat.le_trans hbs (bel_alloc wr _).size) (fun k hk => OwS.own HO.out hk); have hbsa : w.heap.size ≤ wa.heap.size := HBa.out.size; clear hgrowa hata hlta)
        have HOa : Hid (OwS 65 wa w.heap.size (.slice (some ⟨ga, 0, none⟩) (o.length + 1) capa) (o ++ [Sg.mk sb sx sy sz])) := by
          show OwS _ _ _ _ _
          unfold OwS
          rw [sgl_app, List.length_append]
          exact howna
        clear howna
        go_roundg k'
        case measure => omega
        case rel =>
          refine ⟨j + 1, o ++ [Sg.mk sb sx sy sz], true, by have := HJ.out; omega, rfl, congrArg (Value.int .i64) (by omega), by simp; omega, HOa, Or.inr ⟨rfl, ?_⟩, HBa⟩
          rw [← HOo.out, HDr.out]
          simp
    · obtain rfl : j = N := by omega
      have hnj : ¬ (j : Int) < j := by omega
      have hk3 : k = 0 ∨ k = 1 ∨ k = 2 := by have := HK.out; omega
      rcases HI.out with ⟨rfl, ho, hall⟩ | ⟨rfl, ho⟩
      · have e0 : o = l := by rw [ho]; exact List.take_of_length_le (by rw [← HN.out]; exact Nat.le_refl _)
        have HE : Hid (o ++ [zs b] = wi b l) := by
          rw [e0] at hall ⊢
          exact (wi_end l hall).symm
        have hoj : o.length ≤ j := by rw [ho, List.length_take]; omega
        clear ho hall HI e0
        go_wp2_with (at_builtin; refine wpList_append_lies _ rfl _ _ 35 rfl w.heap.size 65 i0 (.agg #[.int .i64 0, .bool false, .bool false, .bool false]) 4 16 Tryd.underlying35 hi hz0 hz1 hz2 rfl (by decide) _ o.length (sgl o) rfl (OwS.alloc HO.out _) ⟨wr.heap.size, 0, none⟩ 1 1 (sgc (zs b)) rfl rfl (World.news_of_block (heap_new wr _)) (sgc_one _) (by omega) (by unfold maxLen; omega) (by omega) (Nat.le_trans hbs (bel_alloc wr _).size) _ rfl ?_; intro ga capa wa howna hgrowa hata hlta; have HBa : Hid (Below w.heap.size w wa) := (HB.out.alloc hbs _).grown hgrowa (Nat.le_trans hbs (bel_alloc wr _).size) (fun k hk => OwS.own HO.out hk); have hbsa : w.heap.size ≤ wa.heap.size := HBa.out.size; clear hgrowa hata hlta)
        have HOv0 : Hid (OwS 65 wa w.heap.size (.slice (some ⟨ga, 0, none⟩) (o.length + 1) capa) (o ++ [zs b])) := by
          show OwS _ _ _ _ _
          unfold OwS
          rw [sgl_app, List.length_append]
          exact howna
        obtain ⟨R, hR⟩ : ∃ R, R = o ++ [zs b] := ⟨_, rfl⟩
        obtain ⟨M, hM⟩ : ∃ M, M = o.length + 1 := ⟨_, rfl⟩
        have HRM : Hid (R.length = M) := by show _ = _; rw [hR, hM]; simp
        have HRw : Hid (R = wi b l) := by show _ = _; rw [hR]; exact HE.out
        rw [← hR, ← hM] at HOv0
        rw [← hM]
        have hMn : M ≤ 8796093022207 := by omega
        have HOv : Hid (OwS 65 wa w.heap.size (.slice (some ⟨ga, 0, none⟩) M capa) (mb b k (R.take 0) ++ R.drop 0)) := HOv0
        have HBv := HBa
        clear hM hR howna HOv0
        go_loopg [10] M (fun q i wy => ∃ m : Nat, m + q = M ∧ i = .int .i64 (m : Int) ∧ Hid (OwS 65 wy w.heap.size (.slice (some ⟨ga, 0, none⟩) M capa) (mb b k (R.take m) ++ R.drop m)) ∧ Hid (Below w.heap.size w wy))
        case atStart => exact ⟨0, by omega, rfl, HOv, HBv⟩
        case round =>
          obtain ⟨m, hm, rfl, HO2, HB2⟩ := hrel
          by_cases hlm : m < M
          · obtain ⟨k2, rfl⟩ : ∃ k2, gk = k2 + 1 := ⟨gk - 1, by omega⟩
            have hmR : m < R.length := by rw [HRM.out]; exact hlm
            have hmI : (m : Int) < M := by omega
            have hMb : (M : Int) ≤ 8796093022208 := by omega
            have HDr2 := hid (List.drop_eq_getElem_cons hmR)
            have HTk2 := hid (List.take_succ_eq_append_getElem hmR)
            have hml : (mb b k (R.take m)).length = m := by unfold mb; rw [List.length_map, List.length_take]; omega
            generalize R[m] = s at *
            have HM2 := hid hm
            have hr : Hid (OwS 65 wr w.heap.size (.slice (some ⟨ga, 0, none⟩) M capa) (mb b k (R.take m) ++ s :: R.drop (m + 1))) := by rw [← HDr2.out]; exact HO2
            have hrl : (mb b k (R.take m) ++ s :: R.drop (m + 1)).length = M := by rw [List.length_append, hml, List.length_cons, List.length_drop, HRM.out]; omega
            have hrow : wr.ownsRow w.heap.size 65 4 (.slice (some ⟨ga, 0, none⟩) M capa) M (sgl (mb b k (R.take m) ++ s :: R.drop (m + 1))) := by
              have := hr.out
              unfold OwS at this
              rw [hrl] at this
              exact this
            have hat : ∀ i, i < 4 → wr.cell? ⟨ga, m * 4 + i, none⟩ = (sgc s)[i]? := fun i hi => by
              rw [hrow.cellAt (m * 4 + i) (by omega), sgl_at (by rw [hrl]; exact hlm) hi]
              congr 2
              rw [List.getD_eq_getElem?_getD, List.getElem?_append_right (by omega), hml]
              simp
            have hstep : ∀ q, q ≤ 2 → OwS 65 (wr.setCell ⟨ga, m * 4 + 1 + q, none⟩ (.bool true)) w.heap.size (.slice (some ⟨ga, 0, none⟩) M capa) (mb b k (R.take m) ++ setb s q :: R.drop (m + 1)) := fun q hq => by
              have h1 := own_set (i := m * 4 + 1 + q) (u := .bool true) hrow
              have h2 := sgl_setm (mb b k (R.take m)) (R.drop (m + 1)) s hq
              rw [hml] at h2
              rw [h2] at h1
              unfold OwS
              have e : (mb b k (R.take m) ++ setb s q :: R.drop (m + 1)).length = M := by rw [← hrl]; simp
              rw [e]
              exact h1
            have hga : w.heap.size ≤ ga := row_own hrow (g := ga) rfl
            have hbset : ∀ q, Below w.heap.size w (wr.setCell ⟨ga, m * 4 + 1 + q, none⟩ (.bool true)) := fun q => ⟨HB2.out.os, HB2.out.tape, HB2.out.output, by have := HB2.out.size; simp [World.setCell]; omega, fun i hi => (Below.heap_setCell wr _ _ i (by show i ≠ ga; omega)).trans (HB2.out.block i hi)⟩
            have hmbs : mb b k (R.take (m + 1)) = mb b k (R.take m) ++ [if s.b = (b : Int) then setb s k else s] := by rw [HTk2.out]; unfold mb; rw [List.map_append]; rfl
            have HMS := hid hmbs
            have HST := hid hstep
            have HBT := hid hbset
            have x0 := hat 0 (by omega)
            have HAT := hid hat
            have HFZ : Hid (∀ i, wr.frozen? ⟨ga, i, none⟩ = false) := fun i => hrow.frozenAt i
            have HRW := hr
            clear hstep hbset hmbs hat hrow hr hrl hml hm HO2
            obtain ⟨sb, sx, sy, sz⟩ := s
            have x0' : wr.cell? ⟨ga, m * 4, none⟩ = some (.int .i64 sb) := x0
            clear x0
            by_cases hse : sb = b
            · have heq : (sb == (b : Int)) = true := by simpa using hse
              have HSE := hid hse
              clear hse
              rcases hk3 with rfl | rfl | rfl
              · have y0 : wr.cell? ⟨ga, m * 4 + 1 + 0, none⟩ = some (.bool sx) := HAT.out (1 + 0) (by omega)
                have y1 := HFZ.out (m * 4 + 1 + 0)
                go_wp2_with fail
                go_roundg k2
                case measure => omega
                case rel =>
                  refine ⟨m + 1, by have := HM2.out; omega, congrArg (Value.int .i64) (by omega), ?_, HBT.out 0⟩
                  rw [HMS.out, if_pos HSE.out]
                  have := HST.out 0 (by omega)
                  show OwS _ _ _ _ _
                  simpa using this
              · have y0 : wr.cell? ⟨ga, m * 4 + 1 + 1, none⟩ = some (.bool sy) := HAT.out (1 + 1) (by omega)
                have y1 := HFZ.out (m * 4 + 1 + 1)
                go_wp2_with fail
                go_roundg k2
                case measure => omega
                case rel =>
                  refine ⟨m + 1, by have := HM2.out; omega, congrArg (Value.int .i64) (by omega), ?_, HBT.out 1⟩
                  rw [HMS.out, if_pos HSE.out]
                  have := HST.out 1 (by omega)
                  show OwS _ _ _ _ _
                  simpa using this
              · have y0 : wr.cell? ⟨ga, m * 4 + 1 + 2, none⟩ = some (.bool sz) := HAT.out (1 + 2) (by omega)
                have y1 := HFZ.out (m * 4 + 1 + 2)
                go_wp2_with fail
                go_roundg k2
                case measure => omega
                case rel =>
                  refine ⟨m + 1, by have := HM2.out; omega, congrArg (Value.int .i64) (by omega), ?_, HBT.out 2⟩
                  rw [HMS.out, if_pos HSE.out]
                  have := HST.out 2 (by omega)
                  show OwS _ _ _ _ _
                  simpa using this
            · have heq : (sb == (b : Int)) = false := by rw [beq_eq_false_iff_ne]; exact hse
              have HSE := hid hse
              clear hse
              go_wp2_with fail
              go_roundg k2
              case measure => omega
              case rel =>
                refine ⟨m + 1, by have := HM2.out; omega, congrArg (Value.int .i64) (by omega), ?_, HB2⟩
                rw [HMS.out, if_neg HSE.out]
                have := HRW
                simpa using this
          · obtain rfl : m = M := by omega
            have hnm : ¬ (m : Int) < m := by omega
            have e1 : R.take m = R := List.take_of_length_le (by rw [HRM.out]; exact Nat.le_refl _)
            have e2 : R.drop m = [] := List.drop_eq_nil_of_le (by rw [HRM.out]; exact Nat.le_refl _)
            rw [e1, e2, List.append_nil] at HO2
            clear e1 e2
            go_wp2_with fail
            go_ret
            exact ⟨⟨_, rfl, by rw [← HRw.out]; exact HO2.out⟩, HB2.out⟩
      · have HE : Hid (o = wi b l) := by
          show _ = _
          rw [← ho, List.drop_eq_nil_of_le (by rw [← HN.out]; exact Nat.le_refl _), List.append_nil]
        clear ho HI
        obtain ⟨M, hM⟩ : ∃ M, M = o.length := ⟨_, rfl⟩
        have hM0 : o.length ≠ 0 := by rw [HE.out]; exact wi_ne b l
        obtain ⟨gv, cv, rfl⟩ : ∃ gv cv, u7 = .slice (some ⟨gv, 0, none⟩) o.length cv := by
          rcases HO.out.2 with ⟨_, h⟩ | ⟨g9, c9, _, h, _⟩
          · exact absurd h hM0
          · exact ⟨g9, c9, h⟩
        rw [← hM] at HO hol ⊢
        have HRM : Hid (o.length = M) := hM.symm
        have HRw := HE
        have hMn : M ≤ 8796093022207 := by omega
        have HOv : Hid (OwS 65 wr w.heap.size (.slice (some ⟨gv, 0, none⟩) M cv) (mb b k (o.take 0) ++ o.drop 0)) := HO
        have HBv := HB
        clear hM hM0
        go_wp2_with fail
        go_loopg [10] M (fun q i wy => ∃ m : Nat, m + q = M ∧ i = .int .i64 (m : Int) ∧ Hid (OwS 65 wy w.heap.size (.slice (some ⟨gv, 0, none⟩) M cv) (mb b k (o.take m) ++ o.drop m)) ∧ Hid (Below w.heap.size w wy))
        case atStart => exact ⟨0, by omega, rfl, HOv, HBv⟩
        case round =>
          obtain ⟨m, hm, rfl, HO2, HB2⟩ := hrel
          by_cases hlm : m < M
          · obtain ⟨k2, rfl⟩ : ∃ k2, gk = k2 + 1 := ⟨gk - 1, by omega⟩
            have hmR : m < o.length := by rw [HRM.out]; exact hlm
            have hmI : (m : Int) < M := by omega
            have hMb : (M : Int) ≤ 8796093022208 := by omega
            have HDr2 := hid (List.drop_eq_getElem_cons hmR)
            have HTk2 := hid (List.take_succ_eq_append_getElem hmR)
            have hml : (mb b k (o.take m)).length = m := by unfold mb; rw [List.length_map, List.length_take]; omega
            generalize o[m] = s at *
            have HM2 := hid hm
            have hr : Hid (OwS 65 wr w.heap.size (.slice (some ⟨gv, 0, none⟩) M cv) (mb b k (o.take m) ++ s :: o.drop (m + 1))) := by rw [← HDr2.out]; exact HO2
            have hrl : (mb b k (o.take m) ++ s :: o.drop (m + 1)).length = M := by rw [List.length_append, hml, List.length_cons, List.length_drop, HRM.out]; omega
            have hrow : wr.ownsRow w.heap.size 65 4 (.slice (some ⟨gv, 0, none⟩) M cv) M (sgl (mb b k (o.take m) ++ s :: o.drop (m + 1))) := by
              have := hr.out
              unfold OwS at this
              rw [hrl] at this
              exact this
            have hat : ∀ i, i < 4 → wr.cell? ⟨gv, m * 4 + i, none⟩ = (sgc s)[i]? := fun i hi => by
              rw [hrow.cellAt (m * 4 + i) (by omega), sgl_at (by rw [hrl]; exact hlm) hi]
              congr 2
              rw [List.getD_eq_getElem?_getD, List.getElem?_append_right (by omega), hml]
              simp
            have hstep : ∀ q, q ≤ 2 → OwS 65 (wr.setCell ⟨gv, m * 4 + 1 + q, none⟩ (.bool true)) w.heap.size (.slice (some ⟨gv, 0, none⟩) M cv) (mb b k (o.take m) ++ setb s q :: o.drop (m + 1)) := fun q hq => by
              have h1 := own_set (i := m * 4 + 1 + q) (u := .bool true) hrow
              have h2 := sgl_setm (mb b k (o.take m)) (o.drop (m + 1)) s hq
              rw [hml] at h2
              rw [h2] at h1
              unfold OwS
              have e : (mb b k (o.take m) ++ setb s q :: o.drop (m + 1)).length = M := by rw [← hrl]; simp
              rw [e]
              exact h1
            have hgv : w.heap.size ≤ gv := row_own hrow (g := gv) rfl
            have hbset : ∀ q, Below w.heap.size w (wr.setCell ⟨gv, m * 4 + 1 + q, none⟩ (.bool true)) := fun q => ⟨HB2.out.os, HB2.out.tape, HB2.out.output, by have := HB2.out.size; simp [World.setCell]; omega, fun i hi => (Below.heap_setCell wr _ _ i (by show i ≠ gv; omega)).trans (HB2.out.block i hi)⟩
            have hmbs : mb b k (o.take (m + 1)) = mb b k (o.take m) ++ [if s.b = (b : Int) then setb s k else s] := by rw [HTk2.out]; unfold mb; rw [List.map_append]; rfl
            have HMS := hid hmbs
            have HST := hid hstep
            have HBT := hid hbset
            have x0 := hat 0 (by omega)
            have HAT := hid hat
            have HFZ : Hid (∀ i, wr.frozen? ⟨gv, i, none⟩ = false) := fun i => hrow.frozenAt i
            have HRW := hr
            clear hstep hbset hmbs hat hrow hr hrl hml hm HO2
            obtain ⟨sb, sx, sy, sz⟩ := s
            have x0' : wr.cell? ⟨gv, m * 4, none⟩ = some (.int .i64 sb) := x0
            clear x0
            by_cases hse : sb = b
            · have heq : (sb == (b : Int)) = true := by simpa using hse
              have HSE := hid hse
              clear hse
              rcases hk3 with rfl | rfl | rfl
              · have y0 : wr.cell? ⟨gv, m * 4 + 1 + 0, none⟩ = some (.bool sx) := HAT.out (1 + 0) (by omega)
                have y1 := HFZ.out (m * 4 + 1 + 0)
                go_wp2_with fail
                go_roundg k2
                case measure => omega
                case rel =>
                  refine ⟨m + 1, by have := HM2.out; omega, congrArg (Value.int .i64) (by omega), ?_, HBT.out 0⟩
                  rw [HMS.out, if_pos HSE.out]
                  have := HST.out 0 (by omega)
                  show OwS _ _ _ _ _
                  simpa using this
              · have y0 : wr.cell? ⟨gv, m * 4 + 1 + 1, none⟩ = some (.bool sy) := HAT.out (1 + 1) (by omega)
                have y1 := HFZ.out (m * 4 + 1 + 1)
                go_wp2_with fail
                go_roundg k2
                case measure => omega
                case rel =>
                  refine ⟨m + 1, by have := HM2.out; omega, congrArg (Value.int .i64) (by omega), ?_, HBT.out 1⟩
                  rw [HMS.out, if_pos HSE.out]
                  have := HST.out 1 (by omega)
                  show OwS _ _ _ _ _
                  simpa using this
              · have y0 : wr.cell? ⟨gv, m * 4 + 1 + 2, none⟩ = some (.bool sz) := HAT.out (1 + 2) (by omega)
                have y1 := HFZ.out (m * 4 + 1 + 2)
                go_wp2_with fail
                go_roundg k2
                case measure => omega
                case rel =>
                  refine ⟨m + 1, by have := HM2.out; omega, congrArg (Value.int .i64) (by omega), ?_, HBT.out 2⟩
                  rw [HMS.out, if_pos HSE.out]
                  have := HST.out 2 (by omega)
                  show OwS _ _ _ _ _
                  simpa using this
            · have heq : (sb == (b : Int)) = false := by rw [beq_eq_false_iff_ne]; exact hse
              have HSE := hid hse
              clear hse
              go_wp2_with fail
              go_roundg k2
              case measure => omega
              case rel =>
                refine ⟨m + 1, by have := HM2.out; omega, congrArg (Value.int .i64) (by omega), ?_, HB2⟩
                rw [HMS.out, if_neg HSE.out]
                have := HRW
                simpa using this
          · obtain rfl : m = M := by omega
            have hnm : ¬ (m : Int) < m := by omega
            have e1 : o.take m = o := List.take_of_length_le (by rw [HRM.out]; exact Nat.le_refl _)
            have e2 : o.drop m = [] := List.drop_eq_nil_of_le (by rw [HRM.out]; exact Nat.le_refl _)
            rw [e1, e2, List.append_nil] at HO2
            clear e1 e2
            go_wp2_with fail
            go_ret
            exact ⟨⟨_, rfl, by rw [← HRw.out]; exact HO2.out⟩, HB2.out⟩
end Go.Proofs.YtgffipkbbenddaaDoor
