/- Group: the program's walk. -/
import Derived.Test.YtgffipkbbenddaaDoorGrg
namespace Go.Proofs.YtgffipkbbenddaaDoor
open Go.RowKit Go.Lib Go.Sort
theorem own_set {w : World} {B : Nat} {e : TypeId} {size g n cap : Nat} {xs : List Value} (h : w.ownsRow B e size (.slice (some ⟨g, 0, none⟩) n cap) n xs) (i : Nat) (u : Value) : (w.setCell ⟨g, i, none⟩ u).ownsRow B e size (.slice (some ⟨g, 0, none⟩) n cap) n (xs.set i u) := by
  refine ⟨by rw [List.length_set]; exact h.1, ?_⟩
  rcases h.2 with ⟨h1, _⟩ | ⟨g', cap', cur, hv, h3, h4, h5, h6, h7, h8⟩
  · cases h1
  · simp only [Value.slice.injEq, Option.some.injEq, Addr.mk.injEq, and_true, true_and] at hv
    obtain ⟨rfl, rfl⟩ := hv
    refine Or.inr ⟨g, cap, cur.setIfInBounds i u, rfl, h3, heap_set h4, h5, h6, by rw [Array.size_setIfInBounds]; exact h7, ?_⟩
    rw [Array.toList_setIfInBounds, List.take_set, h8]
theorem sgl_set (A : List Sg) (s : Sg) {k : Nat} (hk : k ≤ 2) : (sgl (A ++ [s])).set (A.length * 4 + 1 + k) (.bool true) = sgl (A ++ [setb s k]) := by
  obtain ⟨b, x, y, z⟩ := s
  rw [sgl_app, sgl_app, List.set_append_right _ _ (by rw [sgl_len]; omega), sgl_len, show A.length * 4 + 1 + k - A.length * 4 = k + 1 from by omega]
  congr 1
  rcases (by omega : k = 0 ∨ k = 1 ∨ k = 2) with h | h | h <;> subst h <;> rfl
theorem OwS.set {T : TypeId} {w : World} {B g cap : Nat} {A : List Sg} {s : Sg} (h : OwS T w B (.slice (some ⟨g, 0, none⟩) (A ++ [s]).length cap) (A ++ [s])) {k : Nat} (hk : k ≤ 2) : OwS T (w.setCell ⟨g, A.length * 4 + 1 + k, none⟩ (.bool true)) B (.slice (some ⟨g, 0, none⟩) (A ++ [s]).length cap) (A ++ [setb s k]) := by
  have h' := own_set (i := A.length * 4 + 1 + k) (u := .bool true) h
  rw [sgl_set A s hk] at h'
  unfold OwS
  have e : (A ++ [setb s k]).length = (A ++ [s]).length := by simp
  rw [e]
  exact h'
theorem addS_nil (b k : Nat) : addS [] b k = [setb ⟨b, false, false, false⟩ k] := rfl
theorem addS_eq {A : List Sg} {s : Sg} {b : Nat} (k : Nat) (h : s.b = b) : addS (A ++ [s]) b k = A ++ [setb s k] := by
  unfold addS
  rw [List.getLast?_concat]
  simp only [List.dropLast_concat]
  rw [if_pos h]
theorem addS_ne {A : List Sg} {s : Sg} {b : Nat} (k : Nat) (h : s.b ≠ b) : addS (A ++ [s]) b k = (A ++ [s]) ++ [setb ⟨b, false, false, false⟩ k] := by
  unfold addS
  rw [List.getLast?_concat]
  simp only
  rw [if_neg h]
theorem grp_step {S : List (List UInt8)} {j : Nat} (h : j < S.length) : grp (S.take (j + 1)) = gs1 (grp (S.take j)) S[j] := by
  unfold grp
  rw [List.take_succ_eq_append_getElem h, List.foldl_append]
  rfl
theorem Tryd.infoStr : (Tryd.prog.info? 9).map (fun i => (i.zero, i.size, i.bytes)) = some (some (.string ⟨#[]⟩), 1, 16) := by kernel_rfl
theorem addS_len (l : List Sg) (b k : Nat) : (addS l b k).length ≤ l.length + 1 := by
  unfold addS
  split
  · split
    · simp
    · simp
  · simp
theorem gs1_len (st : List Sg × List (List UInt8)) (t : List UInt8) : (gs1 st t).1.length + (gs1 st t).2.length ≤ st.1.length + st.2.length + 1 := by
  cases hp : prs t with
  | none => rw [gs1_none hp]; simp; omega
  | some q =>
    obtain ⟨b, k⟩ := q
    rw [gs1_some hp]
    have := addS_len st.1 b k
    simp only
    omega
theorem fold_len : ∀ (R : List (List UInt8)) (st : List Sg × List (List UInt8)), (R.foldl gs1 st).1.length + (R.foldl gs1 st).2.length ≤ st.1.length + st.2.length + R.length
  | [], st => by simp
  | t :: R, st => by
    have h1 := fold_len R (gs1 st t)
    have h2 := gs1_len st t
    rw [List.foldl_cons, List.length_cons]
    omega
theorem grp_len (R : List (List UInt8)) : (grp R).1.length + (grp R).2.length ≤ R.length := by
  show (R.foldl gs1 ([], [])).1.length + (R.foldl gs1 ([], [])).2.length ≤ R.length
  simpa using fold_len R ([], [])
theorem row_le9 {w : World} {base base' size n : Nat} {e : TypeId} {v : Value} {xs : List Value} (h : w.ownsRow base e size v n xs) (hb : base' ≤ base) : w.ownsRow base' e size v n xs :=
  ⟨h.1, h.2.imp_right fun ⟨g, cap, cur, h1, h2, h3⟩ => ⟨g, cap, cur, h1, Nat.le_trans hb h2, h3⟩⟩
theorem bel_alloc (w : World) (o : Obj) : RowKit.Below w.heap.size w (w.alloc o) := (RowKit.Below.refl _ _).alloc (Nat.le_refl _) _
/-- What Group keeps under way. -/
structure Gw (w wr : World) (B : Nat) (v1 v2 : Value) (l1 : List Sg) (l2 : List (List UInt8)) : Prop where
  r1 : OwS 45 wr B v1 l1
  r2 : OwX wr B v2 l2
  bel : Below B w wr
theorem Gw.later {w wr wx : World} {B : Nat} {v1 v2 : Value} {l1 : List Sg} {l2 : List (List UInt8)} (h : Gw w wr B v1 v2 l1 l2) (hb : Below wr.heap.size wr wx) (hB : B ≤ wr.heap.size) : Gw w wx B v1 v2 l1 l2 :=
  ⟨h.r1.below hb (Nat.le_refl _), h.r2.kept fun g _ hg => hb.block g hg, h.bel.trans (hb.mono hB)⟩
theorem Gw.push {w w4 w5 : World} {B : Nat} {v1 v2 : Value} {l1 : List Sg} {l2 : List (List UInt8)} (h : Gw w w4 B v1 v2 l1 l2) {g cap : Nat} {s : Sg} (hown : w5.ownsRow B 45 4 (.slice (some ⟨g, 0, none⟩) (l1.length + 1) cap) (l1.length + 1) (sgl l1 ++ sgc s)) (hgrow : w4.grownBy w5 v1.ownBlock) (hB : B ≤ w4.heap.size) {k : Nat} (hk : k ≤ 2) :
    Gw w (w5.setCell ⟨g, l1.length * 4 + 1 + k, none⟩ (.bool true)) B (.slice (some ⟨g, 0, none⟩) (l1.length + 1) cap) v2 (l1 ++ [setb s k]) l2 ∧ w5.cell? ⟨g, l1.length * 4 + 1 + k, none⟩ = (sgc s)[1 + k]? ∧ w5.frozen? ⟨g, l1.length * 4 + 1 + k, none⟩ = false := by
  have e1 : (l1 ++ [s]).length = l1.length + 1 := by simp
  have e2 : sgl (l1 ++ [s]) = sgl l1 ++ sgc s := by rw [sgl_app]; simp [sgl]
  have hs : OwS 45 w5 B (.slice (some ⟨g, 0, none⟩) (l1 ++ [s]).length cap) (l1 ++ [s]) := by
    unfold OwS
    rw [e1, e2]
    exact hown
  have hx : OwX w5 B v2 l2 := h.r2.kept fun g' hg' hlt' => hgrow.block g' hlt' (fun e => ow_ne (by decide) h.r1 h.r2 e.symm hg')
  have hbel : RowKit.Below B w w5 := h.bel.grown hgrow hB fun k' hk' => h.r1.own hk'
  have hset := OwS.set hs hk
  rw [e1] at hset
  have hg1 : B ≤ g := hs.own (g := g) rfl
  refine ⟨⟨hset, hx.kept fun g' hg' _ => ?_, ?_⟩, ?_, hown.frozenAt _⟩
  · exact Below.heap_setCell w5 _ _ g' (fun e => ow_ne (by decide) hs hx (g := g) rfl (by rw [hg', e]))
  · exact ⟨hbel.os, hbel.tape, hbel.output, by have := hbel.size; simp [World.setCell]; omega, fun i hi => (Below.heap_setCell w5 _ _ i (by show i ≠ g; omega)).trans (hbel.block i hi)⟩
  · rw [hown.cellAt (l1.length * 4 + 1 + k) (by omega), show l1.length * 4 + 1 + k = l1.length * 4 + (1 + k) from by omega, ← e2, sgl_at (by rw [e1]; omega) (by omega)]
    congr 2
    rw [List.getD_eq_getElem?_getD, List.getElem?_append_right (Nat.le_refl _)]
    simp
set_option maxRecDepth 20000 in
set_option maxHeartbeats 4000000 in
theorem group_any (l : List ByteArray) (a : Option Addr) (cap : Nat) (w : World) (G : Gd w) (hv : Txs w a l) (hn : l.length ≤ 8796093022208) (hz : ∀ y ∈ l, y.size ≤ 140737488355328) :
    Calls Tryd.prog 15 #[.slice a l.length cap] w fun e w' => (∃ v1 v2, e = .returned (.tuple #[v1, v2]) ∧ OwS 45 w' w.heap.size v1 (grp (srt (l.map fun s => s.data.toList))).1 ∧ OwX w' w.heap.size v2 (grp (srt (l.map fun s => s.data.toList))).2) ∧ Below w.heap.size w w' := by
  have HC := hid (clone_sort cap w hv hn)
  obtain ⟨T, hT⟩ : ∃ T, T = l.map fun s => s.data.toList := ⟨_, rfl⟩
  rw [← hT] at HC ⊢
  have hTl : T.length = l.length := by rw [hT, List.length_map]
  have hTz : ∀ t ∈ T, t.length ≤ 140737488355328 := fun t ht => by
    rw [hT, List.mem_map] at ht
    obtain ⟨y, hy, rfl⟩ := ht
    rw [len_]
    exact hz y hy
  have HSrt : Hid (∀ wx v, OwX wx w.heap.size v T → Calls Tryd.prog 30 #[v] wx fun e w' => e = .returned (.tuple #[]) ∧ (∃ a cap, v = .slice a T.length cap ∧ Txs w' a ((srt T).map ba)) ∧ Below w.heap.size wx w') := fun wx v h => sort_own h (by omega)
  obtain ⟨S, hS⟩ : ∃ S, S = srt T := ⟨_, rfl⟩
  have hSl : S.length = T.length := by rw [hS]; exact (srt_perm T).length_eq
  have hSz : ∀ t ∈ S, t.length ≤ 140737488355328 := fun t ht => hTz t ((srt_perm T).mem_iff.1 (by rw [← hS]; exact ht))
  rw [← hS] at HSrt ⊢
  have HG : Hid (∀ wx, Below w.heap.size w wx → Gd wx) := fun wx hx => G.kept hx (Nat.le_refl _)
  have HSZ := hid hSz
  obtain ⟨i0, hi, hz0, hz1, hz2⟩ := info_parts Tryd.infoS
  obtain ⟨i1, ji, jz0, jz1, jz2⟩ := info_parts Tryd.infoStr
  have HL := hid (And.intro hSl hTl)
  have HNL := hid hn
  clear hTz hz G hv hT hS hTl hSl hSz hn
  go_enter Tryd.func15, Tryd.ntmps15
  go_wp2_with (first | (go_at_call 29; refine HC.out.mono ?_; rintro e w1 ⟨⟨v, rfl, ho1⟩, hb1⟩; have HO1 := hid ho1; clear ho1) | (go_at_call 30; refine (HSrt.out _ _ HO1.out).mono ?_; rintro e w2 ⟨rfl, ⟨a2, c2, rfl, hx2⟩, hb2⟩; have HX2 := hid hx2; clear hx2))
  have HB2 := hid (hb1.trans hb2)
  have HBs : Hid (w.heap.size ≤ w2.heap.size) := HB2.out.size
  clear hb1 hb2 HO1 HC HSrt
  generalize hN : T.length = N at *
  have hNN : N ≤ 8796093022208 := by have := HL.out; have := HNL.out; omega
  have HSN : Hid (S.length = N) := HL.out.1
  go_loopg [4, 5, 19] N (fun k v1 v2 i wr => ∃ j : Nat, j + k = N ∧ i = .int .i64 j ∧ Hid (Gw w2 wr w2.heap.size v1 v2 (grp (S.take j)).1 (grp (S.take j)).2))
  case atStart => exact ⟨0, by omega, rfl, ⟨OwS.nil _ _ _, OwX.nil _ _, Below.refl _ _⟩⟩
  case round =>
    obtain ⟨j, hj, rfl, HW⟩ := hrel
    by_cases hlt : j < N
    · obtain ⟨k', rfl⟩ : ∃ k', gk = k' + 1 := ⟨gk - 1, by omega⟩
      have hltI : (j : Int) < N := by omega
      have hjS : j < S.length := by rw [HSN.out]; exact hlt
      rcases HX2.out with e | ⟨bk, off, rfl, hbk, hc⟩
      · exact absurd hjS (by rw [List.map_eq_nil_iff] at e; rw [e]; simp)
      have c0 := hc j (by rw [List.length_map]; exact hjS)
      rw [List.getD_eq_getElem?_getD, List.getElem?_map, List.getElem?_eq_getElem hjS] at c0
      simp only [Option.map_some, Option.getD_some] at c0
      have hts : S[j].length ≤ 140737488355328 := HSZ.out _ (List.getElem_mem _)
      have HST := hid (grp_step hjS)
      generalize S[j] = t at *
      have hbel := HW.out.bel
      have c1 := (hbel.cell (p := ⟨bk, off + j, none⟩) hbk).trans c0
      have HP : Hid (Calls Tryd.prog 12 #[.string (ba t)] wr fun e w' => e = .returned (prV (prs t)) ∧ Below wr.heap.size wr w') := by
        have := parse_any (ba t) wr (by rw [ba_size]; exact hts) (HG.out _ (HB2.out.trans (hbel.mono HBs.out)))
        rw [show (ba t).data.toList = t from rfl] at this
        exact this
      have HJ := hid (And.intro hj hts)
      have HWl : Hid (w2.heap.size ≤ wr.heap.size) := hbel.size
      clear hc c0 hj hts hbel
      have hgl := grp_len (S.take j)
      rw [List.length_take] at hgl
      generalize grp (S.take j) = st at *
      obtain ⟨l1, l2⟩ := st
      have HLB : Hid (l1.length ≤ j ∧ l2.length ≤ j) := by show _ ∧ _; simp only at hgl; omega
      clear hgl
      cases hp : prs t with
      | none =>
        rw [hp] at HP
        rw [gs1_none hp] at HST
        simp only [prV] at HP
        go_wp2_with (first | (go_at_call 12; refine HP.out.mono ?_; rintro e w3 ⟨rfl, hb3⟩; have HG3 := hid (HW.out.later hb3 HWl.out); have HG4 := hid (HG3.out.later (bel_alloc w3 (Obj.cells #[.string (ba t)] 9)) (Nat.le_trans HWl.out hb3.size)); have HSZ3 : Hid (w2.heap.size ≤ w3.heap.size) := Nat.le_trans HWl.out hb3.size; clear hb3) | (at_builtin; refine wpList_append_lies _ rfl _ _ 29 rfl w2.heap.size 9 i1 (.string ⟨#[]⟩) 1 16 Tryd.underlying29 ji jz0 jz1 jz2 rfl (by decide) _ l2.length (l2.map fun t => Value.string (ba t)) rfl HG4.out.r2 ⟨w3.heap.size, 0, none⟩ 1 1 [.string (ba t)] rfl rfl ?c1 ?c2 ?c3 ?c4 ?c5 ?c6 _ rfl ?_))
        case c1 => exact World.news_of_block (heap_new w3 _)
        case c2 => intro u hu; rw [List.mem_singleton.1 hu]; rfl
        case c3 => omega
        case c4 => unfold maxLen; have := HLB.out; omega
        case c5 => have := HLB.out; omega
        case c6 => simp; have := HSZ3.out; omega
        intro g cap3 w5 hown hgrow hat hlt5
        have HE : Hid (Gw w2 w5 w2.heap.size u4 (.slice (some ⟨g, 0, none⟩) (l2.length + 1) cap3) l1 (l2 ++ [t])) := by
          have h4 := HG4.out
          refine ⟨h4.r1.kept fun g' hg' hlt' => hgrow.block g' hlt' ?_, ?_, h4.bel.grown hgrow (by simp; have := HSZ3.out; omega) fun k' hk' => h4.r2.own hk'⟩
          · exact fun e => ow_ne (by decide) h4.r1 h4.r2 hg' e.symm
          · unfold OwX
            rw [List.length_append, List.map_append]
            exact hown
        clear hown hgrow hat hlt5
        go_wp2_with fail
        go_roundg k'
        case measure => omega
        case rel => exact ⟨j + 1, by have := HJ.out.1; omega, congrArg (Value.int .i64) (by omega), by rw [HST.out]; exact HE.out⟩
      | some q =>
        obtain ⟨b, k⟩ := q
        obtain ⟨hb, hk, htn⟩ := prs_some hp
        clear htn
        rw [hp] at HP
        rw [gs1_some hp] at HST
        simp only [prV] at HP
        clear hp
        have HBK := hid hb
        have hk3 : k = 0 ∨ k = 1 ∨ k = 2 := by omega
        clear hb hk
        by_cases hl1 : l1 = []
        · subst hl1
          obtain ⟨x9, c9, rfl⟩ : ∃ x9 c9, u4 = .slice x9 0 c9 := by
            obtain ⟨x9, c9, h, _⟩ := HW.out.r1.sgs
            exact ⟨x9, c9, h⟩
          have HAD : Hid (addS [] b k = [] ++ [setb ⟨b, false, false, false⟩ k]) := addS_nil b k
          have HM : Hid (([] : List Sg).length = 0) := rfl
          have HWn : Hid (Gw w2 wr w2.heap.size (.slice x9 0 c9) u5 [] l2) := HW
          clear HLB
          rcases hk3 with rfl | rfl | rfl
          · have HGo : Hid (Gw w2 wr w2.heap.size (.slice x9 0 c9) u5 ([] : List Sg) l2) := HWn
            have hbI : (0 : Int) ≤ b := by omega
            clear HX2 HG HSZ HL HNL HSN HBs HB2 i1 ji jz0 jz1 jz2
            go_wp2_with (first | (go_at_call 12; refine HP.out.mono ?_; rintro e w3 ⟨rfl, hb3⟩;  have HSZ3 : Hid (w2.heap.size ≤ w3.heap.size) := Nat.le_trans HWl.out hb3.size; have HG4 := hid ((HGo.out.later hb3 HWl.out).later (bel_alloc w3 (Obj.cells #[.int .i64 (b : Int), .bool false, .bool false, .bool false] 45)) HSZ3.out); clear hb3) | (at_builtin; refine wpList_append_lies _ rfl _ _ 38 rfl w2.heap.size 45 i0 (.agg #[.int .i64 0, .bool false, .bool false, .bool false]) 4 16 Tryd.underlying38 hi hz0 hz1 hz2 rfl (by decide) _ 0 (sgl ([] : List Sg)) rfl ?c0 ⟨w3.heap.size, 0, none⟩ 1 1 (sgc ⟨(b : Int), false, false, false⟩) rfl rfl ?c1 ?c2 ?c3 ?c4 ?c5 ?c6 _ rfl ?_))
            case c0 => have := HG4.out.r1; unfold OwS at this; rw [HM.out] at this; exact this
            case c1 => exact World.news_of_block (heap_new w3 _)
            case c2 => exact sgc_one _
            case c3 => omega
            case c4 => unfold maxLen; omega
            case c5 => omega
            case c6 => simp; have := HSZ3.out; omega
            intro g cap3 w5 hown hgrow hat hlt5
            have hpu := Gw.push HG4.out (s := ⟨(b : Int), false, false, false⟩) (k := 0) (by rw [HM.out]; exact hown) hgrow (by simp; have := HSZ3.out; omega) (by omega)
            rw [HM.out] at hpu
            obtain ⟨hE, x1, x2⟩ := hpu
            have x1' : w5.cell? ⟨g, 1, none⟩ = some (.bool false) := x1.trans rfl
            have x2' : w5.frozen? ⟨g, 1, none⟩ = false := x2
            have HE := hid hE
            clear hown hgrow hat hlt5 hE x1 x2
            go_wp2_with fail
            go_roundg k'
            case measure => omega
            case rel => exact ⟨j + 1, by have := HJ.out.1; omega, congrArg (Value.int .i64) (by omega), by rw [HST.out, HAD.out]; exact HE.out⟩
          · have HGo : Hid (Gw w2 wr w2.heap.size (.slice x9 0 c9) u5 ([] : List Sg) l2) := HWn
            have hbI : (0 : Int) ≤ b := by omega
            clear HX2 HG HSZ HL HNL HSN HBs HB2 i1 ji jz0 jz1 jz2
            go_wp2_with (first | (go_at_call 12; refine HP.out.mono ?_; rintro e w3 ⟨rfl, hb3⟩;  have HSZ3 : Hid (w2.heap.size ≤ w3.heap.size) := Nat.le_trans HWl.out hb3.size; have HG4 := hid ((HGo.out.later hb3 HWl.out).later (bel_alloc w3 (Obj.cells #[.int .i64 (b : Int), .bool false, .bool false, .bool false] 45)) HSZ3.out); clear hb3) | (at_builtin; refine wpList_append_lies _ rfl _ _ 38 rfl w2.heap.size 45 i0 (.agg #[.int .i64 0, .bool false, .bool false, .bool false]) 4 16 Tryd.underlying38 hi hz0 hz1 hz2 rfl (by decide) _ 0 (sgl ([] : List Sg)) rfl ?c0 ⟨w3.heap.size, 0, none⟩ 1 1 (sgc ⟨(b : Int), false, false, false⟩) rfl rfl ?c1 ?c2 ?c3 ?c4 ?c5 ?c6 _ rfl ?_))
            case c0 => have := HG4.out.r1; unfold OwS at this; rw [HM.out] at this; exact this
            case c1 => exact World.news_of_block (heap_new w3 _)
            case c2 => exact sgc_one _
            case c3 => omega
            case c4 => unfold maxLen; omega
            case c5 => omega
            case c6 => simp; have := HSZ3.out; omega
            intro g cap3 w5 hown hgrow hat hlt5
            have hpu := Gw.push HG4.out (s := ⟨(b : Int), false, false, false⟩) (k := 1) (by rw [HM.out]; exact hown) hgrow (by simp; have := HSZ3.out; omega) (by omega)
            rw [HM.out] at hpu
            obtain ⟨hE, x1, x2⟩ := hpu
            have x1' : w5.cell? ⟨g, 2, none⟩ = some (.bool false) := x1.trans rfl
            have x2' : w5.frozen? ⟨g, 2, none⟩ = false := x2
            have HE := hid hE
            clear hown hgrow hat hlt5 hE x1 x2
            go_wp2_with fail
            go_roundg k'
            case measure => omega
            case rel => exact ⟨j + 1, by have := HJ.out.1; omega, congrArg (Value.int .i64) (by omega), by rw [HST.out, HAD.out]; exact HE.out⟩
          · have HGo : Hid (Gw w2 wr w2.heap.size (.slice x9 0 c9) u5 ([] : List Sg) l2) := HWn
            have hbI : (0 : Int) ≤ b := by omega
            clear HX2 HG HSZ HL HNL HSN HBs HB2 i1 ji jz0 jz1 jz2
            go_wp2_with (first | (go_at_call 12; refine HP.out.mono ?_; rintro e w3 ⟨rfl, hb3⟩;  have HSZ3 : Hid (w2.heap.size ≤ w3.heap.size) := Nat.le_trans HWl.out hb3.size; have HG4 := hid ((HGo.out.later hb3 HWl.out).later (bel_alloc w3 (Obj.cells #[.int .i64 (b : Int), .bool false, .bool false, .bool false] 45)) HSZ3.out); clear hb3) | (at_builtin; refine wpList_append_lies _ rfl _ _ 38 rfl w2.heap.size 45 i0 (.agg #[.int .i64 0, .bool false, .bool false, .bool false]) 4 16 Tryd.underlying38 hi hz0 hz1 hz2 rfl (by decide) _ 0 (sgl ([] : List Sg)) rfl ?c0 ⟨w3.heap.size, 0, none⟩ 1 1 (sgc ⟨(b : Int), false, false, false⟩) rfl rfl ?c1 ?c2 ?c3 ?c4 ?c5 ?c6 _ rfl ?_))
            case c0 => have := HG4.out.r1; unfold OwS at this; rw [HM.out] at this; exact this
            case c1 => exact World.news_of_block (heap_new w3 _)
            case c2 => exact sgc_one _
            case c3 => omega
            case c4 => unfold maxLen; omega
            case c5 => omega
            case c6 => simp; have := HSZ3.out; omega
            intro g cap3 w5 hown hgrow hat hlt5
            have hpu := Gw.push HG4.out (s := ⟨(b : Int), false, false, false⟩) (k := 2) (by rw [HM.out]; exact hown) hgrow (by simp; have := HSZ3.out; omega) (by omega)
            rw [HM.out] at hpu
            obtain ⟨hE, x1, x2⟩ := hpu
            have x1' : w5.cell? ⟨g, 3, none⟩ = some (.bool false) := x1.trans rfl
            have x2' : w5.frozen? ⟨g, 3, none⟩ = false := x2
            have HE := hid hE
            clear hown hgrow hat hlt5 hE x1 x2
            go_wp2_with fail
            go_roundg k'
            case measure => omega
            case rel => exact ⟨j + 1, by have := HJ.out.1; omega, congrArg (Value.int .i64) (by omega), by rw [HST.out, HAD.out]; exact HE.out⟩
        · obtain ⟨A, s, rfl⟩ : ∃ A s, l1 = A ++ [s] := ⟨l1.dropLast, l1.getLast hl1, (List.dropLast_concat_getLast hl1).symm⟩
          clear hl1
          have e1 : (A ++ [s]).length = A.length + 1 := by simp
          obtain ⟨g1, cap1, rfl⟩ : ∃ g1 cap1, u4 = .slice (some ⟨g1, 0, none⟩) (A.length + 1) cap1 := by
            rcases HW.out.r1.2 with ⟨_, h⟩ | ⟨g1, cap1, _, h, _⟩
            · rw [e1] at h; omega
            · exact ⟨g1, cap1, by rw [h, e1]⟩
          have HCL : Hid (∀ wx, RowKit.Below wr.heap.size wr wx → ∀ i, i < 4 → wx.cell? ⟨g1, A.length * 4 + i, none⟩ = (sgc s)[i]? ∧ wx.frozen? ⟨g1, A.length * 4 + i, none⟩ = false) := fun wx hx i hi => by
            have hr : wx.ownsRow w2.heap.size 45 4 (.slice (some ⟨g1, 0, none⟩) (A.length + 1) cap1) (A ++ [s]).length (sgl (A ++ [s])) := (HW.out.later hx HWl.out).r1
            rw [e1] at hr
            refine ⟨(hr.cellAt (A.length * 4 + i) (by omega)).trans ?_, hr.frozenAt _⟩
            rw [sgl_at (by rw [e1]; omega) hi]
            congr 2
            rw [List.getD_eq_getElem?_getD, List.getElem?_append_right (Nat.le_refl _)]
            simp
          obtain ⟨n, hn⟩ : ∃ n, n = A.length := ⟨_, rfl⟩
          have hnb : n ≤ 8796093022208 := by have := HLB.out.1; rw [e1] at this; omega
          have HAL := hid hn
          rw [← hn] at HCL e1
          rw [← hn]
          obtain ⟨sb, sx, sy, sz⟩ := s
          by_cases hsb : sb = b
          · have HAD : Hid (addS (A ++ [Sg.mk sb sx sy sz]) b k = A ++ [setb (Sg.mk sb sx sy sz) k]) := addS_eq k hsb
            have HEN : Hid (∀ wx, RowKit.Below wr.heap.size wr wx → Gw w2 (wx.setCell ⟨g1, n * 4 + 1 + k, none⟩ (.bool true)) w2.heap.size (.slice (some ⟨g1, 0, none⟩) (n + 1) cap1) u5 (addS (A ++ [Sg.mk sb sx sy sz]) b k) l2) := fun wx hx => by
              have h3 := HW.out.later hx HWl.out
              have hs : OwS 45 wx w2.heap.size (.slice (some ⟨g1, 0, none⟩) (A ++ [Sg.mk sb sx sy sz]).length cap1) (A ++ [Sg.mk sb sx sy sz]) := by
                have := h3.r1
                rw [← hn, ← e1] at this
                exact this
              have hset := OwS.set hs (k := k) (by omega)
              rw [← hn, e1] at hset
              have hg1 : w2.heap.size ≤ g1 := hs.own (g := g1) rfl
              refine ⟨by rw [HAD.out]; exact hset, h3.r2.kept fun g' hg' _ => ?_, ?_⟩
              · exact Below.heap_setCell wx _ _ g' (fun e => ow_ne (by decide) hs h3.r2 (g := g1) rfl (by rw [hg', e]))
              · exact ⟨h3.bel.os, h3.bel.tape, h3.bel.output, by have := h3.bel.size; simp [World.setCell]; omega, fun i hi => (Below.heap_setCell wx _ _ i (by show i ≠ g1; omega)).trans (h3.bel.block i hi)⟩
            clear HAD
            rcases hk3 with rfl | rfl | rfl
            · have HC3 : Hid (∀ wx, RowKit.Below wr.heap.size wr wx → (wx.cell? ⟨g1, n * 4, none⟩ = some (.int .i64 sb)) ∧ (wx.cell? ⟨g1, n * 4 + 1 + 0, none⟩ = some (.bool sx)) ∧ wx.frozen? ⟨g1, n * 4 + 1 + 0, none⟩ = false) := fun wx hx => ⟨(HCL.out wx hx 0 (by omega)).1, (HCL.out wx hx (1 + 0) (by omega)).1, (HCL.out wx hx (1 + 0) (by omega)).2⟩
              have hnI : (0 : Int) ≤ n := by omega
              have hsq : (sb == (b : Int)) = true := by rw [hsb]; simp
              have hsq' : (sb != (b : Int)) = false := by rw [hsb]; simp
              have hn0 : decide ((n : Int) < 0) = false := decide_eq_false (by omega)
              clear HCL HX2 HG HSZ HL HNL HSN HLB HBs HB2 i1 ji jz0 jz1 jz2 i0 hi hz0 hz1 hz2 hn e1 hsb
              go_wp2_with (go_at_call 12; refine HP.out.mono ?_; rintro e w3 ⟨rfl, hb3⟩; obtain ⟨x0, x1, x2⟩ := HC3.out _ hb3; have HE := hid (HEN.out _ hb3); clear hb3)
              go_roundg k'
              case measure => omega
              case rel => exact ⟨j + 1, by have := HJ.out.1; omega, congrArg (Value.int .i64) (by omega), by rw [HST.out]; exact HE.out⟩
            · have HC3 : Hid (∀ wx, RowKit.Below wr.heap.size wr wx → (wx.cell? ⟨g1, n * 4, none⟩ = some (.int .i64 sb)) ∧ (wx.cell? ⟨g1, n * 4 + 1 + 1, none⟩ = some (.bool sy)) ∧ wx.frozen? ⟨g1, n * 4 + 1 + 1, none⟩ = false) := fun wx hx => ⟨(HCL.out wx hx 0 (by omega)).1, (HCL.out wx hx (1 + 1) (by omega)).1, (HCL.out wx hx (1 + 1) (by omega)).2⟩
              have hnI : (0 : Int) ≤ n := by omega
              have hsq : (sb == (b : Int)) = true := by rw [hsb]; simp
              have hsq' : (sb != (b : Int)) = false := by rw [hsb]; simp
              have hn0 : decide ((n : Int) < 0) = false := decide_eq_false (by omega)
              clear HCL HX2 HG HSZ HL HNL HSN HLB HBs HB2 i1 ji jz0 jz1 jz2 i0 hi hz0 hz1 hz2 hn e1 hsb
              go_wp2_with (go_at_call 12; refine HP.out.mono ?_; rintro e w3 ⟨rfl, hb3⟩; obtain ⟨x0, x1, x2⟩ := HC3.out _ hb3; have HE := hid (HEN.out _ hb3); clear hb3)
              go_roundg k'
              case measure => omega
              case rel => exact ⟨j + 1, by have := HJ.out.1; omega, congrArg (Value.int .i64) (by omega), by rw [HST.out]; exact HE.out⟩
            · have HC3 : Hid (∀ wx, RowKit.Below wr.heap.size wr wx → (wx.cell? ⟨g1, n * 4, none⟩ = some (.int .i64 sb)) ∧ (wx.cell? ⟨g1, n * 4 + 1 + 2, none⟩ = some (.bool sz)) ∧ wx.frozen? ⟨g1, n * 4 + 1 + 2, none⟩ = false) := fun wx hx => ⟨(HCL.out wx hx 0 (by omega)).1, (HCL.out wx hx (1 + 2) (by omega)).1, (HCL.out wx hx (1 + 2) (by omega)).2⟩
              have hnI : (0 : Int) ≤ n := by omega
              have hsq : (sb == (b : Int)) = true := by rw [hsb]; simp
              have hsq' : (sb != (b : Int)) = false := by rw [hsb]; simp
              have hn0 : decide ((n : Int) < 0) = false := decide_eq_false (by omega)
              clear HCL HX2 HG HSZ HL HNL HSN HLB HBs HB2 i1 ji jz0 jz1 jz2 i0 hi hz0 hz1 hz2 hn e1 hsb
              go_wp2_with (go_at_call 12; refine HP.out.mono ?_; rintro e w3 ⟨rfl, hb3⟩; obtain ⟨x0, x1, x2⟩ := HC3.out _ hb3; have HE := hid (HEN.out _ hb3); clear hb3)
              go_roundg k'
              case measure => omega
              case rel => exact ⟨j + 1, by have := HJ.out.1; omega, congrArg (Value.int .i64) (by omega), by rw [HST.out]; exact HE.out⟩
          · have HAD : Hid (addS (A ++ [Sg.mk sb sx sy sz]) b k = (A ++ [Sg.mk sb sx sy sz]) ++ [setb ⟨b, false, false, false⟩ k]) := addS_ne k hsb
            have HM : Hid ((A ++ [Sg.mk sb sx sy sz]).length = n + 1) := e1
            have HWn : Hid (Gw w2 wr w2.heap.size (.slice (some ⟨g1, 0, none⟩) (n + 1) cap1) u5 (A ++ [Sg.mk sb sx sy sz]) l2) := by
              have := HW.out
              rw [← hn] at this
              exact this
            have hsq : (sb == (b : Int)) = false := by simpa using hsb
            have hsq' : (sb != (b : Int)) = true := by simpa using hsb
            have hn0 : decide ((n : Int) < 0) = false := decide_eq_false (by omega)
            have hm1 : n + 1 ≤ 8796093022207 := by have h1 := HLB.out.1; have h2 := HM.out; omega
            clear hn e1 hsb HLB
            rcases hk3 with rfl | rfl | rfl
            · have HGo : Hid (Gw w2 wr w2.heap.size (.slice (some ⟨g1, 0, none⟩) (n + 1) cap1) u5 (A ++ [Sg.mk sb sx sy sz]) l2) := HWn
              have hbI : (0 : Int) ≤ b := by omega
              clear HX2 HG HSZ HL HNL HSN HBs HB2 i1 ji jz0 jz1 jz2
              go_wp2_with (first | (go_at_call 12; refine HP.out.mono ?_; rintro e w3 ⟨rfl, hb3⟩; obtain ⟨y0, _⟩ := HCL.out _ hb3 0 (by omega); have y0' : w3.cell? ⟨g1, n * 4, none⟩ = some (.int .i64 sb) := y0; clear y0; have HSZ3 : Hid (w2.heap.size ≤ w3.heap.size) := Nat.le_trans HWl.out hb3.size; have HG4 := hid ((HGo.out.later hb3 HWl.out).later (bel_alloc w3 (Obj.cells #[.int .i64 (b : Int), .bool false, .bool false, .bool false] 45)) HSZ3.out); clear hb3) | (at_builtin; refine wpList_append_lies _ rfl _ _ 38 rfl w2.heap.size 45 i0 (.agg #[.int .i64 0, .bool false, .bool false, .bool false]) 4 16 Tryd.underlying38 hi hz0 hz1 hz2 rfl (by decide) _ (n + 1) (sgl (A ++ [Sg.mk sb sx sy sz])) rfl ?c0 ⟨w3.heap.size, 0, none⟩ 1 1 (sgc ⟨(b : Int), false, false, false⟩) rfl rfl ?c1 ?c2 ?c3 ?c4 ?c5 ?c6 _ rfl ?_))
              case c0 => have := HG4.out.r1; unfold OwS at this; rw [HM.out] at this; exact this
              case c1 => exact World.news_of_block (heap_new w3 _)
              case c2 => exact sgc_one _
              case c3 => omega
              case c4 => unfold maxLen; omega
              case c5 => omega
              case c6 => simp; have := HSZ3.out; omega
              intro g cap3 w5 hown hgrow hat hlt5
              have hpu := Gw.push HG4.out (s := ⟨(b : Int), false, false, false⟩) (k := 0) (by rw [HM.out]; exact hown) hgrow (by simp; have := HSZ3.out; omega) (by omega)
              rw [HM.out] at hpu
              obtain ⟨hE, x1, x2⟩ := hpu
              have x1' : w5.cell? ⟨g, (n + 1) * 4 + 1, none⟩ = some (.bool false) := x1.trans rfl
              have x2' : w5.frozen? ⟨g, (n + 1) * 4 + 1, none⟩ = false := x2
              have HE := hid hE
              clear hown hgrow hat hlt5 hE x1 x2
              go_wp2_with fail
              go_roundg k'
              case measure => omega
              case rel => exact ⟨j + 1, by have := HJ.out.1; omega, congrArg (Value.int .i64) (by omega), by rw [HST.out, HAD.out]; exact HE.out⟩
            · have HGo : Hid (Gw w2 wr w2.heap.size (.slice (some ⟨g1, 0, none⟩) (n + 1) cap1) u5 (A ++ [Sg.mk sb sx sy sz]) l2) := HWn
              have hbI : (0 : Int) ≤ b := by omega
              clear HX2 HG HSZ HL HNL HSN HBs HB2 i1 ji jz0 jz1 jz2
              go_wp2_with (first | (go_at_call 12; refine HP.out.mono ?_; rintro e w3 ⟨rfl, hb3⟩; obtain ⟨y0, _⟩ := HCL.out _ hb3 0 (by omega); have y0' : w3.cell? ⟨g1, n * 4, none⟩ = some (.int .i64 sb) := y0; clear y0; have HSZ3 : Hid (w2.heap.size ≤ w3.heap.size) := Nat.le_trans HWl.out hb3.size; have HG4 := hid ((HGo.out.later hb3 HWl.out).later (bel_alloc w3 (Obj.cells #[.int .i64 (b : Int), .bool false, .bool false, .bool false] 45)) HSZ3.out); clear hb3) | (at_builtin; refine wpList_append_lies _ rfl _ _ 38 rfl w2.heap.size 45 i0 (.agg #[.int .i64 0, .bool false, .bool false, .bool false]) 4 16 Tryd.underlying38 hi hz0 hz1 hz2 rfl (by decide) _ (n + 1) (sgl (A ++ [Sg.mk sb sx sy sz])) rfl ?c0 ⟨w3.heap.size, 0, none⟩ 1 1 (sgc ⟨(b : Int), false, false, false⟩) rfl rfl ?c1 ?c2 ?c3 ?c4 ?c5 ?c6 _ rfl ?_))
              case c0 => have := HG4.out.r1; unfold OwS at this; rw [HM.out] at this; exact this
              case c1 => exact World.news_of_block (heap_new w3 _)
              case c2 => exact sgc_one _
              case c3 => omega
              case c4 => unfold maxLen; omega
              case c5 => omega
              case c6 => simp; have := HSZ3.out; omega
              intro g cap3 w5 hown hgrow hat hlt5
              have hpu := Gw.push HG4.out (s := ⟨(b : Int), false, false, false⟩) (k := 1) (by rw [HM.out]; exact hown) hgrow (by simp; have := HSZ3.out; omega) (by omega)
              rw [HM.out] at hpu
              obtain ⟨hE, x1, x2⟩ := hpu
              have x1' : w5.cell? ⟨g, (n + 1) * 4 + 1 + 1, none⟩ = some (.bool false) := x1.trans rfl
              have x2' : w5.frozen? ⟨g, (n + 1) * 4 + 1 + 1, none⟩ = false := x2
              have HE := hid hE
              clear hown hgrow hat hlt5 hE x1 x2
              go_wp2_with fail
              go_roundg k'
              case measure => omega
              case rel => exact ⟨j + 1, by have := HJ.out.1; omega, congrArg (Value.int .i64) (by omega), by rw [HST.out, HAD.out]; exact HE.out⟩
            · have HGo : Hid (Gw w2 wr w2.heap.size (.slice (some ⟨g1, 0, none⟩) (n + 1) cap1) u5 (A ++ [Sg.mk sb sx sy sz]) l2) := HWn
              have hbI : (0 : Int) ≤ b := by omega
              clear HX2 HG HSZ HL HNL HSN HBs HB2 i1 ji jz0 jz1 jz2
              go_wp2_with (first | (go_at_call 12; refine HP.out.mono ?_; rintro e w3 ⟨rfl, hb3⟩; obtain ⟨y0, _⟩ := HCL.out _ hb3 0 (by omega); have y0' : w3.cell? ⟨g1, n * 4, none⟩ = some (.int .i64 sb) := y0; clear y0; have HSZ3 : Hid (w2.heap.size ≤ w3.heap.size) := Nat.le_trans HWl.out hb3.size; have HG4 := hid ((HGo.out.later hb3 HWl.out).later (bel_alloc w3 (Obj.cells #[.int .i64 (b : Int), .bool false, .bool false, .bool false] 45)) HSZ3.out); clear hb3) | (at_builtin; refine wpList_append_lies _ rfl _ _ 38 rfl w2.heap.size 45 i0 (.agg #[.int .i64 0, .bool false, .bool false, .bool false]) 4 16 Tryd.underlying38 hi hz0 hz1 hz2 rfl (by decide) _ (n + 1) (sgl (A ++ [Sg.mk sb sx sy sz])) rfl ?c0 ⟨w3.heap.size, 0, none⟩ 1 1 (sgc ⟨(b : Int), false, false, false⟩) rfl rfl ?c1 ?c2 ?c3 ?c4 ?c5 ?c6 _ rfl ?_))
              case c0 => have := HG4.out.r1; unfold OwS at this; rw [HM.out] at this; exact this
              case c1 => exact World.news_of_block (heap_new w3 _)
              case c2 => exact sgc_one _
              case c3 => omega
              case c4 => unfold maxLen; omega
              case c5 => omega
              case c6 => simp; have := HSZ3.out; omega
              intro g cap3 w5 hown hgrow hat hlt5
              have hpu := Gw.push HG4.out (s := ⟨(b : Int), false, false, false⟩) (k := 2) (by rw [HM.out]; exact hown) hgrow (by simp; have := HSZ3.out; omega) (by omega)
              rw [HM.out] at hpu
              obtain ⟨hE, x1, x2⟩ := hpu
              have x1' : w5.cell? ⟨g, (n + 1) * 4 + 1 + 2, none⟩ = some (.bool false) := x1.trans rfl
              have x2' : w5.frozen? ⟨g, (n + 1) * 4 + 1 + 2, none⟩ = false := x2
              have HE := hid hE
              clear hown hgrow hat hlt5 hE x1 x2
              go_wp2_with fail
              go_roundg k'
              case measure => omega
              case rel => exact ⟨j + 1, by have := HJ.out.1; omega, congrArg (Value.int .i64) (by omega), by rw [HST.out, HAD.out]; exact HE.out⟩
    · have hltI : ¬ (j : Int) < N := by omega
      have e : S.take j = S := List.take_of_length_le (by rw [HSN.out]; omega)
      rw [e] at HW
      have hbel := HB2.out.trans (HW.out.bel.mono HBs.out)
      have HE := hid (And.intro HW.out hbel)
      clear hbel HW
      go_wp2_with fail
      go_ret2
      refine ⟨⟨_, _, rfl, ?_, ?_⟩, HE.out.2⟩
      · exact row_le9 HE.out.1.r1 HBs.out
      · exact row_le9 HE.out.1.r2 HBs.out
end Go.Proofs.YtgffipkbbenddaaDoor
