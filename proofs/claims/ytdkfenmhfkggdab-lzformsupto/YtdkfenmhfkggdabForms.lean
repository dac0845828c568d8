/- LzForms' walk: tokens that Form takes are told again by Tokens; what they stand for is unpacked from their form. -/
import Derived.Test.YtdkfenmhfkggdabFms
namespace Go.Proofs.Ytdkfenmhfkggdab
open Go.RowKit
theorem getD_map2 (ts : List M.Tok) (j : Nat) (t : M.Tok) (rest : List M.Tok) (h : ts.drop j = t :: rest) : (ts.map rt).getD j (ByteArray.empty, 0, 0) = rt t := by
  have h1 : ts[j]? = some t := by
    have := congrArg List.head? h
    rw [List.head?_drop] at this
    exact this
  rw [List.getD_eq_getElem?_getD, List.getElem?_map, h1]
  rfl
theorem un_pre {len : Nat} {ts xs ys : List M.Tok} (h : ∀ t ∈ ts, t.ok) (he : ts = xs ++ ys) (hd : M.distOk [] xs) (hl : (M.apps [] xs).length ≤ len) : M.un len (M.bytesOf ts) [] = M.goT len ys (M.apps [] xs) := by
  rw [M.un_goT _ _ _ h, he, M.goT_pre len xs ys [] hd hl]
set_option maxHeartbeats 8000000 in
set_option maxRecDepth 20000 in
theorem forms_walk (a : Option Addr) (cap : Nat) (rs : List (ByteArray × Int × Int)) (w : World) (hl : rs.length ≤ 1048576) (hnil : a = none → cap = 0) (V : Trip w a rs) :
    Calls Try.prog 4 #[.slice a rs.length cap] w fun e w' => e = .returned (.bool true) ∧ Below w.heap.size w w' := by
  obtain ⟨i0, hi, hz0, hz1, hz2⟩ := info_parts Try.info5
  have HV := hid V
  clear V
  go_enter Try.func4, Try.ntmps4
  go_wp2_with fail
  refine (fixed_any _).mono ?_
  rintro e w1 ⟨rfl, hb1⟩
  have HB1 := hid hb1
  have HV1 := hid (HV.out.below hb1)
  have hown0 := World.ownsRow_lit (base := w.heap.size) (e := 36) (size := 3) w1 #[] 0 hb1.size (by unfold maxLen; omega) rfl
  have hV1a := HV1.out.below ((Below.refl _ w1).alloc (Nat.le_refl _) (.cells #[] 36))
  have hsz1 := hb1.size
  clear hb1
  go_wp2_with (at_builtin; refine wpList_copy_toks rfl _ _ rfl w.heap.size _ rfl hown0 ?hB a rs cap rfl hV1a hnil (by omega) ?_)
  case hB => simp; omega
  intro v2 w2 ho2 hgrow2
  have HB2 := hid ((HB1.out.alloc hsz1 (.cells #[] 36)).grown hgrow2 (by simp; omega) (fun k hk => (World.ownsRow.lt hown0 k hk).1))
  obtain ⟨a2, cap2, rfl, _, hT2⟩ := OwnT.slice ho2
  have cf := form_any a2 cap2 rs w2 (by omega) hT2
  clear ho2 hgrow2 hown0 hV1a hT2 HB1 HV1
  cases hfr : frm rs with
  | none =>
    rw [hfr] at cf
    have CF : Hid (Calls Try.prog 9 #[.slice a2 rs.length cap2] w2 fun e w' => e = .returned (.tuple #[.string ⟨#[]⟩, .int .i64 1]) ∧ Below w2.heap.size w2 w') := cf
    have hpos : decide (0 < rs.length) = true := by
      cases rs with
      | nil => cases hfr
      | cons r rs => simp
    clear cf hfr
    go_wp2_with fail
    refine CF.out.mono ?_
    rintro e w3 ⟨rfl, hb3⟩
    have HB3 := hid (bel_bel HB2.out hb3 HB2.out.size)
    clear hb3
    go_wp2_with fail
    go_ret
    exact ⟨rfl, HB3.out⟩
  | some F =>
    rw [hfr] at cf
    obtain ⟨ts, hok, hrs, rfl⟩ := frm_inv rs F hfr
    have htl : ts.length = rs.length := by rw [hrs]; simp
    have hFl : (M.bytesOf ts).length ≤ 131 * ts.length := by
      clear htl hrs hfr cf
      induction ts with
      | nil => simp [M.bytesOf]
      | cons t ts ih =>
        have h1 := ih (fun u hu => hok u (List.mem_cons_of_mem _ hu))
        rw [M.bytesOf_cons, List.length_append, List.length_cons]
        have h2 : t.bytes.length ≤ 131 := by
          have := hok t (List.mem_cons_self ..)
          cases t with
          | lit s => have := this.2; simp only [M.Tok.bytes, List.length_cons]; omega
          | mat n d => simp [M.Tok.bytes]
        omega
    have ct := fun w => toks_any (ba (M.bytesOf ts)) w (by rw [ba_size]; omega)
    rw [ba_list, M.tks_bytes ts 0 hok] at ct
    have ct' : ∀ w : World, Calls Try.prog 10 #[.string (ba (M.bytesOf ts))] w fun e w' => (∃ v, e = .returned (.tuple #[v, .int .i64 (ba (M.bytesOf ts)).size, .int .i64 0]) ∧ OwnT 36 w' w.heap.size v rs) ∧ Below w.heap.size w w' := by rw [hrs]; exact ct
    have cu := fun (z : Int) (w : World) (h : z ≤ 140737488340000) => unpack_any (ba (M.bytesOf ts)) z z w (by omega) (fun _ _ => h)
    rw [ba_list] at cu
    have CF : Hid (Calls Try.prog 9 #[.slice a2 rs.length cap2] w2 fun e w' => e = .returned (.tuple #[.string (ba (M.bytesOf ts)), .int .i64 0]) ∧ Below w2.heap.size w2 w') := cf
    have HUN := hid (fun len xs ys he hd hl => un_pre (len := len) (ts := ts) (xs := xs) (ys := ys) hok he hd hl)
    have HOK := hid hok
    have HRS := hid hrs
    have HUZ : Hid (∀ z m, unZ (M.bytesOf ts) z m = if z < 0 ∨ m < z then .tuple #[.string ⟨#[]⟩, .int .i64 66] else unV (M.un z.toNat (M.bytesOf ts) [])) := fun z m => rfl
    generalize M.bytesOf ts = F at *
    generalize ba F = PB at *
    have CT := hid ct'
    have CU := hid cu
    clear cf ct ct' cu hok hrs hfr hFl
    go_wp2_with fail
    refine CF.out.mono ?_
    rintro e w3 ⟨rfl, hb3⟩
    have HB3 := hid (bel_bel HB2.out hb3 HB2.out.size)
    clear hb3 CF
    go_wp2_with fail
    refine (CT.out _).mono ?_
    rintro e w4 ⟨⟨v4, rfl, ho4⟩, hb4⟩
    have HB4 := hid (bel_bel HB3.out hb4 HB3.out.size)
    obtain ⟨a4, cap4, rfl, _, hT4⟩ := OwnT.slice ho4
    have cs := same_any a4 a cap4 cap rs w4 (by omega) hT4 (HV.out.below HB4.out)
    have CS := hid cs
    clear ho4 hb4 hT4 cs HB3
    go_wp2_with fail
    refine CS.out.mono ?_
    rintro e w5 ⟨rfl, hq5⟩
    have HB5 := hid (below_qt HB4.out hq5)
    clear hq5 CS HB4
    go_wp2_with fail
    go_loopg [7, 8, 9, 10, 11, 12, 13] rs.length (fun k o i x1 x2 x3 x4 x5 wr => ∃ (j : Nat) (xs ys : List M.Tok) (out : List UInt8), j + k = rs.length ∧ ys.length = k ∧ i = .int .i64 j ∧ Hid (ts = xs ++ ys) ∧ Hid (xs.length = j) ∧ Hid (M.distOk [] xs) ∧ Hid (M.apps [] xs = out) ∧ Hid (out.length ≤ 131 * j) ∧ Hid (Own wr w.heap.size o out) ∧ Hid (Below w.heap.size w wr) ∧ Hid (w.heap.size ≤ wr.heap.size))
    case atStart => exact ⟨0, [], ts, [], by omega, htl, rfl, rfl, rfl, trivial, rfl, Nat.zero_le _, World.ownsRow_nil _ _ _ _, HB5, HB5.out.size⟩
    case round =>
      clear HB5
      obtain ⟨j, xs, ys, out, hk, hyl, rfl, HTS, HXL, HDO, HAP, HOL, HO, HB, HS⟩ := hrel
      have hOL := HOL.out
      obtain ⟨oa, ocap, ho⟩ := Own.slice HO.out
      by_cases hlt : j < rs.length
      · obtain ⟨k, rfl⟩ : ∃ k, gk = k + 1 := ⟨gk - 1, by omega⟩
        obtain ⟨t, ys', rfl⟩ : ∃ t r, ys = t :: r := by
          cases ys with
          | nil => simp at hyl
          | cons t r => exact ⟨t, r, rfl⟩
        have hyl' : ys'.length = k := by simpa using hyl
        have hdr : ts.drop j = t :: ys' := by rw [HTS.out, ← HXL.out, List.drop_left]
        have hgd := getD_map2 ts j t ys' hdr
        rw [← HRS.out] at hgd
        rcases HV.out with hrn | ⟨b, off, rfl, hbl, hc⟩
        · rw [hrn] at hlt; simp at hlt
        obtain ⟨q0, q1, q2⟩ := hc j hlt
        rw [hgd] at q0 q1 q2
        have htok := HOK.out t (by rw [HTS.out]; simp)
        have hsm := tok_small htok
        have hdi := tok_dist htok
        have hba := ba_size t.lits
        have hal := M.app_len out t
        have hap : M.cpy t.dist t.len (out ++ (ba t.lits).data.toList) = M.app out t := rfl
        have hsum : t.lits.length + t.len ≤ 131 := by
          cases t with
          | lit s => have := htok.2; simp only [M.Tok.lits, M.Tok.len]; omega
          | mat a b => have := htok.2.1; simp only [M.Tok.lits, M.Tok.len, List.length_nil]; omega
        have hcs := M.apps_snoc [] xs t
        rw [HAP.out] at hcs
        have hds := M.distOk_snoc xs [] t HDO.out
        rw [HAP.out] at hds
        have HERR : Hid (out.length < t.dist → ∀ w : World, Calls Try.prog 12 #[.string PB, .int .i64 1099511627776, .int .i64 1099511627776] w fun e w' => e = .returned (.tuple #[.string ⟨#[]⟩, .int .i64 25]) ∧ Below w.heap.size w w') := by
          intro hd w
          have h := CU.out 1099511627776 w (by omega)
          rw [HUZ.out, if_neg (by omega), HUN.out _ xs (t :: ys') HTS.out HDO.out (by rw [HAP.out]; show out.length ≤ 1099511627776; omega), HAP.out] at h
          simp only [M.goT, if_pos hd] at h
          exact h
        have HTS2 : Hid (ts = (xs ++ [t]) ++ ys') := by show ts = _; rw [HTS.out]; simp
        have HXL2 : Hid ((xs ++ [t]).length = j + 1) := by show _ = _; rw [List.length_append, HXL.out]; rfl
        have HCS := hid hcs
        have HDS := hid hds
        simp only [rt] at q0 q1 q2
        rw [hsm.2.2.2, ← hba] at hal
        rw [← hba] at hsum
        generalize M.app out t = out2 at *
        generalize ba t.lits = TS at *
        generalize t.len = TN at *
        generalize t.dist = TD at *
        have k0 := (HB.out.cell (p := ⟨b, off + j * 3, none⟩) hbl).trans q0
        have k1 := (HB.out.cell (p := ⟨b, off + j * 3 + 1, none⟩) hbl).trans q1
        have k2 := (HB.out.cell (p := ⟨b, off + j * 3 + 2, none⟩) hbl).trans q2
        have hsz := HS.out
        clear hc q0 q1 q2 hgd hdr hsm hba hcs hds htok
        by_cases hd : out.length < TD
        · have CE := hid (HERR.out hd)
          generalize out.length = OL at *
          subst ho
          clear hal hap hdi
          go_wp2_with fail
          refine (CE.out _).mono ?_
          rintro e w6 ⟨rfl, hb6⟩
          have HB6 := hid ((HB.out.alloc hsz (.cells #[.string TS, .int .i64 TN, .int .i64 TD] 36)).trans (hb6.mono (by simp; omega)))
          clear hb6
          go_wp2_with fail
          go_ret
          exact ⟨rfl, HB6.out⟩
        · have HD : Hid (1 ≤ TN → 1 ≤ TD ∧ TD ≤ out.length) := fun h => ⟨hdi h, by omega⟩
          have HDS2 := hid (HDS.out (by omega))
          have HAP2 := hid hap
          have HAL := hid hal
          clear hap hal hdi HERR
          have hoo := HO.out
          unfold Own at hoo
          generalize hX : out.length = OL at *
          have HX := hid hX
          clear hX
          subst ho
          go_wp2_with (at_builtin; refine Lib.wpList_append_own_string _ rfl _ _ 34 9 rfl w.heap.size 5 i0 Try.underBytes Try.under9 hi hz0 hz1 hz2 _ _ _ rfl (hoo.alloc _) TS rfl ?d1 ?d2 ?d3 ?_)
          case d1 => unfold maxLen; omega
          case d2 => omega
          case d3 => simp; omega
          intro v2 w6 hown2 hgrow2 _
          have HB6 := hid (bel_step HB.out hoo hsz hgrow2)
          have HO6 : Hid (Own w6 w.heap.size v2 (out ++ TS.data.toList)) := own_mk hown2 HX.out (len_ TS) (bc_str TS)
          have gT : w6.heap[wr.heap.size]? = some (.cells #[.string TS, .int .i64 TN, .int .i64 TD] 36 (0, 0)) := (hgrow2.block _ (by simp) (fun e => own_ne (hoo.alloc (.cells #[.string TS, .int .i64 TN, .int .i64 TD] 36)) (heap_new wr _) (by decide) e.symm)).trans (heap_new wr _)
          have HT6 := hid gT
          have HS6 : Hid (w.heap.size ≤ w6.heap.size) := HB6.out.size
          clear hown2 hgrow2 hoo gT HB HS HO k0 k1 k2
          go_wp2_with fail
          go_loopg [7, 12, 13] TN (fun k o i c wr2 => ∃ (i2 : Nat) (cur : List UInt8), i2 + k = TN ∧ i = .int .i64 i2 ∧ Hid (cur.length = OL + TS.size + i2) ∧ Hid (Own wr2 w.heap.size o cur) ∧ Hid (M.cpy TD k cur = out2) ∧ Hid (Below w.heap.size w wr2) ∧ Hid (w.heap.size ≤ wr2.heap.size) ∧ Hid (wr2.heap[wr.heap.size]? = some (.cells #[.string TS, .int .i64 TN, .int .i64 TD] 36 (0, 0))))
          case atStart => exact ⟨0, _, by omega, rfl, by rw [List.length_append, HX.out, len_]; rfl, HO6, HAP2, HB6, HS6, HT6⟩
          case round =>
            clear HO6 HAP2 HB6 HS6 HT6
            obtain ⟨i2, cur, hj, rfl, HC, HO, HF, HB, HS, HT⟩ := hrel
            obtain ⟨k0, k1, k2⟩ := cells3 HT.out
            clear k0
            by_cases hlt2 : i2 < TN
            · obtain ⟨k3, rfl⟩ : ∃ k, gk = k + 1 := ⟨gk - 1, by omega⟩
              have hD' := HD.out (by omega)
              have hcl := HC.out
              obtain ⟨g, cap9, rfl, hcell⟩ := Own.form HO.out (by omega)
              obtain ⟨i, hi2⟩ : ∃ i, i = cur.length - TD := ⟨_, rfl⟩
              have kc := hcell i (by omega)
              have HF2 := HF.out
              unfold M.cpy at HF2
              rw [← hi2] at HF2
              have ho := HO.out
              unfold Own at ho
              generalize M.by_ cur i = b9 at *
              have e0 : ((cur.length : Nat) : Int) - (TD : Int) = (i : Int) := by omega
              have hi3 : i < cur.length := by omega
              generalize hY : cur.length = Y at *
              have HF3 := hid HF2
              have HY := hid hY
              have HCL := hid hcl
              have hYb : Y ≤ 140737488350000 := by omega
              have q1 := b9.toNat_lt
              have hsz9 := HS.out
              clear HF2 hcell hY hi2 hcl HF HO HC
              go_wp2_with (at_builtin; refine wpList_append_own _ rfl _ _ 34 rfl w.heap.size 5 i0 (.int .u8 0) 1 1 Try.underBytes hi hz0 hz1 hz2 rfl (by decide) _ _ _ rfl (ho.alloc _) ⟨_, 0, none⟩ 1 1 (bc [b9]) rfl rfl ?c1 ?c2 ?c3 ?c4 ?c5 ?_)
              case c1 => exact cells_new _ (bc [b9]) 5
              case c2 => exact bc_one _
              case c3 => unfold maxLen; omega
              case c4 => omega
              case c5 => simp; omega
              intro v' w7 hown3 hgrow3 _
              have HB7 := hid (bel_step HB.out ho (by omega) hgrow3)
              have HO7 : Hid (Own w7 w.heap.size v' (cur ++ [b9])) := own_mk (r := [b9]) hown3 HY.out rfl rfl
              have HS7 : Hid (w.heap.size ≤ w7.heap.size) := HB7.out.size
              have HT7 := hid ((hgrow3.block _ (by have := lt_of_heap HT.out; simp; omega) (fun e => own_ne ho HT.out (by decide) e.symm)).trans (heap_alloc_at HT.out))
              clear hown3 hgrow3 ho HB HS HT
              go_wp2_with fail
              go_roundg k3
              case measure => omega
              case rel => exact ⟨i2 + 1, cur ++ [b9], by omega, by go_num, by show _ = _; rw [List.length_append, HY.out, HCL.out]; rfl, HO7, HF3, HB7, HS7, HT7⟩
            · obtain rfl : gk = 0 := by omega
              have HFF : Hid (cur = out2) := HF.out
              go_wp2_with fail
              go_roundg k
              case measure => omega
              case rel => exact ⟨j + 1, xs ++ [t], ys', out2, by omega, hyl', by go_num, HTS2, HXL2, HDS2, HCS, by show _ ≤ _; rw [HAL.out]; omega, by rw [← HFF.out]; exact HO, HB, HS⟩
      · obtain rfl : gk = 0 := by omega
        obtain rfl : ys = [] := List.eq_nil_of_length_eq_zero hyl
        have hx := CU.out out.length
        have HRES : Hid (∀ w : World, Calls Try.prog 12 #[.string PB, .int .i64 out.length, .int .i64 out.length] w fun e w' => e = .returned (.tuple #[.string (ba out), .int .i64 0]) ∧ Below w.heap.size w w') := by
          intro w
          have h := CU.out out.length w (by omega)
          rw [HUZ.out, if_neg (by omega), Int.toNat_natCast, HUN.out _ xs [] HTS.out HDO.out (by rw [HAP.out]; exact Nat.le_refl _), HAP.out] at h
          simp only [M.goT, Nat.lt_irrefl, if_false] at h
          exact h
        have HOO := hid HO.out
        have hcv := fun (w9 : World) (h : Own w9 w.heap.size (.slice oa out.length ocap) out) => conv_own h
        have HCV := hid hcv
        rw [ho] at HOO
        generalize ba out = OB at *
        generalize hX : out.length = OL at *
        have HX := hid hX
        subst ho
        clear hX hx hcv
        go_wp2_with fail
        refine (HRES.out _).mono ?_
        rintro e w6 ⟨rfl, hb6⟩
        have HB6 := hid (bel_bel HB.out hb6 HB.out.size)
        have hcv := HCV.out w6 (own_apart HOO.out (fun g hg => hb6.block g (World.ownsRow.lt HOO.out g hg).2))
        clear hb6
        go_wp2_with fail
        go_ret
        exact ⟨rfl, HB6.out⟩
end Go.Proofs.Ytdkfenmhfkggdab
