/- LzTells' walk: the tokens of Pack tell the text. -/
import Derived.Test.YtdkfenmhfkggdaaTl
namespace Go.Proofs.Ytdkfenmhfkggdaa
open Go.RowKit
theorem tell_ok (l : List UInt8) : M.tks 0 (M.pack l) = .ok (M.packT l) := M.tks_bytes _ _ (M.pk_ok 0 0 (Nat.le_refl _))
theorem getD_map (ts : List M.Tok) (j : Nat) (t : M.Tok) (rest : List M.Tok) (h : ts.drop j = t :: rest) : (ts.map rt).getD j (ByteArray.empty, 0, 0) = rt t := by
  have h1 : ts[j]? = some t := by
    have := congrArg List.head? h
    rw [List.head?_drop] at this
    exact this
  rw [List.getD_eq_getElem?_getD, List.getElem?_map, h1]
  rfl
theorem drop_next {ts rest : List M.Tok} {j : Nat} {t : M.Tok} (h : ts.drop j = t :: rest) : ts.drop (j + 1) = rest := by
  have := congrArg List.tail h
  rw [List.tail_drop] at this
  exact this
set_option maxHeartbeats 8000000 in
set_option maxRecDepth 20000 in
theorem tells_walk (s : ByteArray) (w : World) (hs : s.size ≤ 1048576) :
    Calls Try.prog 8 #[.string s] w fun e w' => e = .returned (.bool true) ∧ Below w.heap.size w w' := by
  have cp := fun w => pack_any s w (by omega)
  have hps := M.pack_size s.data.toList
  have hlen := len_ s
  rw [hlen] at hps
  have ct := fun w => toks_any (ba (M.pack s.data.toList)) w (by rw [ba_size]; omega)
  rw [ba_list, tell_ok] at ct
  have hz := Pz.pk (l := s.data.toList) 0 0 (Nat.le_refl _) (Nat.zero_le _) (fun j h1 h2 => by omega)
  have hct := pk_count hz
  have hfm := frm_toks (M.packT s.data.toList) (M.pk_ok 0 0 (Nat.le_refl _))
  have hcb := fun (q : Nat) (w : World) (h : q < s.size) => best_in s q w (by omega) h
  have hext := ext_ba s
  have hP : M.bytesOf (M.packT s.data.toList) = M.pack s.data.toList := rfl
  rw [hP] at hfm
  have hfv : frmV (some (M.pack s.data.toList)) = .tuple #[.string (ba (M.pack s.data.toList)), .int .i64 0] := rfl
  have hz' : Pz s.data.toList 0 (M.packT s.data.toList) := hz
  have hct' : (M.packT s.data.toList).length ≤ s.data.toList.length := by have : (M.packT s.data.toList).length ≤ s.data.toList.length - 0 := hct; omega
  generalize M.packT s.data.toList = ts at *
  generalize M.pack s.data.toList = P at *
  generalize s.data.toList = l at *
  have hPl : (ba P).size = P.length := ba_size P
  generalize ba P = PB at *
  have HZ := hid hz'
  have HL := hid hlen
  have CP := hid cp
  have CT := hid ct
  have CB := hid hcb
  have HFM := hid hfm
  have HEX := hid hext
  have htl : ts.length ≤ s.size := by omega
  have HFV := hid hfv
  clear hz hct hz' hct' hlen cp ct hcb hfm hext hP
  go_enter Try.func8, Try.ntmps8
  go_wp2_with fail
  refine (fixed_any _).mono ?_
  rintro e w1 ⟨rfl, hb1⟩
  go_wp2_with fail
  refine (CP.out _).mono ?_
  rintro e w2 ⟨rfl, hb2⟩
  have HB2 := hid (bel_bel hb1 hb2 hb1.size)
  clear hb1 hb2
  go_wp2_with fail
  refine (CT.out _).mono ?_
  rintro e w3 ⟨⟨v, rfl, ho⟩, hb3⟩
  have HB3 := hid (bel_bel HB2.out hb3 HB2.out.size)
  obtain ⟨a, cap, rfl, _, hT⟩ := OwnT.slice ho
  have hml : (ts.map rt).length = ts.length := by simp
  have cf := form_any a cap (ts.map rt) w3 (by omega) hT
  rw [HFM.out, hml, hfv] at cf
  have HML := hid hml
  rw [hml]
  have HT := hid hT
  have CF := hid cf
  clear hb3 ho HB2 cf hml hT hfv
  go_wp2_with fail
  refine CF.out.mono ?_
  rintro e w4 ⟨rfl, hb4⟩
  have HB4 := hid (bel_bel HB3.out hb4 HB3.out.size)
  have HT4 := hid (HT.out.below hb4)
  have HW4 : Hid (w.heap.size ≤ w4.heap.size) := HB4.out.size
  clear hb4 CF
  go_wp2_with fail
  go_loopg [8, 9, 10, 11, 12, 13, 14, 15] ts.length (fun k x i y1 y2 y3 y4 y5 y6 wr => ∃ (j q : Nat) (rest : List M.Tok), j + k = ts.length ∧ rest.length = k ∧ x = .int .i64 q ∧ i = .int .i64 j ∧ Hid (ts.drop j = rest) ∧ Hid (Pz l q rest) ∧ Hid (Below w.heap.size w wr) ∧ Hid (Below w4.heap.size w4 wr))
  case atStart => exact ⟨0, 0, ts, by omega, rfl, rfl, rfl, rfl, HZ, HB4, Below.refl _ _⟩
  case round =>
    clear HZ HB4
    obtain ⟨j, q, rest, hk, hrl, rfl, rfl, HD, HZ, HB, HB5⟩ := hrel
    by_cases hlt : j < ts.length
    · obtain ⟨k, rfl⟩ : ∃ k, gk = k + 1 := ⟨gk - 1, by omega⟩
      have hqs := HZ.out.le
      rw [HL.out] at hqs
      obtain ⟨t, rest', rfl⟩ : ∃ t r, rest = t :: r := by
        cases rest with
        | nil => simp at hrl
        | cons t r => exact ⟨t, r, rfl⟩
      have hgd := getD_map ts j t rest' HD.out
      have HD2 := hid (drop_next HD.out)
      have HTR := hid (HT4.out.below HB5.out)
      rcases HTR.out with hnil | ⟨b, off, rfl, hbl, hc⟩
      · have := HML.out; rw [hnil] at this; simp at this; omega
      obtain ⟨k0, k1, k2⟩ := hc j (by rw [HML.out]; exact hlt)
      rw [hgd] at k0 k1 k2
      have HCN := hid hc
      have hsz := HB.out.size
      have hsz4 := HB5.out.size
      have hrl' : rest'.length = k := by simpa using hrl
      clear hc hgd
      cases HZ.out with
      | mat h1 h2 h3 h4 =>
        rename_i n d
        rw [HL.out] at h1
        have HZ2 := hid h4
        have cb := fun w => CB.out q w h1
        rw [h2] at cb
        simp only [rt, M.Tok.lits, M.Tok.len, M.Tok.dist] at k0 k1 k2
        have CBQ := hid cb
        have hn1 : (0 : Int) < n := by omega
        have hqn := h4.le
        rw [HL.out] at hqn
        clear cb h2 h4
        go_wp2_with fail
        refine (CBQ.out _).mono ?_
        rintro e w6 ⟨rfl, hb6⟩
        have HB6 := hid ((HB.out.alloc hsz (.cells #[.string (ba []), .int .i64 n, .int .i64 d] 47)).trans (hb6.mono (by simp; omega)))
        have HB6' := hid ((HB5.out.alloc hsz4 (.cells #[.string (ba []), .int .i64 n, .int .i64 d] 47)).trans (hb6.mono (by simp; omega)))
        have gT : w6.heap[wr.heap.size]? = some (.cells #[.string (ba []), .int .i64 n, .int .i64 d] 47 (0, 0)) := (hb6.block _ (by simp)).trans (heap_new wr _)
        obtain ⟨m0, m1, m2⟩ := cells3 gT
        clear hb6 gT k0 k1 k2
        have hbe : (ba []).toList.isEmpty = true := by rw [ByteArray.toList_eq]; rfl
        go_wp2_with fail
        go_roundg k
        case measure => omega
        case rel => exact ⟨j + 1, q + n, rest', by omega, hrl', by go_num, by go_num, HD2, HZ2, HB6, HB6'⟩
      | lit h1 h2 h3 h4 h5 h6 h7 =>
        rename_i sl
        rw [HL.out] at h3
        obtain ⟨L, hL⟩ : ∃ L, L = sl.length := ⟨_, rfl⟩
        obtain ⟨x, hx⟩ : ∃ x, x = q + L := ⟨_, rfl⟩
        obtain ⟨TS, hTS⟩ : ∃ TS, TS = ba sl := ⟨_, rfl⟩
        have hTSs : TS.size = L := by rw [hTS, ba_size, hL]
        have hext : s.extract q x = TS := by rw [HEX.out, hTS, hx, show q + L - q = L from by omega, hL, ← h4]
        have H5 := hid h5
        rw [← hL] at h1 h2 h3 H5 h7
        have HZ2 := hid h7
        rw [← hx] at HZ2
        have HXE := hid hx
        have H6 := hid h6
        rw [← hL] at H6
        simp only [rt, M.Tok.lits, M.Tok.len, M.Tok.dist] at k0 k1 k2
        rw [← hTS] at k0
        obtain ⟨y, hy⟩ : ∃ y, y = s.size - q := ⟨_, rfl⟩
        have e1 : IntKind.i64.wrap ((s.size : Int) - q) = (y : Int) := by rw [wrap_in (by omega) (by omega)]; omega
        have e2 : IntKind.i64.wrap ((q : Int) + L) = (x : Int) := by rw [wrap_in (by omega) (by omega)]; omega
        have d1 : decide (y < L) = false := by simp; omega
        have b1 : (q : Int) ≤ x := by omega
        have b2 : (x : Int) ≤ s.size := by omega
        obtain ⟨j1, hj1⟩ : ∃ j1, j1 = j + 1 := ⟨_, rfl⟩
        have e3 : IntKind.i64.wrap ((j : Int) + 1) = (j1 : Int) := by rw [wrap_in (by omega) (by omega)]; omega
        have kk := k
        obtain ⟨kk, hkk⟩ : ∃ kk, kk = k := ⟨_, rfl⟩
        have hlt0 : ¬ (0 : Int) < 0 := by omega
        have HJ1 := hid hj1
        rw [← hkk] at hk hrl hrl'
        clear h4 h5 h6 h7 hL hTS hy hx
        by_cases g1 : L < 128
        · have d2 : decide ((L : Int) < 128) = true := by simp; omega
          have d2' : decide (L < 128) = true := by simp; omega
          by_cases g2 : j1 < ts.length
          · have d3 : decide (j1 < ts.length) = true := by simp; omega
            obtain ⟨t2, r2, hr2⟩ : ∃ t2 r2, rest' = t2 :: r2 := by
              cases rest' with
              | nil => simp at hrl'; omega
              | cons t r => exact ⟨t, r, rfl⟩
            have hd2 := HD2.out
            rw [hr2, ← HJ1.out] at hd2
            have hgd2 := getD_map ts j1 t2 r2 hd2
            have kn := (HCN.out j1 (by rw [HML.out]; exact g2)).2.1
            rw [hgd2] at kn
            have h4l := H6.out g1 t2 (by rw [hr2]; rfl)
            have kn2 : wr.cell? ⟨b, off + j1 * 3 + 1, none⟩ = some (.int .i64 (t2.len : Nat)) := kn
            generalize t2.len = LN at *
            have d4 : ((LN : Int) == 0) = false := by rw [beq_eq_false_iff_ne]; omega
            have b3 : (0 : Int) ≤ (j1 : Int) := by omega
            have b4 : (j1 : Int) < ts.length := by omega
            clear kn hgd2 hd2 hr2 hj1
            go_wp2_with fail
            go_quiet (fail)
            go_wp2_with fail
            have HBA := hid (HB.out.alloc hsz (.cells #[.string TS, .int .i64 0, .int .i64 0] 47))
            have HBB := hid (HB5.out.alloc hsz4 (.cells #[.string TS, .int .i64 0, .int .i64 0] 47))
            have HG0 : Hid (((wr.alloc (.cells #[.string TS, .int .i64 0, .int .i64 0] 47)).drewN nq).heap[wr.heap.size]? = some (.cells #[.string TS, .int .i64 0, .int .i64 0] 47 (0, 0))) := heap_new wr _
            clear k0 k1 k2
            go_loopg [13, 14, 15] L (fun k c y1 y2 wr2 => ∃ i : Nat, i + k = L ∧ c = .int .i64 i ∧ Hid (Below w.heap.size w wr2) ∧ Hid (Below w4.heap.size w4 wr2) ∧ Hid (wr2.heap[wr.heap.size]? = some (.cells #[.string TS, .int .i64 0, .int .i64 0] 47 (0, 0))))
            case atStart => exact ⟨0, by omega, rfl, below_drewN HBA.out _, below_drewN HBB.out _, HG0⟩
            case round =>
              clear HBA HBB HG0
              obtain ⟨i, hik, rfl, HC1, HC2, HG⟩ := hrel
              obtain ⟨m0, m1, m2⟩ := cells3 HG.out
              clear m1 m2
              by_cases hil : i < L
              · obtain ⟨k3, rfl⟩ : ∃ k3, gk = k3 + 1 := ⟨gk - 1, by omega⟩
                have cb := fun (z : Int) (w : World) (h : z = ((q + i : Nat) : Int)) => show Calls Try.prog 12 #[.string s, .int .i64 z] w fun e w' => e = .returned (.tuple #[.int .i64 ((M.best l (q + i)).1 : Nat), .int .i64 ((M.best l (q + i)).2 : Nat)]) ∧ Below w.heap.size w w' from by rw [h]; exact CB.out (q + i) w (by omega)
                rw [H5.out i hil] at cb
                generalize (M.best l (q + i)).2 = DD at *
                have CBI := hid cb
                clear cb
                go_wp2_with fail
                refine (CBI.out _ _ (by omega)).mono ?_
                rintro e w6 ⟨rfl, hb6⟩
                have HC3 := hid (bel_bel HC1.out hb6 HC1.out.size)
                have HC4 := hid (bel_bel HC2.out hb6 HC2.out.size)
                have HG2 := hid ((hb6.block _ (lt_of_heap HG.out)).trans HG.out)
                clear hb6 m0
                go_wp2_with fail
                go_roundg k3
                case measure => omega
                case rel => exact ⟨i + 1, by omega, by go_num, HC3, HC4, HG2⟩
              · go_wp2_with fail
                go_roundg kk
                case measure => omega
                case rel => exact ⟨j + 1, x, rest', by omega, hrl', by first | rfl | (rw [HXE.out]; go_num), by first | (rw [HJ1.out]; done) | go_num, HD2, HZ2, HC1, HC2⟩
          · have d3 : decide (j1 < ts.length) = false := by simp; omega
            clear hj1
            go_wp2_with fail
            go_quiet (fail)
            go_wp2_with fail
            have HBA := hid (HB.out.alloc hsz (.cells #[.string TS, .int .i64 0, .int .i64 0] 47))
            have HBB := hid (HB5.out.alloc hsz4 (.cells #[.string TS, .int .i64 0, .int .i64 0] 47))
            have HG0 : Hid (((wr.alloc (.cells #[.string TS, .int .i64 0, .int .i64 0] 47)).drewN nq).heap[wr.heap.size]? = some (.cells #[.string TS, .int .i64 0, .int .i64 0] 47 (0, 0))) := heap_new wr _
            clear k0 k1 k2
            go_loopg [13, 14, 15] L (fun k c y1 y2 wr2 => ∃ i : Nat, i + k = L ∧ c = .int .i64 i ∧ Hid (Below w.heap.size w wr2) ∧ Hid (Below w4.heap.size w4 wr2) ∧ Hid (wr2.heap[wr.heap.size]? = some (.cells #[.string TS, .int .i64 0, .int .i64 0] 47 (0, 0))))
            case atStart => exact ⟨0, by omega, rfl, below_drewN HBA.out _, below_drewN HBB.out _, HG0⟩
            case round =>
              clear HBA HBB HG0
              obtain ⟨i, hik, rfl, HC1, HC2, HG⟩ := hrel
              obtain ⟨m0, m1, m2⟩ := cells3 HG.out
              clear m1 m2
              by_cases hil : i < L
              · obtain ⟨k3, rfl⟩ : ∃ k3, gk = k3 + 1 := ⟨gk - 1, by omega⟩
                have cb := fun (z : Int) (w : World) (h : z = ((q + i : Nat) : Int)) => show Calls Try.prog 12 #[.string s, .int .i64 z] w fun e w' => e = .returned (.tuple #[.int .i64 ((M.best l (q + i)).1 : Nat), .int .i64 ((M.best l (q + i)).2 : Nat)]) ∧ Below w.heap.size w w' from by rw [h]; exact CB.out (q + i) w (by omega)
                rw [H5.out i hil] at cb
                generalize (M.best l (q + i)).2 = DD at *
                have CBI := hid cb
                clear cb
                go_wp2_with fail
                refine (CBI.out _ _ (by omega)).mono ?_
                rintro e w6 ⟨rfl, hb6⟩
                have HC3 := hid (bel_bel HC1.out hb6 HC1.out.size)
                have HC4 := hid (bel_bel HC2.out hb6 HC2.out.size)
                have HG2 := hid ((hb6.block _ (lt_of_heap HG.out)).trans HG.out)
                clear hb6 m0
                go_wp2_with fail
                go_roundg k3
                case measure => omega
                case rel => exact ⟨i + 1, by omega, by go_num, HC3, HC4, HG2⟩
              · go_wp2_with fail
                go_roundg kk
                case measure => omega
                case rel => exact ⟨j + 1, x, rest', by omega, hrl', by first | rfl | (rw [HXE.out]; go_num), by first | (rw [HJ1.out]; done) | go_num, HD2, HZ2, HC1, HC2⟩
        · have d2 : decide ((L : Int) < 128) = false := by simp; omega
          have d2' : decide (L < 128) = false := by simp; omega
          clear hj1
          go_wp2_with fail
          go_quiet (fail)
          go_wp2_with fail
          have HBA := hid (HB.out.alloc hsz (.cells #[.string TS, .int .i64 0, .int .i64 0] 47))
          have HBB := hid (HB5.out.alloc hsz4 (.cells #[.string TS, .int .i64 0, .int .i64 0] 47))
          have HG0 : Hid (((wr.alloc (.cells #[.string TS, .int .i64 0, .int .i64 0] 47)).drewN nq).heap[wr.heap.size]? = some (.cells #[.string TS, .int .i64 0, .int .i64 0] 47 (0, 0))) := heap_new wr _
          clear k0 k1 k2
          go_loopg [13, 14, 15] L (fun k c y1 y2 wr2 => ∃ i : Nat, i + k = L ∧ c = .int .i64 i ∧ Hid (Below w.heap.size w wr2) ∧ Hid (Below w4.heap.size w4 wr2) ∧ Hid (wr2.heap[wr.heap.size]? = some (.cells #[.string TS, .int .i64 0, .int .i64 0] 47 (0, 0))))
          case atStart => exact ⟨0, by omega, rfl, below_drewN HBA.out _, below_drewN HBB.out _, HG0⟩
          case round =>
            clear HBA HBB HG0
            obtain ⟨i, hik, rfl, HC1, HC2, HG⟩ := hrel
            obtain ⟨m0, m1, m2⟩ := cells3 HG.out
            clear m1 m2
            by_cases hil : i < L
            · obtain ⟨k3, rfl⟩ : ∃ k3, gk = k3 + 1 := ⟨gk - 1, by omega⟩
              have cb := fun (z : Int) (w : World) (h : z = ((q + i : Nat) : Int)) => show Calls Try.prog 12 #[.string s, .int .i64 z] w fun e w' => e = .returned (.tuple #[.int .i64 ((M.best l (q + i)).1 : Nat), .int .i64 ((M.best l (q + i)).2 : Nat)]) ∧ Below w.heap.size w w' from by rw [h]; exact CB.out (q + i) w (by omega)
              rw [H5.out i hil] at cb
              generalize (M.best l (q + i)).2 = DD at *
              have CBI := hid cb
              clear cb
              go_wp2_with fail
              refine (CBI.out _ _ (by omega)).mono ?_
              rintro e w6 ⟨rfl, hb6⟩
              have HC3 := hid (bel_bel HC1.out hb6 HC1.out.size)
              have HC4 := hid (bel_bel HC2.out hb6 HC2.out.size)
              have HG2 := hid ((hb6.block _ (lt_of_heap HG.out)).trans HG.out)
              clear hb6 m0
              go_wp2_with fail
              go_roundg k3
              case measure => omega
              case rel => exact ⟨i + 1, by omega, by go_num, HC3, HC4, HG2⟩
            · go_wp2_with fail
              go_roundg kk
              case measure => omega
              case rel => exact ⟨j + 1, x, rest', by omega, hrl', by first | rfl | (rw [HXE.out]; go_num), by first | (rw [HJ1.out]; done) | go_num, HD2, HZ2, HC1, HC2⟩
    · obtain rfl : gk = 0 := by omega
      obtain rfl : rest = [] := List.eq_nil_of_length_eq_zero hrl
      have hqe : q = l.length := by
        cases HZ.out with
        | nil => rfl
      rw [HL.out] at hqe
      have heq : ((q : Int) == (s.size : Int)) = true := by rw [beq_iff_eq]; omega
      clear hqe
      go_wp2_with fail
      go_ret
      exact ⟨rfl, HB.out⟩
end Go.Proofs.Ytdkfenmhfkggdaa
