/- NamesParts: every name is in a segment or stray. -/
import Derived.Test.YtgffipkbbenddaaDoorPtm
import Derived.Deep.QuietTactic
import Derived.BigQuiet
import Derived.Deep.DeepCutAuto
namespace Go.Proofs.YtgffipkbbenddaaDoor
open Go.RowKit Go.Lib
theorem bl_gt {x y : List UInt8} (h : Op.bytesLess y x = false) : (!Op.bytesLess x y && !x == y) = false := by
  rw [bytesLess_eq] at h ⊢
  have h1 : ¬ y < x := of_decide_eq_false h
  by_cases h2 : x < y
  · rw [decide_eq_true h2]; rfl
  · have e : x = y := List.le_antisymm (List.not_lt.1 h1) (List.not_lt.1 h2)
    rw [e]
    simp
theorem txs_at {w : World} {a : Option Addr} {l : List ByteArray} (h : Txs w a l) {j : Nat} (hj : j < l.length) : ∃ b off, a = some ⟨b, off, none⟩ ∧ b < w.heap.size ∧ ∀ i (hi : i < l.length), w.cell? ⟨b, off + i, none⟩ = some (.string l[i]) := by
  rcases h with rfl | ⟨b, off, rfl, hb, hc⟩
  · simp at hj
  · refine ⟨b, off, rfl, hb, fun i hi => ?_⟩
    rw [hc i hi, List.getD_eq_getElem?_getD, List.getElem?_eq_getElem hi]
    rfl
theorem sgs_at {w : World} {a : Option Addr} {l : List Sg} (h : Sgs w a l) {j : Nat} (hj : j < l.length) : ∃ b off, a = some ⟨b, off, none⟩ ∧ b < w.heap.size ∧ ∀ i (hi : i < l.length), w.cell? ⟨b, off + i * 4, none⟩ = some (.int .i64 l[i].b) ∧ w.cell? ⟨b, off + i * 4 + 1, none⟩ = some (.bool l[i].x) ∧ w.cell? ⟨b, off + i * 4 + 2, none⟩ = some (.bool l[i].y) ∧ w.cell? ⟨b, off + i * 4 + 3, none⟩ = some (.bool l[i].z) := by
  rcases h with rfl | ⟨b, off, rfl, hb, hc⟩
  · simp at hj
  · refine ⟨b, off, rfl, hb, fun i hi => ?_⟩
    have := hc i hi
    rw [List.getD_eq_getElem?_getD, List.getElem?_eq_getElem hi] at this
    exact this
set_option maxRecDepth 20000 in
set_option maxHeartbeats 4000000 in
theorem parts_walk (l : List ByteArray) (a : Option Addr) (cap : Nat) (w : World) (G : Gd w) (hv : Txs w a l) (hn : l.length ≤ 8796093022208) (hz : ∀ y ∈ l, y.size ≤ 140737488355328) :
    Calls Tryd.prog 8 #[.slice a l.length cap] w fun e w' => e = .returned (.bool true) ∧ Below w.heap.size w w' := by
  have HA := hid (awake_any w G)
  obtain ⟨T, hT⟩ : ∃ T, T = l.map fun s => s.data.toList := ⟨_, rfl⟩
  have hTl : T.length = l.length := by rw [hT, List.length_map]
  have HTj : Hid (∀ j (h : j < l.length) (h' : j < T.length), T[j] = (l[j]).data.toList) := fun j h h' => by simp [hT]
  have hgl := grp_len (srt T)
  rw [(srt_perm T).length_eq, hTl] at hgl
  have HP0 := hid (pts_of T)
  have HGp : Hid (∀ wx, Below w.heap.size w wx → Calls Tryd.prog 15 #[.slice a l.length cap] wx fun e w' => (∃ a1 c1 a2 c2, e = .returned (.tuple #[.slice a1 (grp (srt T)).1.length c1, .slice a2 (grp (srt T)).2.length c2]) ∧ Sgs w' a1 (grp (srt T)).1 ∧ Txs w' a2 ((grp (srt T)).2.map ba)) ∧ Below w.heap.size w w') := fun wx hx => by
    have := group_any l a cap wx (G.kept hx (Nat.le_refl _)) (hv.kept hx (Nat.le_refl _)) hn hz
    rw [← hT] at this
    refine this.mono ?_
    rintro e w' ⟨⟨v1, v2, rfl, h1, h2⟩, hb⟩
    obtain ⟨a1, c1, rfl, hs⟩ := h1.sgs
    obtain ⟨a2, c2, rfl, hx2⟩ := h2.txs
    exact ⟨⟨a1, c1, a2, c2, rfl, hs, hx2⟩, hx.trans (hb.mono hx.size)⟩
  have HSm : Hid (∀ t ∈ (grp (srt T)).2, t.length ≤ 140737488355328) := fun t ht => by
    have hf := (grp_sorted (srt_sorted T)).2
    rw [hf] at ht
    have h1 := (srt_perm T).mem_iff.1 (List.mem_filter.1 ht).1
    rw [hT, List.mem_map] at h1
    obtain ⟨y, hy, rfl⟩ := h1
    rw [len_]
    exact hz y hy
  generalize (grp (srt T)).1 = l1 at *
  generalize (grp (srt T)).2 = l2 at *
  have HG : Hid (∀ wx, Below w.heap.size w wx → Gd wx ∧ Txs wx a l) := fun wx hx => ⟨G.kept hx (Nat.le_refl _), hv.kept hx (Nat.le_refl _)⟩
  have HTL := hid hTl
  obtain ⟨N, hN⟩ : ∃ N, N = l.length := ⟨_, rfl⟩
  obtain ⟨n1, hn1⟩ : ∃ n1, n1 = l1.length := ⟨_, rfl⟩
  obtain ⟨n2, hn2⟩ : ∃ n2, n2 = l2.length := ⟨_, rfl⟩
  have HN := hid hN
  have HN1 := hid hn1
  have HN2 := hid hn2
  have hb1 : n1 ≤ N ∧ n2 ≤ N ∧ N ≤ 8796093022208 := by omega
  rw [← hN, ← hn1, ← hn2] at HGp
  rw [← hN]
  clear hTl hT hz G hv hn hN hn1 hn2 hgl
  obtain ⟨hb1, hb2, hbN⟩ := hb1
  go_enter Tryd.func8, Tryd.ntmps8
  go_wp2_with (first | (go_at_call 9; refine HA.out.mono ?_; rintro e w1 ⟨rfl, hbw1⟩) | (go_at_call 15; refine (HGp.out _ hbw1).mono ?_; rintro e w2 ⟨⟨a1, c1, a2, c2, rfl, hs1, hx2⟩, hbw2⟩; have HS1 := hid hs1; have HX2 := hid hx2; have HB2 := hid hbw2; clear hs1 hx2 hbw2))
  have HNm : Hid (∀ (b q : Nat) wx, b ≤ 4611686018427387904 → q ≤ 2 → Below w2.heap.size w2 wx → Calls Tryd.prog 10 #[.int .i64 b, .int .i64 q] wx fun e w' => e = .returned (.tuple #[.string (ba (nm b q)), .int .i64 0]) ∧ Below w2.heap.size w2 w') := fun b q wx hb hq hx => by
    refine (name_good b q wx hb hq (HG.out _ (HB2.out.trans (hx.mono HB2.out.size))).1).mono ?_
    rintro e w' ⟨rfl, h⟩
    exact ⟨rfl, hx.trans (h.mono hx.size)⟩
  have HPr : Hid (∀ t wx, t.length ≤ 140737488355328 → prs t = none → Below w2.heap.size w2 wx → Calls Tryd.prog 12 #[.string (ba t)] wx fun e w' => e = .returned (.tuple #[.int .i64 0, .int .i64 0, .bool false]) ∧ Below w2.heap.size w2 w') := fun t wx ht hp hx => by
    have := parse_any (ba t) wx (by rw [ba_size]; exact ht) (HG.out _ (HB2.out.trans (hx.mono HB2.out.size))).1
    rw [show (ba t).data.toList = t from rfl, hp] at this
    refine this.mono ?_
    rintro e w' ⟨rfl, h⟩
    exact ⟨rfl, hx.trans (h.mono hx.size)⟩
  have HTx : Hid (Txs w2 a l) := (HG.out _ HB2.out).2
  clear HA HGp hbw1 HG
  go_loopg [5, 6] n1 (fun k vt vi wr => ∃ i : Nat, i + k = n1 ∧ vt = .int .i64 ((tld T (l1.take i) : Nat) : Int) ∧ vi = .int .i64 (i : Int) ∧ Hid (Below w2.heap.size w2 wr))
  case atStart => exact ⟨0, by omega, rfl, rfl, Below.refl _ _⟩
  case round =>
    obtain ⟨i, hik, rfl, rfl, HW⟩ := hrel
    have htb : tld T (l1.take i) ≤ N := by
      have h1 := tld_le T l1 i
      have h2 := HP0.out.sum
      have h3 := HTL.out
      have h4 := HN.out
      omega
    by_cases hlt : i < n1
    · obtain ⟨k', rfl⟩ : ∃ k', gk = k' + 1 := ⟨gk - 1, by omega⟩
      have hi1 : i < l1.length := by rw [← HN1.out]; exact hlt
      have hltI : (i : Int) < n1 := by omega
      obtain ⟨g1, o1, rfl, hg1, hc1⟩ := sgs_at HS1.out hi1
      have HC1 : Hid (∀ wx, Below w2.heap.size w2 wx → ∀ m (hm : m < l1.length), wx.cell? ⟨g1, o1 + m * 4, none⟩ = some (.int .i64 l1[m].b) ∧ wx.cell? ⟨g1, o1 + m * 4 + 1, none⟩ = some (.bool l1[m].x) ∧ wx.cell? ⟨g1, o1 + m * 4 + 2, none⟩ = some (.bool l1[m].y) ∧ wx.cell? ⟨g1, o1 + m * 4 + 3, none⟩ = some (.bool l1[m].z)) := fun wx hx m hm =>
        have h := hc1 m hm
        ⟨(hx.cell (p := ⟨g1, o1 + m * 4, none⟩) hg1).trans h.1, (hx.cell (p := ⟨g1, o1 + m * 4 + 1, none⟩) hg1).trans h.2.1, (hx.cell (p := ⟨g1, o1 + m * 4 + 2, none⟩) hg1).trans h.2.2.1, (hx.cell (p := ⟨g1, o1 + m * 4 + 3, none⟩) hg1).trans h.2.2.2⟩
      obtain ⟨b, hbM, hbe, hbits, hany⟩ := HP0.out.each i hi1
      have HTK := hid (tld_take (T := T) hi1)
      rw [hbe, Int.toNat_natCast] at HTK
      have HJ := hid (And.intro hik hlt)
      clear hc1 hik
      generalize hX : tld T (l1.take i) = X at *
      have HXX := hid hX
      clear hX
      go_wp2_with fail
      go_cut [44] (fun c wc => c = .bool false ∧ Hid (Below w2.heap.size w2 wc))
      case first =>
        have hw0 := HW.out
        rcases i with _ | m
        · clear hbits hany
          go_big_quiet (fail)
          go_wp2
          go_meet
          case rel => exact ⟨rfl, below_drewN hw0 _⟩
        · have z0 := (HC1.out _ hw0 m (by omega)).1
          have z1 := (HC1.out _ hw0 (m + 1) hi1).1
          have hr := HP0.out.rise m hi1
          have hmI : (m : Int) < n1 := by omega
          have hmI' : (m : Int) + 1 < n1 := by omega
          have hmN : (n1 : Int) ≤ 8796093022208 := by omega
          have hd : decide (l1[m + 1].b ≤ (l1[m]'(by omega)).b) = false := decide_eq_false (by omega)
          rw [hbe] at z1 hd
          generalize (l1[m]'(by omega)).b = y0 at *
          clear hbits hany hr
          go_big_quiet (fail)
          go_wp2
          go_meet
          case rel => exact ⟨rfl, below_drewN hw0 _⟩
      case rest =>
        obtain ⟨rfl, HWc⟩ := hcut
        have HBI := hid hbits
        have HAN := hid hany
        have HBE := hid hbe
        clear hbits hany hbe HW
        go_wp2_with fail
        go_loopg [5, 7] 3 (fun k vt vk wr => ∃ q : Nat, q + k = 3 ∧ vt = .int .i64 ((X + par T b q : Nat) : Int) ∧ vk = .int .i64 (q : Int) ∧ Hid (Below w2.heap.size w2 wr))
        case atStart => exact ⟨0, by omega, rfl, rfl, HWc⟩
        case round =>
          obtain ⟨q, hqk, rfl, rfl, HW3⟩ := hrel
          have hpb : X + par T b q ≤ 5 * 8796093022208 := by
            have h1 := par_le T b q
            have h2 := HTL.out
            have h3 := HN.out
            have h4 : q * T.length ≤ 3 * T.length := Nat.mul_le_mul_right _ (by omega)
            omega
          by_cases hq : q < 3
          · obtain ⟨k3, rfl⟩ : ∃ k3, gk = k3 + 1 := ⟨gk - 1, by omega⟩
            have hqI : (q : Int) < 3 := by omega
            have hw3 := HW3.out
            have z0 := (HC1.out _ hw3 i hi1).1
            rw [HBE.out] at z0
            have HQ := hid (And.intro hqk hq)
            have HPq := hid (show par T b (q + 1) = par T b q + T.count (nm b q) from rfl)
            generalize hY : X + par T b q = Y at *
            have HY := hid hY
            have HCA := hid (fun wx hx => HNm.out b q wx hbM (by omega) hx)
            clear hY hqk hq HW3
            go_wp2_with (go_at_call 10; refine (HCA.out _ hw3).mono ?_; rintro e w4 ⟨rfl, hw4⟩)
            have HW4 := hid hw4
            clear hw3 hw4 z0
            go_loopg [10, 11] N (fun k vn vj wr => ∃ j : Nat, j + k = N ∧ vn = .int .i64 (((T.take j).count (nm b q) : Nat) : Int) ∧ vj = .int .i64 (j : Int) ∧ Hid (Below w2.heap.size w2 wr))
            case atStart => exact ⟨0, by omega, rfl, rfl, HW4⟩
            case round =>
              obtain ⟨j, hjk, rfl, rfl, HW5⟩ := hrel
              have hcb : (T.take j).count (nm b q) ≤ j := by
                have h1 : (T.take j).count (nm b q) ≤ (T.take j).length := List.count_le_length
                rw [List.length_take] at h1
                omega
              by_cases hjl : j < N
              · obtain ⟨k4, rfl⟩ : ∃ k4, gk = k4 + 1 := ⟨gk - 1, by omega⟩
                have hjL : j < l.length := by rw [← HN.out]; exact hjl
                have hjT : j < T.length := by rw [HTL.out]; exact hjL
                have hjI : (j : Int) < N := by omega
                obtain ⟨bt, ot, rfl, hbt, hct⟩ := txs_at HTx.out hjL
                have HST := hid (count_step (x := nm b q) hjT)
                rw [HTj.out j hjL hjT] at HST
                have hw5 := HW5.out
                have y0 := (hw5.cell (p := ⟨bt, ot + j, none⟩) hbt).trans (hct j hjL)
                have HQ5 := hid hjk
                clear hct hjk HW5
                generalize l[j] = t at *
                generalize hC : (T.take j).count (nm b q) = C at *
                clear hC
                have HW5' := hid hw5
                by_cases ht : t.data.toList = nm b q
                · have hq5 : (t.toList == (ba (nm b q)).toList) = true := by rw [ByteArray.toList_eq, ByteArray.toList_eq, ht]; simp [ba]
                  rw [if_pos ht] at HST
                  generalize ba (nm b q) = S at *
                  go_wp2_with fail
                  go_roundg k4
                  case measure => omega
                  case rel => exact ⟨j + 1, by have := HQ5.out; omega, by rw [HST.out]; exact congrArg (Value.int .i64) (by omega), congrArg (Value.int .i64) (by omega), HW5'⟩
                · have hq5 : (t.toList == (ba (nm b q)).toList) = false := by rw [beq_eq_false_iff_ne, ByteArray.toList_eq, ByteArray.toList_eq]; exact ht
                  rw [if_neg ht] at HST
                  generalize ba (nm b q) = S at *
                  go_wp2_with fail
                  go_roundg k4
                  case measure => omega
                  case rel => exact ⟨j + 1, by have := HQ5.out; omega, by rw [HST.out]; rfl, congrArg (Value.int .i64) (by omega), HW5'⟩
              · obtain rfl : j = N := by omega
                have hTN : T.take j = T := List.take_of_length_le (by rw [HTL.out, ← HN.out]; exact Nat.le_refl _)
                rw [hTN] at hcb ⊢
                have hbit := HBI.out q (by have := HQ.out.2; omega)
                have hw5 := HW5.out
                have HW5' := HW5
                have hnj : ¬ (j : Int) < j := by omega
                clear HW5 hTN
                generalize T.count (nm b q) = C at *
                have hq3 : q = 0 ∨ q = 1 ∨ q = 2 := by have := HQ.out.2; omega
                generalize ba (nm b q) = SS at *
                by_cases hC0 : C = 0
                · subst hC0
                  rw [decide_eq_false (by omega)] at hbit
                  rcases hq3 with rfl | rfl | rfl
                  · have z1 := (HC1.out _ hw5 i hi1).2.1
                    have hbit' : l1[i].x = false := hbit
                    rw [hbit'] at z1
                    clear hbit hbit'
                    go_wp2_with fail
                    go_roundg k3
                    case measure => omega
                    case rel => exact ⟨0 + 1, by have := HQ.out.1; omega, congrArg (Value.int .i64) (by have h1 := HY.out; have h2 := HPq.out; omega), rfl, HW5'⟩
                  · have z1 := (HC1.out _ hw5 i hi1).2.2.1
                    have hbit' : l1[i].y = false := hbit
                    rw [hbit'] at z1
                    clear hbit hbit'
                    go_wp2_with fail
                    go_roundg k3
                    case measure => omega
                    case rel => exact ⟨1 + 1, by have := HQ.out.1; omega, congrArg (Value.int .i64) (by have h1 := HY.out; have h2 := HPq.out; omega), rfl, HW5'⟩
                  · have z1 := (HC1.out _ hw5 i hi1).2.2.2
                    have hbit' : l1[i].z = false := hbit
                    rw [hbit'] at z1
                    clear hbit hbit'
                    go_wp2_with fail
                    go_roundg k3
                    case measure => omega
                    case rel => exact ⟨2 + 1, by have := HQ.out.1; omega, congrArg (Value.int .i64) (by have h1 := HY.out; have h2 := HPq.out; omega), rfl, HW5'⟩
                · have hC1 : (0 : Int) < C := by omega
                  have hC2 : decide (0 < C) = true := decide_eq_true (by omega)
                  rw [hC2] at hbit
                  rcases hq3 with rfl | rfl | rfl
                  · have z1 := (HC1.out _ hw5 i hi1).2.1
                    have hbit' : l1[i].x = true := hbit
                    rw [hbit'] at z1
                    clear hbit hbit'
                    go_wp2_with fail
                    go_roundg k3
                    case measure => omega
                    case rel => exact ⟨0 + 1, by have := HQ.out.1; omega, congrArg (Value.int .i64) (by have h1 := HY.out; have h2 := HPq.out; omega), rfl, HW5'⟩
                  · have z1 := (HC1.out _ hw5 i hi1).2.2.1
                    have hbit' : l1[i].y = true := hbit
                    rw [hbit'] at z1
                    clear hbit hbit'
                    go_wp2_with fail
                    go_roundg k3
                    case measure => omega
                    case rel => exact ⟨1 + 1, by have := HQ.out.1; omega, congrArg (Value.int .i64) (by have h1 := HY.out; have h2 := HPq.out; omega), rfl, HW5'⟩
                  · have z1 := (HC1.out _ hw5 i hi1).2.2.2
                    have hbit' : l1[i].z = true := hbit
                    rw [hbit'] at z1
                    clear hbit hbit'
                    go_wp2_with fail
                    go_roundg k3
                    case measure => omega
                    case rel => exact ⟨2 + 1, by have := HQ.out.1; omega, congrArg (Value.int .i64) (by have h1 := HY.out; have h2 := HPq.out; omega), rfl, HW5'⟩
          · obtain rfl : q = 3 := by omega
            rw [par3] at hpb ⊢
            have hw3 := HW3.out
            have HW3' := HW3
            obtain ⟨z0, z1, z2, z3⟩ := HC1.out _ hw3 i hi1
            have he := fun wx => eq3b l1[i].x l1[i].y l1[i].z false false false wx
            have hany := HAN.out
            have ef : ((l1[i].x == false) && ((l1[i].y == false) && (l1[i].z == false))) = false := by
              generalize l1[i].x = x at *
              generalize l1[i].y = y at *
              generalize l1[i].z = z at *
              cases x <;> cases y <;> cases z <;> first | rfl | (simp at hany)
            simp only [ef] at he
            clear ef hany hw3 HW3
            generalize hX2 : X + tri T b = X2 at *
            have HX2' := hid hX2
            clear hX2
            generalize l1[i].x = x at *
            generalize l1[i].y = y at *
            generalize l1[i].z = z at *
            go_wp2_with fail
            go_roundg k'
            case measure => omega
            case rel => exact ⟨i + 1, by have := HJ.out.1; omega, by rw [HTK.out], congrArg (Value.int .i64) (by omega), HW3'⟩
    · obtain rfl : i = n1 := by omega
      have hTN : l1.take i = l1 := List.take_of_length_le (by rw [← HN1.out]; exact Nat.le_refl _)
      rw [hTN] at htb ⊢
      have HSum : Hid (tld T l1 + n2 = N) := by
        have h1 := HP0.out.sum
        have h2 := HTL.out
        show _ = _
        rw [HN2.out, HN.out, ← h2]
        exact h1
      have hni : ¬ (i : Int) < i := by omega
      have HW' := HW
      clear HW hTN HNm HTx HTj HS1 hik
      generalize tld T l1 = X at *
      go_wp2_with fail
      go_loopg [12] n2 (fun k vi wr => ∃ m : Nat, m + k = n2 ∧ vi = .int .i64 (m : Int) ∧ Hid (Below w2.heap.size w2 wr))
      case atStart => exact ⟨0, by omega, rfl, HW'⟩
      case round =>
        obtain ⟨m, hmk, rfl, HW6⟩ := hrel
        by_cases hm : m < n2
        · obtain ⟨k6, rfl⟩ : ∃ k6, gk = k6 + 1 := ⟨gk - 1, by omega⟩
          have hmL : m < l2.length := by rw [← HN2.out]; exact hm
          have hmI : (m : Int) < n2 := by omega
          obtain ⟨b2, o2, rfl, hbb2, hc2⟩ := txs_at (j := m) HX2.out (by rw [List.length_map]; exact hmL)
          have HC2 : Hid (∀ wx, Below w2.heap.size w2 wx → ∀ r (hr : r < l2.length), wx.cell? ⟨b2, o2 + r, none⟩ = some (.string (ba l2[r]))) := fun wx hx r hr => by
            have h := (hx.cell (p := ⟨b2, o2 + r, none⟩) hbb2).trans (hc2 r (by rw [List.length_map]; exact hr))
            rw [List.getElem_map] at h
            exact h
          have hw6 := HW6.out
          have z0 := HC2.out _ hw6 m hmL
          have HPm := hid (fun wx hx => HPr.out l2[m] wx (HSm.out _ (List.getElem_mem hmL)) (HP0.out.strays m hmL) hx)
          have HM := hid hmk
          clear hc2 hmk HW6
          go_wp2_with (go_at_call 12; refine (HPm.out _ hw6).mono ?_; rintro e w7 ⟨rfl, hw7⟩)
          have HW7 := hid hw7
          clear hw6 z0 HPm
          go_cut [128] (fun c wc => c = .bool false ∧ Hid (Below w2.heap.size w2 wc))
          case first =>
            rcases m with _ | r
            · go_big_quiet (fail)
              go_wp2
              go_meet
              case rel => exact ⟨rfl, below_drewN hw7 _⟩
            · have y0 := HC2.out _ hw7 r (by omega)
              have y1 := HC2.out _ hw7 (r + 1) hmL
              have ho : (!Op.bytesLess (ba (l2[r]'(by omega))).toList (ba l2[r + 1]).toList && !(ba (l2[r]'(by omega))).toList == (ba l2[r + 1]).toList) = false := by
                rw [ByteArray.toList_eq, ByteArray.toList_eq]
                exact bl_gt (HP0.out.order r hmL)
              have hrI : (r : Int) < n2 := by omega
              have hrI' : (r : Int) + 1 < n2 := by omega
              have hrN : (n2 : Int) ≤ 8796093022208 := by omega
              generalize ba l2[r + 1] = t1 at *
              generalize ba (l2[r]'(by omega)) = t0 at *
              go_big_quiet (fail)
              go_wp2
              go_meet
              case rel => exact ⟨rfl, below_drewN hw7 _⟩
          case rest =>
            obtain ⟨rfl, HWc⟩ := hcut
            clear hw7 HW7
            go_wp2_with fail
            go_roundg k6
            case measure => omega
            case rel => exact ⟨m + 1, by have := HM.out; omega, congrArg (Value.int .i64) (by omega), HWc⟩
        · have hmI : ¬ (m : Int) < n2 := by omega
          have HB' := hid (HB2.out.trans (HW6.out.mono HB2.out.size))
          have hsum : ((X : Int) + n2 == N) = true := by have := HSum.out; simp; omega
          have hsum' : (X : Int) + n2 = N := by have := HSum.out; omega
          have hXb : (X : Int) ≤ 8796093022208 := by omega
          have hnb : (n2 : Int) ≤ 8796093022208 := by omega
          clear HW6
          go_wp2_with fail
          go_ret
          exact ⟨by simp, HB'.out⟩
end Go.Proofs.YtgffipkbbenddaaDoor
