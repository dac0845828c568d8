/- LzKeeps' walk: lists that were answered may be written over and grown; other answers stay. -/
import Derived.Test.YtdkfenmhfkggdabSam
import Derived.Test.YtdkfenmhfkggdabTl
import Derived.Maps.AppendAt
namespace Go.Proofs.Ytdkfenmhfkggdab
open Go.RowKit
/-- Elements that lie in blocks from B to X. -/
def TripM (B X : Nat) (w : World) (a : Option Addr) (rs : List (ByteArray × Int × Int)) : Prop := rs = [] ∨ ∃ b off, a = some ⟨b, off, none⟩ ∧ B ≤ b ∧ b < X ∧ ∀ j, j < rs.length → w.cell? ⟨b, off + j * 3, none⟩ = some (.string (rs.getD j (ByteArray.empty, 0, 0)).1) ∧ w.cell? ⟨b, off + j * 3 + 1, none⟩ = some (.int .i64 (rs.getD j (ByteArray.empty, 0, 0)).2.1) ∧ w.cell? ⟨b, off + j * 3 + 2, none⟩ = some (.int .i64 (rs.getD j (ByteArray.empty, 0, 0)).2.2)
def Mid (B X : Nat) (w w' : World) : Prop := ∀ k, B ≤ k → k < X → w'.heap[k]? = w.heap[k]?
theorem cell_heap {w w' : World} {b : Nat} (h : w'.heap[b]? = w.heap[b]?) (o : Nat) : w'.cell? ⟨b, o, none⟩ = w.cell? ⟨b, o, none⟩ := by simp [World.cell?, h]
theorem TripM.mid {B X : Nat} {w w' : World} {a : Option Addr} {rs : List (ByteArray × Int × Int)} (h : TripM B X w a rs) (hm : Mid B X w w') : TripM B X w' a rs := by
  rcases h with rfl | ⟨b, off, rfl, h1, h2, hc⟩
  · exact Or.inl rfl
  · refine Or.inr ⟨b, off, rfl, h1, h2, fun j hj => ?_⟩
    have hh := hm b h1 h2
    rw [cell_heap hh, cell_heap hh, cell_heap hh]
    exact hc j hj
theorem TripM.wide {B X B' X' : Nat} {w : World} {a : Option Addr} {rs : List (ByteArray × Int × Int)} (h : TripM B X w a rs) (h1 : B' ≤ B) (h2 : X ≤ X') : TripM B' X' w a rs := by
  rcases h with rfl | ⟨b, off, rfl, k1, k2, hc⟩
  · exact Or.inl rfl
  · exact Or.inr ⟨b, off, rfl, by omega, by omega, hc⟩
theorem TripM.trip {B X : Nat} {w : World} {a : Option Addr} {rs : List (ByteArray × Int × Int)} (h : TripM B X w a rs) (h2 : X ≤ w.heap.size) : Trip w a rs := by
  rcases h with rfl | ⟨b, off, rfl, k1, k2, hc⟩
  · exact Or.inl rfl
  · exact Or.inr ⟨b, off, rfl, by omega, hc⟩
theorem Mid.below {B X : Nat} {w w' : World} (h : Below w.heap.size w w') (hX : X ≤ w.heap.size) : Mid B X w w' := fun k _ hk => h.block k (by omega)
theorem Mid.trans {B X : Nat} {a b c : World} (h : Mid B X a b) (k : Mid B X b c) : Mid B X a c := fun i h1 h2 => (k i h1 h2).trans (h i h1 h2)
theorem OwnT.sliceM {T : TypeId} {w : World} {B : Nat} {v : Value} {rs : List (ByteArray × Int × Int)} (h : OwnT T w B v rs) : ∃ a cap, v = .slice a rs.length cap ∧ TripM B w.heap.size w a rs := by
  have hlt := World.ownsRow.lt h
  obtain ⟨a, cap, rfl, hn, hT⟩ := OwnT.slice h
  refine ⟨a, cap, rfl, ?_⟩
  rcases hT with rfl | ⟨b, off, rfl, hb, hc⟩
  · exact Or.inl rfl
  · exact Or.inr ⟨b, off, rfl, (hlt b rfl).1, hb, hc⟩
theorem own_wide' {T : TypeId} {w w' : World} {B : Nat} {v : Value} {rs : List (ByteArray × Int × Int)} (h : OwnT T w B v rs) (hb : Below w.heap.size w w') : OwnT T w' B v rs := own_apart h (fun g hg => hb.block g (World.ownsRow.lt h g hg).2)
set_option maxHeartbeats 8000000 in
set_option maxRecDepth 20000 in
theorem keeps_walk (s t : ByteArray) (w : World) (hs : s.size ≤ 1048576) (ht : t.size ≤ 1048576) :
    Calls Try.prog 5 #[.string s, .string t] w fun e w' => e = .returned (.bool true) ∧ Below w.heap.size w w' := by
  obtain ⟨i0, hi, hz0, hz1, hz2⟩ := info_parts Try.infoTok
  have each : ∀ s : ByteArray, s.size ≤ 1048576 → ∃ (PB : ByteArray) (rs : List (ByteArray × Int × Int)), rs.length ≤ 1048576 ∧ (∀ w : World, Calls Try.prog 13 #[.string s] w fun e w' => e = .returned (.string PB) ∧ Below w.heap.size w w') ∧ (∀ w : World, Calls Try.prog 10 #[.string PB] w fun e w' => (∃ v, e = .returned (.tuple #[v, .int .i64 PB.size, .int .i64 0]) ∧ OwnT 36 w' w.heap.size v rs) ∧ Below w.heap.size w w') ∧ frmV (frm rs) = .tuple #[.string PB, .int .i64 0] := by
    intro s hs
    have hps := M.pack_size s.data.toList
    have hlen := len_ s
    have hz := Pz.pk (l := s.data.toList) 0 0 (Nat.le_refl _) (Nat.zero_le _) (fun j h1 h2 => by omega)
    have hct := pk_count hz
    refine ⟨ba (M.pack s.data.toList), (M.packT s.data.toList).map rt, ?_, fun w => pack_any s w (by omega), fun w => ?_, ?_⟩
    · have h1 : (M.packT s.data.toList).length ≤ s.data.toList.length - 0 := hct
      rw [List.length_map]
      omega
    · have h := toks_any (ba (M.pack s.data.toList)) w (by rw [ba_size]; omega)
      have htk : M.tks 0 (M.pack s.data.toList) = .ok (M.packT s.data.toList) := M.tks_bytes _ _ (M.pk_ok 0 0 (Nat.le_refl _))
      rw [ba_list, htk] at h
      exact h
    · rw [frm_toks (M.packT s.data.toList) (M.pk_ok 0 0 (Nat.le_refl _))]
      rfl
  obtain ⟨PS, rS, hrS, cpS, ctS, hfS⟩ := each s hs
  obtain ⟨PT, rT, hrT, cpT, ctT, hfT⟩ := each t ht
  have CPS := hid cpS; have CTS := hid ctS; have CPT := hid cpT; have CTT := hid ctT; have HFS := hid hfS
  clear each cpS ctS hfS cpT ctT hfT hs ht
  go_enter Try.func5, Try.ntmps5
  go_wp2_with fail
  refine (fixed_any _).mono ?_
  rintro e w1 ⟨rfl, hb1⟩
  go_wp2_with fail
  refine (CPS.out _).mono ?_
  rintro e w2 ⟨rfl, hb2⟩
  have B2 := hid (bel_bel hb1 hb2 hb1.size)
  clear hb1 hb2
  go_wp2_with fail
  refine (CTS.out _).mono ?_
  rintro e w3 ⟨⟨va, rfl, hoa⟩, hb3⟩
  have B3 := hid (bel_bel B2.out hb3 B2.out.size)
  have HLA := hid (fun k (h : va.ownBlock = some k) => (World.ownsRow.lt hoa k h).2)
  have HZ2 : Hid (w.heap.size ≤ w2.heap.size) := B2.out.size
  have HZ3 : Hid (w2.heap.size ≤ w3.heap.size) := hb3.size
  have HOA := hid hoa
  clear hoa hb3 B2
  go_wp2_with fail
  refine (CPS.out _).mono ?_
  rintro e w4 ⟨rfl, hb4⟩
  have B4 := hid (bel_bel B3.out hb4 B3.out.size)
  have HOA4 := hid (own_wide' HOA.out hb4)
  have HZ4 : Hid (w3.heap.size ≤ w4.heap.size) := hb4.size
  clear hb4 B3 HOA
  go_wp2_with fail
  refine (CTS.out _).mono ?_
  rintro e w5 ⟨⟨vb, rfl, hob⟩, hb5⟩
  obtain ⟨ab, capb, rfl, hTb⟩ := OwnT.sliceM hob
  have B5 := hid (bel_bel B4.out hb5 B4.out.size)
  have HOA5 := hid (own_wide' HOA4.out hb5)
  have HTB5 := hid hTb
  have HZ5 : Hid (w4.heap.size ≤ w5.heap.size) := hb5.size
  clear hob hTb hb5 B4 HOA4
  go_wp2_with fail
  refine (CPT.out _).mono ?_
  rintro e w6 ⟨rfl, hb6⟩
  have B6 := hid (bel_bel B5.out hb6 B5.out.size)
  have HOA6 := hid (own_wide' HOA5.out hb6)
  have HTB6 := hid (HTB5.out.mid (Mid.below hb6 (Nat.le_refl _)))
  have HZ6 : Hid (w5.heap.size ≤ w6.heap.size) := hb6.size
  clear hb6 B5 HOA5 HTB5
  go_wp2_with fail
  refine (CTT.out _).mono ?_
  rintro e w7 ⟨⟨vc, rfl, hoc⟩, hb7⟩
  obtain ⟨ac, capc, rfl, hTc⟩ := OwnT.sliceM hoc
  have B7 := hid (bel_bel B6.out hb7 B6.out.size)
  have HOA7 := hid (own_wide' HOA6.out hb7)
  have HTB7 := hid (HTB6.out.mid (Mid.below hb7 HZ6.out))
  have HTC7 := hid hTc
  have HZ7 : Hid (w6.heap.size ≤ w7.heap.size) := hb7.size
  clear hoc hTc hb7 B6 HOA6 HTB6
  go_wp2_with fail
  refine (CPT.out _).mono ?_
  rintro e w8 ⟨rfl, hb8⟩
  have B8 := hid (bel_bel B7.out hb8 B7.out.size)
  have HOA8 := hid (own_wide' HOA7.out hb8)
  have HTB8 := hid (HTB7.out.mid (Mid.below hb8 (Nat.le_trans HZ6.out HZ7.out)))
  have HTC8 := hid (HTC7.out.mid (Mid.below hb8 (Nat.le_refl _)))
  have HZ8 : Hid (w7.heap.size ≤ w8.heap.size) := hb8.size
  clear hb8 B7 HOA7 HTB7 HTC7
  go_wp2_with fail
  refine (CTT.out _).mono ?_
  rintro e w9 ⟨⟨vd, rfl, hod⟩, hb9⟩
  obtain ⟨ad, capd, rfl, hTd⟩ := OwnT.sliceM hod
  have B9 := hid (bel_bel B8.out hb9 B8.out.size)
  have HOA9 := hid (own_wide' HOA8.out hb9)
  obtain ⟨X, hX⟩ : ∃ X, X = w9.heap.size := ⟨_, rfl⟩
  obtain ⟨Bb, hBb⟩ : ∃ Bb, Bb = w4.heap.size := ⟨_, rfl⟩
  have z5 := HZ5.out; have z6 := HZ6.out; have z7 := HZ7.out; have z8 := HZ8.out
  have z9 : w8.heap.size ≤ w9.heap.size := hb9.size
  have HTB9 := hid ((HTB8.out.mid (Mid.below hb9 (by omega))).wide (B' := Bb) (X' := X) (by omega) (by omega))
  have HTC9 := hid ((HTC8.out.mid (Mid.below hb9 (by omega))).wide (B' := Bb) (X' := X) (by omega) (by omega))
  have HTD9 := hid (hTd.wide (B' := Bb) (X' := X) (by omega) (by omega))
  have HGA : Hid (∀ k, va.ownBlock = some k → k < Bb) := fun k hk => by have := HLA.out k hk; have := HZ4.out; omega
  have HX9 : Hid (X ≤ w9.heap.size) := by show X ≤ _; omega
  have HZX : Hid (w2.heap.size ≤ X) := by have := HZ3.out; have := HZ4.out; show _ ≤ X; omega
  clear hod hTd hb9 B8 HOA8 HTB8 HTC8 z5 z6 z7 z8 z9 HZ5 HZ6 HZ7 HZ8 HLA HZ4 hX hBb
  have hoa := HOA9.out
  unfold OwnT at hoa
  have HOA := hid hoa
  have HLR : Hid ((rcs rS).length = rS.length * 3) := rcs_len rS
  generalize rcs rS = xs0 at *
  clear hoa HOA9
  obtain ⟨aa, capa, rfl⟩ : ∃ aa capa, va = .slice aa rS.length capa := by
    rcases HOA.out.2 with ⟨h1, h2⟩ | ⟨g, cap, cur, h1, _⟩
    · exact ⟨none, 0, by rw [h1, h2]⟩
    · exact ⟨_, _, h1⟩
  go_wp2_with fail
  go_loopg [17] rS.length (fun k i wr => ∃ (j : Nat) (xs : List Value), j + k = rS.length ∧ i = .int .i64 j ∧ Hid (xs.length = rS.length * 3) ∧ Hid (wr.ownsRow w2.heap.size 36 3 (.slice aa rS.length capa) rS.length xs) ∧ Hid (Mid Bb X w9 wr) ∧ Hid (Below w.heap.size w wr) ∧ Hid (X ≤ wr.heap.size))
  case atStart => exact ⟨0, xs0, by omega, rfl, HLR, HOA, fun k _ _ => rfl, B9, HX9⟩
  case round =>
    clear HOA HLR B9 HX9
    obtain ⟨j, xs, hk, rfl, HLX, HO, HM, HB, HX⟩ := hrel
    by_cases hlt : j < rS.length
    · obtain ⟨k, rfl⟩ : ∃ k, gk = k + 1 := ⟨gk - 1, by omega⟩
      obtain ⟨g, rfl⟩ : ∃ g, aa = some ⟨g, 0, none⟩ := by
        rcases HO.out.2 with ⟨h1, h2⟩ | ⟨g, cap, cur, h1, _⟩
        · omega
        · injection h1 with h1; exact ⟨g, h1⟩
      have hgB := HGA.out g rfl
      have hgw := (World.ownsRow.lt HO.out g rfl).1
      have hxl := HLX.out
      obtain ⟨x0, hx0⟩ : ∃ x, xs[j * 3]? = some x := ⟨_, List.getElem?_eq_getElem (by omega)⟩
      obtain ⟨x1, hx1⟩ : ∃ x, xs[j * 3 + 1]? = some x := ⟨_, List.getElem?_eq_getElem (by omega)⟩
      obtain ⟨x2, hx2⟩ : ∃ x, xs[j * 3 + 2]? = some x := ⟨_, List.getElem?_eq_getElem (by omega)⟩
      have k0 := (World.ownsRow.cellAt HO.out (j * 3) (by omega)).trans hx0
      have k1 := (World.ownsRow.cellAt HO.out (j * 3 + 1) (by omega)).trans hx1
      have k2 := (World.ownsRow.cellAt HO.out (j * 3 + 2) (by omega)).trans hx2
      have f0 := World.ownsRow.frozenAt HO.out (j * 3)
      have f1 := World.ownsRow.frozenAt HO.out (j * 3 + 1)
      have f2 := World.ownsRow.frozenAt HO.out (j * 3 + 2)
      have o1 := World.ownsRow.stored HO.out (j * 3) (.string ⟨#[]⟩)
      have o2 := World.ownsRow.stored o1.1 (j * 3 + 1) (.int .i64 (-1))
      have o3 := World.ownsRow.stored o2.1 (j * 3 + 2) (.int .i64 0)
      have HO3 := hid o3.1
      have hzw := HZ2.out
      have HB3 : Hid (Below w.heap.size w (((wr.setCell ⟨g, j * 3, none⟩ (.string ⟨#[]⟩)).setCell ⟨g, j * 3 + 1, none⟩ (.int .i64 (-1))).setCell ⟨g, j * 3 + 2, none⟩ (.int .i64 0))) := ((HB.out.setCell (by show w.heap.size ≤ g; omega) _).setCell (by show w.heap.size ≤ g; omega) _).setCell (by show w.heap.size ≤ g; omega) _
      have HM3 : Hid (Mid Bb X w9 (((wr.setCell ⟨g, j * 3, none⟩ (.string ⟨#[]⟩)).setCell ⟨g, j * 3 + 1, none⟩ (.int .i64 (-1))).setCell ⟨g, j * 3 + 2, none⟩ (.int .i64 0))) := by
        intro k h1 h2
        rw [Below.heap_setCell _ _ _ k (by show k ≠ g; omega), Below.heap_setCell _ _ _ k (by show k ≠ g; omega), Below.heap_setCell _ _ _ k (by show k ≠ g; omega)]
        exact HM.out k h1 h2
      have HX3 : Hid (X ≤ (((wr.setCell ⟨g, j * 3, none⟩ (.string ⟨#[]⟩)).setCell ⟨g, j * 3 + 1, none⟩ (.int .i64 (-1))).setCell ⟨g, j * 3 + 2, none⟩ (.int .i64 0)).heap.size) := by
        show X ≤ _
        simp [World.setCell]
        exact HX.out
      have HLX3 : Hid ((((xs.set (j * 3) (.string ⟨#[]⟩)).set (j * 3 + 1) (.int .i64 (-1))).set (j * 3 + 2) (.int .i64 0)).length = rS.length * 3) := by show _ = _; simp [hxl]
      have b1 : (0 : Int) ≤ (j : Int) := by omega
      have b2 : (j : Int) < rS.length := by omega
      clear o1 o2 o3 hx0 hx1 hx2 HO HM HB HX hxl HLX
      go_wp2_with fail
      go_roundg k
      case measure => omega
      case rel => exact ⟨j + 1, _, by omega, by go_num, HLX3, HO3, HM3, HB3, HX3⟩
    · obtain rfl : gk = 0 := by omega
      go_wp2_with fail
      go_loopg [18, 19] 16 (fun k v i wr => ∃ (j n : Nat) (ys : List Value), j + k = 16 ∧ n = rS.length + j ∧ i = .int .i64 j ∧ Hid (wr.ownsRow w2.heap.size 36 3 v n ys) ∧ Hid (∀ k, v.ownBlock = some k → k < Bb ∨ X ≤ k) ∧ Hid (Mid Bb X w9 wr) ∧ Hid (Below w.heap.size w wr) ∧ Hid (X ≤ wr.heap.size))
      case atStart => exact ⟨0, rS.length, xs, by omega, rfl, rfl, HO, fun k hk => Or.inl (HGA.out k hk), HM, HB, HX⟩
      case round =>
        clear HO HM HB HX HLX
        obtain ⟨j2, n, ys, hk2, hn, rfl, HO, HG, HM, HB, HX⟩ := hrel
        by_cases hlt2 : j2 < 16
        · obtain ⟨k2, rfl⟩ : ∃ k2, gk = k2 + 1 := ⟨gk - 1, by omega⟩
          have ho := HO.out
          have hzx := HZX.out
          have hxx := HX.out
          have hnb : n ≤ 2000000 := by omega
          have HNN := hid hn
          clear hn
          go_wp2_with (at_builtin; refine wpList_append_own_at _ rfl _ _ 27 rfl w2.heap.size 36 i0 (.agg #[.string ⟨#[]⟩, .int .i64 0, .int .i64 0]) 3 32 Try.underToks hi hz0 hz1 hz2 rfl (by decide) _ _ _ rfl (ho.alloc _) ⟨wr.heap.size, 0, none⟩ 1 1 (rc (⟨#[]⟩, (-2 : Int), (0 : Int))) rfl rfl ?c1 ?c2 ?c3 ?c4 ?c5 ?_)
          case c1 => exact cells_newN _ (rc (⟨#[]⟩, (-2 : Int), (0 : Int))) _ _ rfl
          case c2 => exact rc_one _
          case c3 => unfold maxLen; omega
          case c4 => omega
          case c5 => simp; omega
          intro v' w10 hown hgrow _ hat
          have HO2 := hid hown
          have HG2 : Hid (∀ k, v'.ownBlock = some k → k < Bb ∨ X ≤ k) := by
            intro k hk
            rcases hat with h | h
            · rw [h] at hk; exact HG.out k hk
            · rw [h] at hk
              injection hk with hk
              exact Or.inr (by omega)
          have HM2 : Hid (Mid Bb X w9 w10) := by
            intro k h1 h2
            rw [hgrow.block k (by simp; omega) (fun e => by have := HG.out k e.symm; omega), Below.heap_alloc _ _ k (by omega)]
            exact HM.out k h1 h2
          have HB2 : Hid (Below w.heap.size w w10) := (HB.out.alloc (by have := HZ2.out; omega) _).grown hgrow (by have := HZ2.out; simp; omega) (fun k hk => by have := (World.ownsRow.lt ho k hk).1; have := HZ2.out; omega)
          have HX2 : Hid (X ≤ w10.heap.size) := by have := hgrow.size; simp at this; show X ≤ _; omega
          clear hown hgrow hat ho HM HB HX HG
          go_wp2_with fail
          go_roundg k2
          case measure => omega
          case rel => exact ⟨j2 + 1, n + 1, _, by omega, by have := HNN.out; omega, by go_num, HO2, HG2, HM2, HB2, HX2⟩
        · have HTB := hid ((HTB9.out.mid HM.out).trip HX.out)
          have HTC := hid ((HTC9.out.mid HM.out).trip HX.out)
          have HTD := hid ((HTD9.out.mid HM.out).trip HX.out)
          have cf := form_any ab capb rS wr (by omega) HTB.out
          rw [HFS.out] at cf
          have CF := hid cf
          clear cf
          go_wp2_with fail
          refine CF.out.mono ?_
          rintro e w11 ⟨rfl, hb11⟩
          have HB11 := hid (bel_bel HB.out hb11 HB.out.size)
          have cs := same_any ac ad capc capd rT w11 (by omega) (HTC.out.below hb11) (HTD.out.below hb11)
          have CS := hid cs
          clear hb11 cs
          go_wp2_with fail
          refine CS.out.mono ?_
          rintro e w12 ⟨rfl, hq12⟩
          have HB12 := hid (below_qt HB11.out hq12)
          clear hq12
          go_wp2_with fail
          refine (CPS.out _).mono ?_
          rintro e w13 ⟨rfl, hb13⟩
          have HB13 := hid (bel_bel HB12.out hb13 HB12.out.size)
          clear hb13
          go_wp2_with fail
          go_ret
          exact ⟨rfl, HB13.out⟩
end Go.Proofs.Ytdkfenmhfkggdab
