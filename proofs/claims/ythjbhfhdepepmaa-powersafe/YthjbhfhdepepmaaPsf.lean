/- PowerSafe: what is synced is never lost or changed. -/
import Derived.Test.YthjbhfhdepepmaaPMB
namespace Go.Proofs.Ythjbhfhdepepmaa
open Go.RowKit
theorem lfs_none {t : Nat} : ∀ (ws : List (Int × ByteArray)) (b : List UInt8), b.length = t → lfs t t b ws = b
  | [], b, _ => rfl
  | w :: ws, b, h => by
    have e : lf1 t t b w = b := by
      apply List.ext_getElem?
      intro j
      unfold lf1
      rw [wn_pt _ _ _ (Nat.le_refl _) h]
      by_cases hj : j < b.length
      · rw [List.getElem?_eq_getElem hj, Option.map_some]
        unfold pt
        rw [if_neg (by omega)]
      · rw [List.getElem?_eq_none (by omega)]
        rfl
    show lfs t t (lf1 t t b w) ws = b
    rw [e]
    exact lfs_none ws b h
theorem sfe_nat {n s : Nat} (h : s ≤ n) : sfe n (s : Int) = s := by unfold sfe; omega
theorem lft_again (X : List UInt8) (kp : Int) (ws : List (Int × ByteArray)) : lft X (X.length : Int) kp ws = X := by
  unfold lft
  have e1 := sfe_nat (n := X.length) (Nat.le_refl _)
  have e2 : kpt X.length X.length kp = X.length := by unfold kpt; omega
  simp only [e1, e2]
  rw [List.take_length]
  exact lfs_none ws X rfl
theorem lft_plain (X : List UInt8) (sy kp : Int) : lft X sy kp [] = X.take (kpt X.length (sfe X.length sy) kp) := rfl
theorem lft_head {X : List UInt8} {s : Nat} (h : s ≤ X.length) (kp : Int) (ws : List (Int × ByteArray)) : (lft X s kp ws).take s = X.take s := by
  unfold lft
  have e1 := sfe_nat h
  have hk := kpt_le kp h
  simp only [e1]
  rw [lfs_head hk.1 ws _ (by rw [List.length_take]; omega), List.take_take, Nat.min_eq_left hk.1]
theorem tl_inj8 {s t : ByteArray} (h : s.toList = t.toList) : s = t := by
  rw [ByteArray.toList_eq, ByteArray.toList_eq] at h
  exact ba_eq.1 h
theorem ext_take8 (s : ByteArray) (n : Nat) : (s.extract 0 n).data.toList = s.data.toList.take n := by
  rw [ByteArray.data_extract, Array.toList_extract]
  simp
theorem bl_set {H : Nat} {a b : World} (h : Below H a b) (p : Addr) (v : Value) (hp : H ≤ p.block) : Below H a (b.setCell p v) :=
  ⟨h.os, h.tape, h.output, by have := h.size; simp [World.setCell]; omega, fun k hk => (Below.heap_setCell b p v k (by omega)).trans (h.block k hk)⟩
set_option maxHeartbeats 2000000 in
set_option maxRecDepth 20000 in
theorem psf_core (D L X : ByteArray) (z s t n : Nat) (K : Nat) (nm : ByteArray) (kp : Int) (a : Option Addr) (M cap : Nat) (w : World)
    (hz : z < 65536) (hn : D.size = n) (hn' : n ≤ 140737488355328) (hs : s = z % (n + 1)) (ht : L.size = t) (hst : s ≤ t) (htn : t ≤ n) (hkp : min (max kp s) n = t)
    (hhd : (L.extract 0 s).toList == (D.extract 0 s).toList) (hX : D.extract 0 t = X) (cut ch : Bool) (hcut : decide ((t : Int) < n) = cut) (hch : (L.toList == X.toList) = !ch)
    (hK : K = (if cut then 1 else 0) + (if ch then 2 else 0))
    (HFL : Hid (∀ wx, Below w.heap.size w wx → Calls Try.prog 9 #[] wx fun e w' => e = .returned (.bool true) ∧ Below wx.heap.size wx w'))
    (HL1 : Hid (∀ wx, Below w.heap.size w wx → Calls Try.prog 10 #[.string D, .int .i64 s, .agg #[.string nm, .int .i64 kp, .slice a M cap]] wx fun e w' => e = .returned (.string L) ∧ Below wx.heap.size wx w'))
    (HO : Hid (∀ wx, Below w.heap.size w wx → Calls Try.prog 12 #[.string D, .int .i64 s, .agg #[.string nm, .int .i64 kp, .slice a M cap]] wx fun e w' => e = .returned (.int .i64 K) ∧ Below wx.heap.size wx w'))
    (HL2 : Hid (∀ wx, Below w.heap.size w wx → Calls Try.prog 10 #[.string L, .int .i64 t, .agg #[.string nm, .int .i64 kp, .slice a M cap]] wx fun e w' => e = .returned (.string L) ∧ Below wx.heap.size wx w'))
    (HL3 : Hid (∀ wx, Below w.heap.size w wx → Calls Try.prog 10 #[.string D, .int .i64 s, .agg #[.string nm, .int .i64 kp, .slice none 0 0]] wx fun e w' => e = .returned (.string X) ∧ Below wx.heap.size wx w')) :
    Calls Try.prog 6 #[.string D, .int .u16 z, .agg #[.string nm, .int .i64 kp, .slice a M cap]] w fun e w' => e = .returned (.bool true) ∧ Below w.heap.size w w' := by
  have hbw : Below w.heap.size w (w.alloc (Obj.cells #[.string nm, .int .i64 kp, .slice a M cap] 24)) := bel_alloc _ _
  have hF : (w.alloc (Obj.cells #[.string nm, .int .i64 kp, .slice a M cap] 24)).heap[w.heap.size]? = some (.cells #[.string nm, .int .i64 kp, .slice a M cap] 24 (0, 0)) := heap_new _ _
  obtain ⟨w0, hw0⟩ : ∃ w0, w0 = w.alloc (Obj.cells #[.string nm, .int .i64 kp, .slice a M cap] 24) := ⟨_, rfl⟩
  rw [← hw0] at hbw hF
  have hrem : (z : Int) % ((n : Int) + 1) = s := by rw [hs]; exact (Int.natCast_emod z (n + 1)).symm
  have BT : ∀ {wx wy : World}, Below w0.heap.size w0 wx → Below wx.heap.size wx wy → Below w0.heap.size w0 wy := fun h1 h2 => h1.trans (h2.mono h1.size)
  have B0 : ∀ {wx : World}, Below w0.heap.size w0 wx → Below w.heap.size w wx := fun h => hbw.trans (h.mono hbw.size)
  have HG : Hid (∀ wx, Below w0.heap.size w0 wx → wx.cell? ⟨w.heap.size, 0, none⟩ = some (.string nm) ∧ wx.cell? ⟨w.heap.size, 1, none⟩ = some (.int .i64 kp) ∧ wx.cell? ⟨w.heap.size, 2, none⟩ = some (.slice a M cap)) := fun wx hb =>
    have hh := (hb.block _ (lt_of_heap hF)).trans hF
    ⟨(cell_of hh).trans rfl, (cell_of hh).trans rfl, (cell_of hh).trans rfl⟩
  have HFZ : Hid (∀ wx, Below w0.heap.size w0 wx → wx.heap[w.heap.size]? = some (.cells #[.string nm, .int .i64 kp, .slice a M cap] 24 (0, 0))) := fun wx hb => (hb.block _ (lt_of_heap hF)).trans hF
  have G1 := hid (fun wx (hb : Below w0.heap.size w0 wx) => (HFL.out wx (B0 hb)).mono (R' := fun e w' => e = .returned (.bool true) ∧ Below w0.heap.size w0 w') fun e w' h => ⟨h.1, BT hb h.2⟩)
  have G2 := hid (fun wx (hb : Below w0.heap.size w0 wx) => (HL1.out wx (B0 hb)).mono (R' := fun e w' => e = .returned (.string L) ∧ Below w0.heap.size w0 w') fun e w' h => ⟨h.1, BT hb h.2⟩)
  have G3 := hid (fun wx (hb : Below w0.heap.size w0 wx) => (HO.out wx (B0 hb)).mono (R' := fun e w' => e = .returned (.int .i64 K) ∧ Below w0.heap.size w0 w') fun e w' h => ⟨h.1, BT hb h.2⟩)
  have G4 := hid (fun wx (hb : Below w0.heap.size w0 wx) => (HL2.out wx (B0 hb)).mono (R' := fun e w' => e = .returned (.string L) ∧ Below w0.heap.size w0 w') fun e w' h => ⟨h.1, BT hb h.2⟩)
  have HB0 := hid hbw
  have hsn : (s : Int) ≤ n := by omega
  have htI : (t : Int) ≤ n := by omega
  have hstI : (s : Int) ≤ t := by omega
  have HZ := hid (And.intro hz hs)
  have r1 : ¬ (t : Int) < s := by omega
  have r2 : ¬ (n : Int) < t := by omega
  have HKP := hid hkp
  have HHD := hid hhd
  have HCUT := hid (And.intro hcut hch)
  have HKK := hid hK
  have HXX := hid hX
  have HTT := hid (And.intro htI (And.intro hstI (And.intro r1 r2)))
  have HT := hid ht
  have HNN := hid hn'
  clear BT B0 HFL HL1 HO HL2 hz hs hF hbw hst htn hkp hhd hcut hch hK hX htI hstI r1 r2 ht hn'
  go_enter Try.func6, Try.ntmps6
  go_wp2_with fail
  rw [← hw0]
  clear hw0
  refine (G1.out _ (Below.refl _ _)).mono ?_
  rintro e w1 ⟨rfl, hb1⟩
  obtain ⟨c0, c1, c2⟩ := HG.out _ hb1
  have hnI : (n : Int) + 1 ≠ 0 := by omega
  have zz : (z : Int) < 65536 := by have := HZ.out.1; omega
  have nn : (n : Int) ≤ 140737488355328 := by have := HNN.out; omega
  go_wp2_with (go_at_call 10; refine (G2.out _ hb1).mono ?_; rintro e w2 ⟨rfl, hb2⟩; obtain ⟨d0, d1, d2⟩ := HG.out _ hb2)

  clear hrem hnI zz c0 c1 c2 G1 G2
  have ht := HT.out
  have htt := HTT.out
  obtain ⟨htI, hstI, r1, r2⟩ := htt
  have q1 : decide ((t : Int) < (s : Int)) = false := decide_eq_false (by omega)
  have q2 : decide ((n : Int) < (t : Int)) = false := decide_eq_false (by omega)
  have q1' : decide (t < s) = false := decide_eq_false (by omega)
  have q2' : decide (n < t) = false := decide_eq_false (by omega)
  have q3 := HHD.out
  have q4 : min (max kp (s : Int)) (n : Int) = t := HKP.out
  have s0 : (0 : Int) ≤ s := by omega
  go_big_quiet (fail)
  clear q1 q2 q1' q2' q3 q4 s0 r1 r2
  cases cut <;> cases ch
  · obtain ⟨hcut, hch⟩ := HCUT.out
    have hcutN : decide (t < n) = false := by rw [← hcut]; exact decide_eq_decide.2 (by omega)
    have hX := HXX.out
    have hKI : (K : Int) = 0 := by rw [HKK.out]; rfl
    rw [hKI] at G3
    clear HCUT HKK hKI
    go_wp2_with (first | (go_at_call 12; refine (G3.out _ (by first | exact hb2 | exact below_drewN hb2 _)).mono ?_; rintro e w3 ⟨rfl, hb3⟩; obtain ⟨e0, e1, e2⟩ := HG.out _ hb3) | (go_at_call 10; refine (G4.out _ hb3).mono ?_; rintro e w4 ⟨rfl, hb4⟩; obtain ⟨f0, f1, f2⟩ := HG.out _ hb4; have fz := froz_of (i := 2) (HFZ.out _ hb4)))
    have hblk := heap_set (i := 2) (v := .slice none 0 0) (HFZ.out _ hb4)
    have hb5 := bl_set (HB0.out.trans (hb4.mono HB0.out.size)) ⟨w.heap.size, 2, none⟩ (.slice none 0 0) (Nat.le_refl _)
    generalize w4.setCell ⟨w.heap.size, 2, none⟩ (.slice none 0 0) = w5 at *
    have HG5 : Hid (∀ wx, Below w5.heap.size w5 wx → wx.cell? ⟨w.heap.size, 0, none⟩ = some (.string nm) ∧ wx.cell? ⟨w.heap.size, 1, none⟩ = some (.int .i64 kp) ∧ wx.cell? ⟨w.heap.size, 2, none⟩ = some (.slice none 0 0)) := fun wx hb =>
      have hh := (hb.block _ (lt_of_heap hblk)).trans hblk
      ⟨(cell_of hh).trans rfl, (cell_of hh).trans rfl, (cell_of hh).trans rfl⟩
    have G5 : Hid (∀ wx, Below w5.heap.size w5 wx → Calls Try.prog 10 #[.string D, .int .i64 s, .agg #[.string nm, .int .i64 kp, .slice none 0 0]] wx fun e w' => e = .returned (.string X) ∧ Below w5.heap.size w5 w') := fun wx hb =>
      (HL3.out wx (hb5.trans (hb.mono hb5.size))).mono fun e w' h => ⟨h.1, hb.trans (h.2.mono hb.size)⟩
    have HB5 := hid hb5
    have g0 := Below.refl w5.heap.size w5
    obtain ⟨k0, k1, k2⟩ := HG5.out _ g0
    have tt : (L.toList == L.toList) = true := by simp
    have tX : (X.toList == X.toList) = true := by simp
    clear HG HFZ HL3 G3 G4 hb1 hb2 hb3 hb4 hb5 hblk e0 e1 e2 f0 f1 f2 fz d0 d1 d2 hcut hch hcutN
    go_region_held3 (fun x => x.cell? ⟨w.heap.size, 0, none⟩ = some (.string nm) ∧ x.cell? ⟨w.heap.size, 1, none⟩ = some (.int .i64 kp) ∧ x.cell? ⟨w.heap.size, 2, none⟩ = some (.slice none 0 0)) ((first | assumption | exact ⟨by assumption, by assumption, by assumption⟩ | go_keep)) ((go_at_call 10; refine (G5.out _ (by first | exact g0 | exact bl_drew g0 (Nat.le_refl _))).mono ?_; rintro e w6 ⟨rfl, hb6⟩; obtain ⟨m0, m1, m2⟩ := HG5.out _ hb6))
    go_wp2_with fail
    go_ret
    exact ⟨rfl, HB5.out.trans (hb6.mono HB5.out.size)⟩
  · obtain ⟨hcut, hch⟩ := HCUT.out
    have hcutN : decide (t < n) = false := by rw [← hcut]; exact decide_eq_decide.2 (by omega)
    have hX := HXX.out
    have hKI : (K : Int) = 2 := by rw [HKK.out]; rfl
    rw [hKI] at G3
    clear HCUT HKK hKI
    go_wp2_with (first | (go_at_call 12; refine (G3.out _ (by first | exact hb2 | exact below_drewN hb2 _)).mono ?_; rintro e w3 ⟨rfl, hb3⟩; obtain ⟨e0, e1, e2⟩ := HG.out _ hb3) | (go_at_call 10; refine (G4.out _ hb3).mono ?_; rintro e w4 ⟨rfl, hb4⟩; obtain ⟨f0, f1, f2⟩ := HG.out _ hb4; have fz := froz_of (i := 2) (HFZ.out _ hb4)))
    have hblk := heap_set (i := 2) (v := .slice none 0 0) (HFZ.out _ hb4)
    have hb5 := bl_set (HB0.out.trans (hb4.mono HB0.out.size)) ⟨w.heap.size, 2, none⟩ (.slice none 0 0) (Nat.le_refl _)
    generalize w4.setCell ⟨w.heap.size, 2, none⟩ (.slice none 0 0) = w5 at *
    have HG5 : Hid (∀ wx, Below w5.heap.size w5 wx → wx.cell? ⟨w.heap.size, 0, none⟩ = some (.string nm) ∧ wx.cell? ⟨w.heap.size, 1, none⟩ = some (.int .i64 kp) ∧ wx.cell? ⟨w.heap.size, 2, none⟩ = some (.slice none 0 0)) := fun wx hb =>
      have hh := (hb.block _ (lt_of_heap hblk)).trans hblk
      ⟨(cell_of hh).trans rfl, (cell_of hh).trans rfl, (cell_of hh).trans rfl⟩
    have G5 : Hid (∀ wx, Below w5.heap.size w5 wx → Calls Try.prog 10 #[.string D, .int .i64 s, .agg #[.string nm, .int .i64 kp, .slice none 0 0]] wx fun e w' => e = .returned (.string X) ∧ Below w5.heap.size w5 w') := fun wx hb =>
      (HL3.out wx (hb5.trans (hb.mono hb5.size))).mono fun e w' h => ⟨h.1, hb.trans (h.2.mono hb.size)⟩
    have HB5 := hid hb5
    have g0 := Below.refl w5.heap.size w5
    obtain ⟨k0, k1, k2⟩ := HG5.out _ g0
    have tt : (L.toList == L.toList) = true := by simp
    have tX : (X.toList == X.toList) = true := by simp
    clear HG HFZ HL3 G3 G4 hb1 hb2 hb3 hb4 hb5 hblk e0 e1 e2 f0 f1 f2 fz d0 d1 d2 hcut hch hcutN
    go_region_held3 (fun x => x.cell? ⟨w.heap.size, 0, none⟩ = some (.string nm) ∧ x.cell? ⟨w.heap.size, 1, none⟩ = some (.int .i64 kp) ∧ x.cell? ⟨w.heap.size, 2, none⟩ = some (.slice none 0 0)) ((first | assumption | exact ⟨by assumption, by assumption, by assumption⟩ | go_keep)) ((go_at_call 10; refine (G5.out _ (by first | exact g0 | exact bl_drew g0 (Nat.le_refl _))).mono ?_; rintro e w6 ⟨rfl, hb6⟩; obtain ⟨m0, m1, m2⟩ := HG5.out _ hb6))
    go_wp2_with fail
    go_ret
    exact ⟨rfl, HB5.out.trans (hb6.mono HB5.out.size)⟩
  · obtain ⟨hcut, hch⟩ := HCUT.out
    have hcutN : decide (t < n) = true := by rw [← hcut]; exact decide_eq_decide.2 (by omega)
    have hX := HXX.out
    have hKI : (K : Int) = 1 := by rw [HKK.out]; rfl
    rw [hKI] at G3
    clear HCUT HKK hKI
    go_wp2_with (first | (go_at_call 12; refine (G3.out _ (by first | exact hb2 | exact below_drewN hb2 _)).mono ?_; rintro e w3 ⟨rfl, hb3⟩; obtain ⟨e0, e1, e2⟩ := HG.out _ hb3) | (go_at_call 10; refine (G4.out _ hb3).mono ?_; rintro e w4 ⟨rfl, hb4⟩; obtain ⟨f0, f1, f2⟩ := HG.out _ hb4; have fz := froz_of (i := 2) (HFZ.out _ hb4)))
    have hblk := heap_set (i := 2) (v := .slice none 0 0) (HFZ.out _ hb4)
    have hb5 := bl_set (HB0.out.trans (hb4.mono HB0.out.size)) ⟨w.heap.size, 2, none⟩ (.slice none 0 0) (Nat.le_refl _)
    generalize w4.setCell ⟨w.heap.size, 2, none⟩ (.slice none 0 0) = w5 at *
    have HG5 : Hid (∀ wx, Below w5.heap.size w5 wx → wx.cell? ⟨w.heap.size, 0, none⟩ = some (.string nm) ∧ wx.cell? ⟨w.heap.size, 1, none⟩ = some (.int .i64 kp) ∧ wx.cell? ⟨w.heap.size, 2, none⟩ = some (.slice none 0 0)) := fun wx hb =>
      have hh := (hb.block _ (lt_of_heap hblk)).trans hblk
      ⟨(cell_of hh).trans rfl, (cell_of hh).trans rfl, (cell_of hh).trans rfl⟩
    have G5 : Hid (∀ wx, Below w5.heap.size w5 wx → Calls Try.prog 10 #[.string D, .int .i64 s, .agg #[.string nm, .int .i64 kp, .slice none 0 0]] wx fun e w' => e = .returned (.string X) ∧ Below w5.heap.size w5 w') := fun wx hb =>
      (HL3.out wx (hb5.trans (hb.mono hb5.size))).mono fun e w' h => ⟨h.1, hb.trans (h.2.mono hb.size)⟩
    have HB5 := hid hb5
    have g0 := Below.refl w5.heap.size w5
    obtain ⟨k0, k1, k2⟩ := HG5.out _ g0
    have tt : (L.toList == L.toList) = true := by simp
    have tX : (X.toList == X.toList) = true := by simp
    clear HG HFZ HL3 G3 G4 hb1 hb2 hb3 hb4 hb5 hblk e0 e1 e2 f0 f1 f2 fz d0 d1 d2 hcut hch hcutN
    go_region_held3 (fun x => x.cell? ⟨w.heap.size, 0, none⟩ = some (.string nm) ∧ x.cell? ⟨w.heap.size, 1, none⟩ = some (.int .i64 kp) ∧ x.cell? ⟨w.heap.size, 2, none⟩ = some (.slice none 0 0)) ((first | assumption | exact ⟨by assumption, by assumption, by assumption⟩ | go_keep)) ((go_at_call 10; refine (G5.out _ (by first | exact g0 | exact bl_drew g0 (Nat.le_refl _))).mono ?_; rintro e w6 ⟨rfl, hb6⟩; obtain ⟨m0, m1, m2⟩ := HG5.out _ hb6))
    go_wp2_with fail
    go_ret
    exact ⟨rfl, HB5.out.trans (hb6.mono HB5.out.size)⟩
  · obtain ⟨hcut, hch⟩ := HCUT.out
    have hcutN : decide (t < n) = true := by rw [← hcut]; exact decide_eq_decide.2 (by omega)
    have hX := HXX.out
    have hKI : (K : Int) = 3 := by rw [HKK.out]; rfl
    rw [hKI] at G3
    clear HCUT HKK hKI
    go_wp2_with (first | (go_at_call 12; refine (G3.out _ (by first | exact hb2 | exact below_drewN hb2 _)).mono ?_; rintro e w3 ⟨rfl, hb3⟩; obtain ⟨e0, e1, e2⟩ := HG.out _ hb3) | (go_at_call 10; refine (G4.out _ hb3).mono ?_; rintro e w4 ⟨rfl, hb4⟩; obtain ⟨f0, f1, f2⟩ := HG.out _ hb4; have fz := froz_of (i := 2) (HFZ.out _ hb4)))
    have hblk := heap_set (i := 2) (v := .slice none 0 0) (HFZ.out _ hb4)
    have hb5 := bl_set (HB0.out.trans (hb4.mono HB0.out.size)) ⟨w.heap.size, 2, none⟩ (.slice none 0 0) (Nat.le_refl _)
    generalize w4.setCell ⟨w.heap.size, 2, none⟩ (.slice none 0 0) = w5 at *
    have HG5 : Hid (∀ wx, Below w5.heap.size w5 wx → wx.cell? ⟨w.heap.size, 0, none⟩ = some (.string nm) ∧ wx.cell? ⟨w.heap.size, 1, none⟩ = some (.int .i64 kp) ∧ wx.cell? ⟨w.heap.size, 2, none⟩ = some (.slice none 0 0)) := fun wx hb =>
      have hh := (hb.block _ (lt_of_heap hblk)).trans hblk
      ⟨(cell_of hh).trans rfl, (cell_of hh).trans rfl, (cell_of hh).trans rfl⟩
    have G5 : Hid (∀ wx, Below w5.heap.size w5 wx → Calls Try.prog 10 #[.string D, .int .i64 s, .agg #[.string nm, .int .i64 kp, .slice none 0 0]] wx fun e w' => e = .returned (.string X) ∧ Below w5.heap.size w5 w') := fun wx hb =>
      (HL3.out wx (hb5.trans (hb.mono hb5.size))).mono fun e w' h => ⟨h.1, hb.trans (h.2.mono hb.size)⟩
    have HB5 := hid hb5
    have g0 := Below.refl w5.heap.size w5
    obtain ⟨k0, k1, k2⟩ := HG5.out _ g0
    have tt : (L.toList == L.toList) = true := by simp
    have tX : (X.toList == X.toList) = true := by simp
    clear HG HFZ HL3 G3 G4 hb1 hb2 hb3 hb4 hb5 hblk e0 e1 e2 f0 f1 f2 fz d0 d1 d2 hcut hch hcutN
    go_region_held3 (fun x => x.cell? ⟨w.heap.size, 0, none⟩ = some (.string nm) ∧ x.cell? ⟨w.heap.size, 1, none⟩ = some (.int .i64 kp) ∧ x.cell? ⟨w.heap.size, 2, none⟩ = some (.slice none 0 0)) ((first | assumption | exact ⟨by assumption, by assumption, by assumption⟩ | go_keep)) ((go_at_call 10; refine (G5.out _ (by first | exact g0 | exact bl_drew g0 (Nat.le_refl _))).mono ?_; rintro e w6 ⟨rfl, hb6⟩; obtain ⟨m0, m1, m2⟩ := HG5.out _ hb6))
    go_wp2_with fail
    go_ret
    exact ⟨rfl, HB5.out.trans (hb6.mono HB5.out.size)⟩
end Go.Proofs.Ythjbhfhdepepmaa
