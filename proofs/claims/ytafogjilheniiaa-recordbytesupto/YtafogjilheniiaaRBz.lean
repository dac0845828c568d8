/- The document's form of a record that may have one. -/
import Derived.Test.YtafogjilheniiaaRBy
namespace Go.Proofs.Ytafogjilheniiaa
open Go.RowKit
theorem hz0 : (⟨#[]⟩ : ByteArray).size = 0 := rfl
theorem nil_app (s : ByteArray) : (⟨#[]⟩ : ByteArray) ++ s = s := by
  apply ByteArray.ext
  rw [ByteArray.data_append]
  simp
set_option maxHeartbeats 2000000 in
set_option maxRecDepth 20000 in
theorem rbytes_yes (r : Rec) (a : Option Addr) (cap : Nat) (first : Int) (N : Nat) (w : World) (V : Hds w a r.hs) (hN : N < 65536) (hi : I64 (r.t - first)) (hh : r.hs.length ≤ 1024) (hm : Mod r) (E : Int) (R : ByteArray) (hE1 : 16777216 < (fm (r.t - first) N r).length → E = 66 ∧ R = ⟨#[]⟩) (hE2 : ¬ 16777216 < (fm (r.t - first) N r).length → E = 0 ∧ R = bs (fm (r.t - first) N r)) :
    Calls Try.prog 9 #[recV r a cap, .int .i64 first, .int .i64 N] w fun e w' => e = .returned (.tuple #[.string R, .int .i64 E]) ∧ Below w.heap.size w w' := by
  have ho : (own (r.t - first) N r).length ≤ 100000000000000000 := own_le _ _ _ hm
  have hby : ∀ b ∈ own (r.t - first) N r, b < 256 := own_byte _ _ _ hi (by omega) (by omega) hm
  have HF : Hid (bs (fm (r.t - first) N r) = ⟨#[]⟩ ++ bs (tx (bs (own (r.t - first) N r)))) := by
    unfold Hid tx fm
    rw [bs_size, bl_bs _ hby, nil_app]
  have hfs : (fm (r.t - first) N r).length = (⟨#[]⟩ ++ bs (tx (bs (own (r.t - first) N r)))).size := by rw [← HF.out, bs_size]
  have HOW : Hid (bs (own (r.t - first) N r) = ⟨#[]⟩ ++ bs [0] ++ bs (M.form (M.zz (r.t - first)).toNat) ++ bs (M.form N) ++ bs (ol r.kh r.kd) ++ bs (ol r.vh r.vd) ++ bs (M.form r.hs.length) ++ bs (hl r.hs)) := by
    unfold Hid own
    simp only [bs_app, ByteArray.append_assoc, nil_app]
  have hlen : 1 + (M.form (M.zz (r.t - first)).toNat).length + (M.form N).length + (ol r.kh r.kd).length + (ol r.vh r.vd).length + (M.form r.hs.length).length + (hl r.hs).length ≤ 100000000000000000 := by
    simp only [own, List.length_append, List.length_cons, List.length_nil] at ho
    omega
  have hows : (bs (own (r.t - first) N r)).size ≤ 100000000000000000 := by rw [bs_size]; exact ho
  have hk1 := hm.k
  have hv1 := hm.v
  have HHm := hid hm.h
  rw [hfs] at hE1 hE2
  rw [HF.out] at hE2
  have HE1 := hid hE1
  have HE2 := hid hE2
  clear hE1 hE2
  generalize bs (own (r.t - first) N r) = O at *
  have CL := hid (fun x => less_ok r.t first x hi)
  have HVV := hid V
  have HHS := hid hows
  have hi' := hid hi
  obtain ⟨t, kh, kd, vh, vd, hs⟩ := r
  simp only [recV] at *
  have HL := hid hlen
  have HKV := hid (And.intro hk1 hv1)
  have h0 : decide ((N : Int) < 0) = false := decide_eq_false (by omega)
  have h1 : decide ((65536 : Int) ≤ (N : Int)) = false := decide_eq_false (by omega)
  have h2 : decide ((1024 : Int) < (hs.length : Int)) = false := decide_eq_false (by omega)
  have hw1 : IntKind.u64.wrap (N : Int) = N := by rw [IntKind.wrap_u64]; omega
  have hw2 : IntKind.u64.wrap (hs.length : Int) = hs.length := by rw [IntKind.wrap_u64]; omega
  clear V hm ho hby hfs HF hows hi hlen hk1 hv1
  go_enter Try.func9, Try.ntmps9
  go_wp2_with (go_at_call 20; refine (CL.out _).mono ?_; rintro e w' ⟨rfl, rfl⟩)
  have hb0 : Below w.heap.size w (w.alloc (.cells #[.int .i64 t, .bool kh, .string kd, .bool vh, .string vd, .slice a hs.length cap] 26)) := (Below.refl _ w).alloc (Nat.le_refl _) _
  have g0 : (w.alloc (.cells #[.int .i64 t, .bool kh, .string kd, .bool vh, .string vd, .slice a hs.length cap] 26)).heap[w.heap.size]? = some (.cells #[.int .i64 t, .bool kh, .string kd, .bool vh, .string vd, .slice a hs.length cap] 26 (0, 0)) := heap_new _ _
  generalize w.alloc (.cells #[.int .i64 t, .bool kh, .string kd, .bool vh, .string vd, .slice a hs.length cap] 26) = w2 at *
  refine (xnewwriter_any w2).mono ?_
  rintro e w3 ⟨rfl, rfl⟩
  have k0 : XK w2.heap.size w.heap.size #[.int .i64 t, .bool kh, .string kd, .bool vh, .string vd, .slice a hs.length cap] 26 (w2.alloc (.cells #[.string ⟨#[]⟩] 85)) (w2.alloc (.cells #[.string ⟨#[]⟩] 85)) ⟨#[]⟩ := ⟨heap_new _ _, Ch.refl _ _, heap_alloc_at g0⟩
  have HB3 : Hid (Below w.heap.size w (w2.alloc (.cells #[.string ⟨#[]⟩] 85))) := hb0.alloc hb0.size _
  have hQl := lt_of_heap g0
  have hQ : w.heap.size ≠ w2.heap.size := by omega
  have hle : w.heap.size ≤ w2.heap.size := by omega
  generalize w2.alloc (.cells #[.string ⟨#[]⟩] 85) = W at *
  generalize hp : w2.heap.size = p at *
  clear g0 hb0
  obtain ⟨c0, c1, c2, c3, c4, c5⟩ := cells6 k0.q
  have K0 := hid k0
  clear k0
  go_wp2_with fail
  refine (xwu8_any p _ 0 _ K0.out.wr (by omega) (by simp only [hz0]; omega)).mono ?_
  rintro e x1 he
  have k1 := K0.out.next hQ he
  obtain ⟨rfl, _, _⟩ := he
  clear c0 c1 c2 c3 c4 c5 K0
  obtain ⟨c0, c1, c2, c3, c4, c5⟩ := cells6 k1.q
  have K1 := hid k1
  clear k1
  go_wp2_with fail
  refine (xwvarint_any p _ (t - first) _ K1.out.wr hi'.out (by have := HL.out; simp only [ByteArray.size_append, bs_size, hz0, List.length_cons, List.length_nil]; omega)).mono ?_
  rintro e x2 he
  have k2 := K1.out.next hQ he
  obtain ⟨rfl, _, _⟩ := he
  clear c0 c1 c2 c3 c4 c5 K1
  obtain ⟨c0, c1, c2, c3, c4, c5⟩ := cells6 k2.q
  have K2 := hid k2
  clear k2
  go_wp2_with fail
  refine (xwuvarint_any p _ N _ K2.out.wr (by omega) (by have := HL.out; simp only [ByteArray.size_append, bs_size, hz0, List.length_cons, List.length_nil]; omega)).mono ?_
  rintro e x3 he
  have k3 := K2.out.next hQ he
  obtain ⟨rfl, _, _⟩ := he
  clear c0 c1 c2 c3 c4 c5 K2
  obtain ⟨c0, c1, c2, c3, c4, c5⟩ := cells6 k3.q
  have K3 := hid k3
  clear k3
  go_wp2_with fail
  refine (xwol_any p _ kh kd _ K3.out.wr (by have := HL.out; have := HKV.out; simp only [ByteArray.size_append, bs_size, hz0, List.length_cons, List.length_nil]; omega) HKV.out.1).mono ?_
  rintro e x4 he
  have k4 := K3.out.next hQ he
  obtain ⟨rfl, _, _⟩ := he
  clear c0 c1 c2 c3 c4 c5 K3
  obtain ⟨c0, c1, c2, c3, c4, c5⟩ := cells6 k4.q
  have K4 := hid k4
  clear k4
  go_wp2_with fail
  refine (xwol_any p _ vh vd _ K4.out.wr (by have := HL.out; have := HKV.out; simp only [ByteArray.size_append, bs_size, hz0, List.length_cons, List.length_nil]; omega) HKV.out.2).mono ?_
  rintro e x5 he
  have k5 := K4.out.next hQ he
  obtain ⟨rfl, _, _⟩ := he
  clear c0 c1 c2 c3 c4 c5 K4
  obtain ⟨c0, c1, c2, c3, c4, c5⟩ := cells6 k5.q
  have K5 := hid k5
  clear k5
  go_wp2_with fail
  refine (xwuvarint_any p _ hs.length _ K5.out.wr (by omega) (by have := HL.out; simp only [ByteArray.size_append, bs_size, hz0, List.length_cons, List.length_nil]; omega)).mono ?_
  rintro e x6 he
  have k6 := K5.out.next hQ he
  obtain ⟨rfl, _, _⟩ := he
  clear c0 c1 c2 c3 c4 c5 K5
  obtain ⟨c0, c1, c2, c3, c4, c5⟩ := cells6 k6.q
  have K6 := hid k6
  clear k6
  obtain ⟨S7, e7⟩ : ∃ S7, S7 = ⟨#[]⟩ ++ bs [0] ++ bs (M.form (M.zz (t - first)).toNat) ++ bs (M.form N) ++ bs (ol kh kd) ++ bs (ol vh vd) ++ bs (M.form hs.length) := ⟨_, rfl⟩
  rw [← e7] at K6
  have hS7 : S7.size + (hl hs).length ≤ 100000000000000000 := by have := HL.out; rw [e7]; simp only [ByteArray.size_append, bs_size, hz0, List.length_cons, List.length_nil]; omega
  have E7 : Hid (O = S7 ++ bs (hl hs)) := by show O = _; rw [e7]; exact HOW.out
  clear e7 HOW HL
  go_wp2_with fail
  clear c0 c1 c2 c3 c4 c5
  go_loopg [11] hs.length (fun k i wr => ∃ j : Nat, j + k = hs.length ∧ i = .int .i64 j ∧ XK p w.heap.size #[.int .i64 t, .bool kh, .string kd, .bool vh, .string vd, .slice a hs.length cap] 26 W wr (S7 ++ bs (hl (hs.take j))))
  case atStart => exact ⟨0, by omega, rfl, by simp only [List.take_zero]; have e : S7 ++ bs (hl []) = S7 := by { show S7 ++ (⟨#[]⟩ : ByteArray) = S7; apply ByteArray.ext; rw [ByteArray.data_append]; simp }; rw [e]; exact K6.out⟩
  case round =>
    obtain ⟨j, hk, rfl, hxk⟩ := hrel
    have HXK := hid hxk
    obtain ⟨c0, c1, c2, c3, c4, c5⟩ := cells6 hxk.q
    have HBW := hid (HB3.out.trans (hxk.ch.below HB3.out.size (fun i hi h => by omega)))
    clear hxk
    by_cases hlt : j < hs.length
    · obtain ⟨k, rfl⟩ : ∃ k, gk = k + 1 := ⟨gk - 1, by omega⟩
      have HTK := hid (hl_take hs j hlt)
      have htl2 := hl_take_le hs (j + 1)
      rcases HVV.out with h | ⟨b, off, rfl, hbl, hc⟩
      · rw [h] at hlt; simp at hlt
      have hmem : hs.getD j df ∈ hs := by rw [List.getD_eq_getElem?_getD, List.getElem?_eq_getElem hlt, Option.getD_some]; exact List.getElem_mem hlt
      have hxz := HHm.out _ hmem
      obtain ⟨o0, o1, o2⟩ := hc j hlt
      rw [HTK.out, List.length_append, hl1, List.length_append] at htl2
      generalize hs.getD j df = x at *
      obtain ⟨xk, xh, xd⟩ := x
      simp only at o0 o1 o2 htl2 hxz
      have q0 := (HBW.out.cell (p := ⟨b, off + j * 3, none⟩) hbl).trans o0
      have q1 := (HBW.out.cell (p := ⟨b, off + j * 3 + 1, none⟩) hbl).trans o1
      have q2 := (HBW.out.cell (p := ⟨b, off + j * 3 + 2, none⟩) hbl).trans o2
      have HO := hid (And.intro o0 (And.intro o1 o2))
      clear o0 o1 o2
      have htx := (tx_ge xk).2
      have b1 : (0 : Int) ≤ (j : Int) := by omega
      have b2 : (j : Int) < hs.length := by omega
      have HXZ := hid (And.intro hxz htx)
      have HTL := hid htl2
      clear hc hmem hxz htl2 htx
      go_wp2_with fail
      refine (xwtx_any p _ xk _ HXK.out.wr (by have := HTL.out; have := HXZ.out; rw [ByteArray.size_append, bs_size]; omega)).mono ?_
      rintro e y1 he
      have kk2 := HXK.out.next hQ he
      have hb2 := HB3.out.trans (kk2.ch.below HB3.out.size (fun i hi h => by omega))
      obtain ⟨rfl, _, _⟩ := he
      have d0 := (hb2.cell (p := ⟨b, off + j * 3, none⟩) hbl).trans HO.out.1
      have d1 := (hb2.cell (p := ⟨b, off + j * 3 + 1, none⟩) hbl).trans HO.out.2.1
      have d2 := (hb2.cell (p := ⟨b, off + j * 3 + 2, none⟩) hbl).trans HO.out.2.2
      clear c0 c1 c2 c3 c4 c5 q0 q1 q2
      obtain ⟨c0, c1, c2, c3, c4, c5⟩ := cells6 kk2.q
      have KK2 := hid kk2
      clear kk2 HXK hb2
      go_wp2_with fail
      refine (xwol_any p _ xh xd _ KK2.out.wr (by have := HTL.out; have := HXZ.out; rw [ByteArray.size_append, ByteArray.size_append, bs_size, bs_size]; omega) HXZ.out.1).mono ?_
      rintro e y2 he
      have kk3 := KK2.out.next hQ he
      obtain ⟨rfl, _, _⟩ := he
      have K3 := hid kk3
      clear kk3 KK2 d0 d1 d2 c0 c1 c2 c3 c4 c5
      go_wp2_with fail
      go_roundg k
      case measure => omega
      case rel =>
        refine ⟨j + 1, by omega, by go_num, ?_⟩
        rw [HTK.out, hl1, bs_app, bs_app, ← ByteArray.append_assoc, ← ByteArray.append_assoc]
        exact K3.out
    · have hj : j = hs.length := by omega
      subst hj
      rw [List.take_length, ← E7.out] at HXK
      go_wp2_with fail
      refine (xnewwriter_any wr).mono ?_
      rintro e y3 ⟨rfl, rfl⟩
      have hw3 : WX (wr.alloc (.cells #[.string ⟨#[]⟩] 85)) p O := heap_alloc_at HXK.out.wr
      have hv3 : WX (wr.alloc (.cells #[.string ⟨#[]⟩] 85)) wr.heap.size ⟨#[]⟩ := heap_new _ _
      have HB5 := hid (HBW.out.alloc HBW.out.size (.cells #[.string ⟨#[]⟩] 85))
      have hsz := HBW.out.size
      go_wp2_with fail
      generalize wr.alloc (.cells #[.string ⟨#[]⟩] 85) = y4 at *
      refine (xwbytes_any p O y4 hw3).mono ?_
      rintro e y4 ⟨rfl, rfl⟩
      have HT := hid (xwtx_any wr.heap.size ⟨#[]⟩ O y4 hv3 (by have := HHS.out; simp only [hz0]; omega))
      clear hw3 hv3
      go_wp2_with fail
      refine HT.out.mono ?_
      rintro e y5 ⟨rfl, hv5, hc5⟩
      have HB6 := hid (HB5.out.trans (hc5.below HB5.out.size (fun i hi hs => by omega)))
      have CY := hid (xwbytes_any _ _ _ hv5)
      have CA := hid (xwat_any _ _ _ hv5)
      clear hv5 hc5 HT
      obtain ⟨T, hT⟩ : ∃ T, T = (⟨#[]⟩ : ByteArray) ++ bs (tx O) := ⟨_, rfl⟩
      rw [← hT] at CY CA HE1 HE2
      clear hT
      by_cases hbig : 16777216 < T.size
      · have hbig' : decide ((16777216 : Int) < (T.size : Int)) = true := decide_eq_true (by omega)
        obtain ⟨rfl, rfl⟩ := HE1.out hbig
        clear hbig
        go_wp2_with (go_at_call 28; refine CA.out.mono ?_; rintro e y6 ⟨rfl, rfl⟩)
        go_ret2
        exact ⟨rfl, HB6.out⟩
      · have hbig' : decide ((16777216 : Int) < (T.size : Int)) = false := decide_eq_false (by omega)
        obtain ⟨rfl, rfl⟩ := HE2.out hbig
        clear hbig
        go_wp2_with (first | (go_at_call 28; refine CA.out.mono ?_; rintro e y6 ⟨rfl, rfl⟩) | (go_at_call 27; refine CY.out.mono ?_; rintro e y6 ⟨rfl, rfl⟩))
        go_ret2
        exact ⟨rfl, HB6.out⟩
theorem rbytes_any (r : Rec) (a : Option Addr) (cap : Nat) (first n : Int) (w : World) (V : Hds w a r.hs) (ht : I64 r.t) (hf : I64 first) (hm : Mod r) :
    Calls Try.prog 9 #[recV r a cap, .int .i64 first, .int .i64 n] w fun e w' => e = .returned (.tuple #[.string (bym r first n), .int .i64 (sze r first n)]) ∧ Below w.heap.size w w' := by
  unfold bym
  by_cases h1 : 0 ≤ n ∧ n < 65536
  · obtain ⟨N, rfl⟩ : ∃ N : Nat, n = (N : Int) := ⟨n.toNat, by omega⟩
    by_cases h2 : I64 (r.t - first)
    · by_cases h3 : 1024 < r.hs.length
      · have e : sze r first N = 5 := by unfold sze; rw [if_neg (by omega), if_neg (by simpa using h2), if_pos h3]
        rw [e, if_neg (by decide)]
        exact rbytes_most r a cap first N w (by omega) h2 h3
      · have e : sze r first N = if 16777216 < (fm (r.t - first) N r).length then 66 else 0 := by unfold sze; rw [if_neg (by omega), if_neg (by simpa using h2), if_neg h3, Int.toNat_natCast]
        have C := rbytes_yes r a cap first N w V (by omega) h2 (by omega) hm
        rw [e, Int.toNat_natCast]
        by_cases h4 : 16777216 < (fm (r.t - first) N r).length
        · rw [if_pos h4, if_neg (by decide)]
          exact C 66 ⟨#[]⟩ (fun _ => ⟨rfl, rfl⟩) (fun h => absurd h4 h)
        · rw [if_neg h4, if_pos rfl]
          exact C 0 _ (fun h => absurd h h4) (fun _ => ⟨rfl, rfl⟩)
    · have e : sze r first N = 27 := by unfold sze; rw [if_neg (by omega), if_pos h2]
      rw [e, if_neg (by decide)]
      exact rbytes_far r a cap first N w ht hf (by omega) h2
  · have e : sze r first n = 1 := by unfold sze; rw [if_pos h1]
    rw [e, if_neg (by decide)]
    exact rbytes_range r a cap first n w h1
end Go.Proofs.Ytafogjilheniiaa
