/- RecordSpells' walk: a record's form, spelled by the writer step by step. -/
import Derived.Test.YtafogjilheniiabRecOpen
namespace Go.Proofs.Ytafogjilheniiab
open Go.RowKit
theorem sze_in {r : Rec} {first : Int} {N : Nat} (hN : N < 65536) (h : sze r first N ≠ 0) : sze r first N = 27 ∨ sze r first N = 5 ∨ sze r first N = 66 := by
  unfold sze at *
  rw [if_neg (by omega)] at *
  split
  · exact Or.inl rfl
  · split
    · exact Or.inr (Or.inl rfl)
    · split
      · exact Or.inr (Or.inr rfl)
      · rename_i h1 h2 h3; rw [if_neg h1, if_neg h2, if_neg h3] at h; exact absurd rfl h
theorem ol_byte (h : Bool) (d : ByteArray) (hd : d.size ≤ 1000000000000000000) : ∀ b ∈ ol h d, b < 256 := by
  intro b hb
  unfold ol at hb
  split at hb
  · rcases List.mem_append.1 hb with hb | hb
    · exact M.form_byte (by omega) b hb
    · exact bl_byte d b hb
  · simp at hb; omega
theorem hl_byte (hs : List Hdr) (h : ∀ x ∈ hs, x.1.size ≤ 1000000000000000000 ∧ x.2.2.size ≤ 1000000000000000000) : ∀ b ∈ hl hs, b < 256 := by
  intro b hb
  simp only [hl, List.mem_flatMap] at hb
  obtain ⟨x, hx, hb⟩ := hb
  unfold hl1 tx at hb
  rcases List.mem_append.1 hb with hb | hb
  · rcases List.mem_append.1 hb with hb | hb
    · exact M.form_byte (by have := (h x hx).1; omega) b hb
    · exact bl_byte _ b hb
  · exact ol_byte _ _ (h x hx).2 b hb
theorem own_byte (d : Int) (n : Nat) (r : Rec) (hd : I64 d) (hn : n < 18446744073709551616) (hh : r.hs.length < 18446744073709551616) (hm : Mod r) : ∀ b ∈ own d n r, b < 256 := by
  have hzb := M.zz_bd hd.1 hd.2
  intro b hb
  unfold own at hb
  simp only [List.mem_append] at hb
  rcases hb with hb | hb | hb | hb | hb | hb | hb
  · simp at hb; omega
  · exact M.form_byte (by omega) b hb
  · exact M.form_byte hn b hb
  · exact ol_byte _ _ hm.k b hb
  · exact ol_byte _ _ hm.v b hb
  · exact M.form_byte hh b hb
  · refine hl_byte _ (fun x hx => ⟨?_, hm.h x hx⟩) b hb
    have h1 := hl_mem hx
    have h2 := hm.all
    have h3 := (tx_ge x.1).2
    unfold hl1 at h1
    rw [List.length_append] at h1
    omega
set_option maxHeartbeats 1000000 in
set_option maxRecDepth 20000 in
theorem spells_no (r : Rec) (a : Option Addr) (cap : Nat) (first : Int) (N : Nat) (w : World) (V : Hds w a r.hs) (ht : I64 r.t) (hf : I64 first) (hN : N < 65536) (hm : Mod r) (hz : sze r first N ≠ 0) :
    Calls Try.prog 4 #[recV r a cap, .int .i64 first, .int .u16 N] w fun e w' => e = .returned (.bool true) ∧ Below w.heap.size w w' := by
  have cb := fun x V => bytes_no r a cap first N x V ht hf hm hz
  have CFm := hid (fun x => forms_any x)
  have HVV := hid V
  obtain ⟨t, kh, kd, vh, vd, hs⟩ := r
  simp only [recV] at *
  clear V hm
  have hin := sze_in hN hz
  rcases hin with hin | hin | hin
  all_goals
    rw [hin] at cb
    have CB := hid cb
    clear cb hin hz
    go_enter Try.func4, Try.ntmps4
    go_wp2_with fail
    have hb0 : Below w.heap.size w (w.alloc (.cells #[.int .i64 t, .bool kh, .string kd, .bool vh, .string vd, .slice a hs.length cap] 33)) := (Below.refl _ w).alloc (Nat.le_refl _) _
    have g0 : (w.alloc (.cells #[.int .i64 t, .bool kh, .string kd, .bool vh, .string vd, .slice a hs.length cap] 33)).heap[w.heap.size]? = some (.cells #[.int .i64 t, .bool kh, .string kd, .bool vh, .string vd, .slice a hs.length cap] 33 (0, 0)) := heap_new _ _
    generalize w.alloc (.cells #[.int .i64 t, .bool kh, .string kd, .bool vh, .string vd, .slice a hs.length cap] 33) = w0 at *
    refine (CFm.out _).mono ?_
    rintro e w1 ⟨rfl, hb1⟩
    have g1 := (hb1.block _ (lt_of_heap g0)).trans g0
    obtain ⟨c0, c1, c2, c3, c4, c5⟩ := cells6 g1
    have V1 := hid ((HVV.out.below hb0).below hb1)
    have HB1 := hid (bel_next hb0 (Nat.le_refl _) hb1)
    clear g0 g1 hb1 hb0
    go_wp2_with fail
    refine (CB.out _ V1.out).mono ?_
    rintro e w2 ⟨rfl, hb2⟩
    have HB2 := hid (bel_next HB1.out (Nat.le_refl _) hb2)
    clear hb2
    go_wp2_with fail
    go_ret
    exact ⟨rfl, HB2.out⟩
set_option maxHeartbeats 2000000 in
set_option maxRecDepth 20000 in
theorem spells_yes (r : Rec) (a : Option Addr) (cap : Nat) (first : Int) (N : Nat) (w : World) (V : Hds w a r.hs) (ht : I64 r.t) (hf : I64 first) (hN : N < 65536) (hm : Mod r) (hz : sze r first N = 0) :
    Calls Try.prog 4 #[recV r a cap, .int .i64 first, .int .u16 N] w fun e w' => e = .returned (.bool true) ∧ Below w.heap.size w w' := by
  have cb := fun x V => bytes_ok r a cap first N x V ht hf hm hz
  obtain ⟨_, hi, hh, hfl⟩ := sze_ok hz
  rw [Int.toNat_natCast] at cb hfl
  have ho : (own (r.t - first) N r).length ≤ 16777216 := by unfold fm at hfl; rw [List.length_append] at hfl; omega
  have hby : ∀ b ∈ own (r.t - first) N r, b < 256 := own_byte _ _ _ hi (by omega) (by omega) hm
  have HF : Hid (bs (fm (r.t - first) N r) = bs (tx (bs (own (r.t - first) N r)))) := by
    unfold Hid tx fm
    rw [bs_size, bl_bs _ hby]
  have HOW : Hid (own (r.t - first) N r = [] ++ nb 1 0 ++ M.form (M.zz (r.t - first)).toNat ++ M.form N ++ ol r.kh r.kd ++ ol r.vh r.vd ++ M.form r.hs.length ++ hl r.hs) := by
    unfold Hid own
    simp only [List.append_assoc, List.nil_append]
    rfl
  have hlen : 1 + (M.form (M.zz (r.t - first)).toNat).length + (M.form N).length + (ol r.kh r.kd).length + (ol r.vh r.vd).length + (M.form r.hs.length).length + (hl r.hs).length ≤ 16777216 := by
    simp only [own, List.length_append, List.length_cons, List.length_nil] at ho
    omega
  have hows : (bs (own (r.t - first) N r)).size ≤ 16777216 := by rw [bs_size]; exact ho
  rw [HF.out] at cb
  generalize hO : own (r.t - first) N r = O at *
  have CFm := hid (fun x => forms_any x)
  have HVV := hid V
  have CB := hid cb
  have HHS := hid hows
  obtain ⟨t, kh, kd, vh, vd, hs⟩ := r
  simp only [recV] at *
  have hx : IntKind.i64.wrap (t - first) = t - first := wrap_in hi.1 hi.2
  have hi1 := hi.1
  have hi2 := hi.2
  have hfo := M.form_le (bs O).size
  clear V hm hz cb ho hby hfl hO HF hows hi
  go_enter Try.func4, Try.ntmps4
  go_wp2_with fail
  have hb0 : Below w.heap.size w (w.alloc (.cells #[.int .i64 t, .bool kh, .string kd, .bool vh, .string vd, .slice a hs.length cap] 33)) := (Below.refl _ w).alloc (Nat.le_refl _) _
  have g0 : (w.alloc (.cells #[.int .i64 t, .bool kh, .string kd, .bool vh, .string vd, .slice a hs.length cap] 33)).heap[w.heap.size]? = some (.cells #[.int .i64 t, .bool kh, .string kd, .bool vh, .string vd, .slice a hs.length cap] 33 (0, 0)) := heap_new _ _
  generalize w.alloc (.cells #[.int .i64 t, .bool kh, .string kd, .bool vh, .string vd, .slice a hs.length cap] 33) = w0 at *
  refine (CFm.out _).mono ?_
  rintro e w1 ⟨rfl, hb1⟩
  have g1 := (hb1.block _ (lt_of_heap g0)).trans g0
  obtain ⟨c0, c1, c2, c3, c4, c5⟩ := cells6 g1
  have V1 := hid ((HVV.out.below hb0).below hb1)
  have HB1 := hid (bel_next hb0 (Nat.le_refl _) hb1)
  have G1 := hid g1
  clear g0 g1 hb1 hb0
  go_wp2_with fail
  refine (CB.out _ V1.out).mono ?_
  rintro e w2 ⟨rfl, hb2⟩
  have g2 := (hb2.block _ (lt_of_heap G1.out)).trans G1.out
  have V2 := hid (V1.out.below hb2)
  have HB2 := hid (bel_next HB1.out (Nat.le_refl _) hb2)
  have HQ2 := hid (lt_of_heap g2)
  clear hb2 c0 c1 c2 c3 c4 c5
  go_wp2_with fail
  refine (newwriter_any w2).mono ?_
  rintro e w3 ⟨rfl, rfl⟩
  have k0 : WK w2.heap.size (w2.heap.size + 1) w.heap.size #[.int .i64 t, .bool kh, .string kd, .bool vh, .string vd, .slice a hs.length cap] 33 (w2.alloc (.cells #[.int .i64 0, .slice none 0 0] 62)) (w2.alloc (.cells #[.int .i64 0, .slice none 0 0] 62)) [] := ⟨wr_new (heap_new _ _) (Nat.lt_succ_self _) (by simp), Ch.refl _ _, heap_alloc_at g2⟩
  have HB3 : Hid (Below w.heap.size w (w2.alloc (.cells #[.int .i64 0, .slice none 0 0] 62))) := HB2.out.alloc HB2.out.size _
  have V3 : Hid (Hds w2 a hs ∧ Below w2.heap.size w2 (w2.alloc (.cells #[.int .i64 0, .slice none 0 0] 62))) := ⟨V2.out, (Below.refl _ _).alloc (Nat.le_refl _) _⟩
  have hQ : w.heap.size ≠ w2.heap.size := by have := HQ2.out; omega
  have hle : w.heap.size ≤ w2.heap.size := HB2.out.size
  generalize w2.alloc (.cells #[.int .i64 0, .slice none 0 0] 62) = W at *
  have HP0 : Hid (w2.heap.size ≤ w2.heap.size) := Nat.le_refl _
  generalize hp : w2.heap.size = p at *
  clear g2
  have cc0 := cells6 k0.q
  obtain ⟨c0, c1, c2, c3, c4, c5⟩ := cc0
  have K0 := hid k0
  clear k0
  go_wp2_with fail
  refine (wu8_any p (p + 1) _ 0 _ K0.out.wr (by omega) (by simp)).mono ?_
  rintro e x1 he
  have k1 := K0.out.next hQ (by decide) he
  obtain ⟨rfl, _, _⟩ := he
  clear c0 c1 c2 c3 c4 c5 K0
  have cc1 := cells6 k1.q
  obtain ⟨c0, c1, c2, c3, c4, c5⟩ := cc1
  have K1 := hid k1
  clear k1
  go_wp2_with fail
  refine (wvarint_any p (p + 1) _ (t - first) _ K1.out.wr hi1 hi2 (by simp only [List.length_append, nb_len, List.length_nil]; omega)).mono ?_
  rintro e x2 he
  have k2 := K1.out.next hQ (by decide) he
  obtain ⟨rfl, _, _⟩ := he
  clear c0 c1 c2 c3 c4 c5 K1
  have cc2 := cells6 k2.q
  obtain ⟨c0, c1, c2, c3, c4, c5⟩ := cc2
  have K2 := hid k2
  clear k2
  go_wp2_with fail
  refine (wuvarint_any p (p + 1) _ N _ K2.out.wr (by omega) (by simp only [List.length_append, nb_len, List.length_nil]; omega)).mono ?_
  rintro e x3 he
  have k3 := K2.out.next hQ (by decide) he
  obtain ⟨rfl, _, _⟩ := he
  clear c0 c1 c2 c3 c4 c5 K2
  have cc3 := cells6 k3.q
  obtain ⟨c0, c1, c2, c3, c4, c5⟩ := cc3
  have K3 := hid k3
  clear k3
  go_wp2_with fail
  refine (wol_any p (p + 1) _ kh kd _ K3.out.wr (by simp only [List.length_append, nb_len, List.length_nil]; omega)).mono ?_
  rintro e x4 he
  have k4 := K3.out.next hQ (by decide) he
  obtain ⟨rfl, _, _⟩ := he
  clear c0 c1 c2 c3 c4 c5 K3
  have cc4 := cells6 k4.q
  obtain ⟨c0, c1, c2, c3, c4, c5⟩ := cc4
  have K4 := hid k4
  clear k4
  go_wp2_with fail
  refine (wol_any p (p + 1) _ vh vd _ K4.out.wr (by simp only [List.length_append, nb_len, List.length_nil]; omega)).mono ?_
  rintro e x5 he
  have k5 := K4.out.next hQ (by decide) he
  obtain ⟨rfl, _, _⟩ := he
  clear c0 c1 c2 c3 c4 c5 K4
  have cc5 := cells6 k5.q
  obtain ⟨c0, c1, c2, c3, c4, c5⟩ := cc5
  have K5 := hid k5
  clear k5
  go_wp2_with fail
  refine (wuvarint_any p (p + 1) _ hs.length _ K5.out.wr (by omega) (by simp only [List.length_append, nb_len, List.length_nil]; omega)).mono ?_
  rintro e x6 he
  have k6 := K5.out.next hQ (by decide) he
  obtain ⟨rfl, _, _⟩ := he
  clear c0 c1 c2 c3 c4 c5 K5
  obtain ⟨c0, c1, c2, c3, c4, c5⟩ := cells6 k6.q
  have K7 := hid k6
  obtain ⟨l7, e7⟩ : ∃ l7, l7 = [] ++ nb 1 0 ++ M.form (M.zz (t - first)).toNat ++ M.form N ++ ol kh kd ++ ol vh vd ++ M.form hs.length := ⟨_, rfl⟩
  rw [← e7] at K7
  have hl7 : l7.length + (hl hs).length ≤ 16777216 := by rw [e7]; simp only [List.length_append, nb_len, List.length_nil]; omega
  have E7 : Hid (O = l7 ++ hl hs) := by show O = _; rw [e7]; exact HOW.out
  clear k6 e7
  go_wp2_with fail
  clear c0 c1 c2 c3 c4 c5
  go_loopg [65] hs.length (fun k i wr => ∃ j : Nat, j + k = hs.length ∧ i = .int .i64 j ∧ Wr wr p (p + 1) (l7 ++ hl (hs.take j)) ∧ Ch (WU p (p + 1) W) W wr)
  case atStart => exact ⟨0, by omega, rfl, by simp only [List.take_zero]; simpa [hl] using K7.out.wr, K7.out.ch⟩
  case round =>
    obtain ⟨j, hk, rfl, hwr, hch⟩ := hrel
    by_cases hlt : j < hs.length
    · obtain ⟨k, rfl⟩ : ∃ k, gk = k + 1 := ⟨gk - 1, by omega⟩
      have HTK := hid (hl_take hs j hlt)
      have htl2 := hl_take_le hs (j + 1)
      have HV2 := hid (hds_ch V3.out.1 (hp ▸ V3.out.2) (hp ▸ Nat.le_refl _) (Nat.lt_succ_self _) hch)
      rcases HV2.out with h | ⟨b, off, rfl, hbl, hc⟩
      · rw [h] at hlt; simp at hlt
      obtain ⟨q0, q1, q2⟩ := hc j hlt
      rw [HTK.out, List.length_append, hl1, List.length_append] at htl2
      generalize hs.getD j df = x at *
      obtain ⟨xk, xh, xd⟩ := x
      simp only at q0 q1 q2 htl2
      have b1 : (0 : Int) ≤ (j : Int) := by omega
      have b2 : (j : Int) < hs.length := by omega
      have hpw := hwr.lt
      clear hc
      go_wp2_with fail
      have kk : WK p (p + 1) wr.heap.size #[.string xk, .bool xh, .string xd] 46 (wr.alloc (.cells #[.string xk, .bool xh, .string xd] 46)) (wr.alloc (.cells #[.string xk, .bool xh, .string xd] 46)) (l7 ++ hl (hs.take j)) := ⟨hwr.alloc _, Ch.refl _ _, heap_new _ _⟩
      have hcc : Ch (WU p (p + 1) W) W (wr.alloc (.cells #[.string xk, .bool xh, .string xd] 46)) := hch.alloc _
      have hQ2 : wr.heap.size ≠ p := by omega
      generalize wr.alloc (.cells #[.string xk, .bool xh, .string xd] 46) = W2 at *
      have HCC := hid hcc
      have KK := hid kk
      clear hcc hwr hch kk
      refine (wtx_any p (p + 1) _ xk _ KK.out.wr (by rw [List.length_append]; omega)).mono ?_
      rintro e y1 he
      have kk2 := KK.out.next hQ2 (by decide) he
      obtain ⟨rfl, _, _⟩ := he
      obtain ⟨d0, d1, d2⟩ := cells3 kk2.q
      have KK2 := hid kk2
      clear kk2 KK
      go_wp2_with fail
      refine (wol_any p (p + 1) _ xh xd _ KK2.out.wr (by rw [List.length_append, List.length_append]; omega)).mono ?_
      rintro e y2 he
      have kk3 := KK2.out.next hQ2 (by decide) he
      obtain ⟨rfl, _, _⟩ := he
      have K3 := hid kk3
      clear kk3 KK2 d0 d1 d2
      go_wp2_with fail
      go_roundg k
      case measure => omega
      case rel =>
        refine ⟨j + 1, by omega, by go_num, ?_, HCC.out.tu K3.out.ch⟩
        rw [HTK.out, hl1, ← List.append_assoc, ← List.append_assoc]
        exact K3.out.wr
    · have hj : j = hs.length := by omega
      subst hj
      rw [List.take_length, ← E7.out] at hwr
      have HW := hid hwr
      have HB4 := hid (HB3.out.trans (hch.below HB3.out.size (fun i hi hs => by rcases hs with rfl | ⟨h, _⟩ <;> omega)))
      clear hwr hch
      go_wp2_with fail
      refine (newwriter_any wr).mono ?_
      rintro e y3 ⟨rfl, rfl⟩
      have hw3 := HW.out.alloc (.cells #[.int .i64 0, .slice none 0 0] 62)
      have hv3 : Wr (wr.alloc (.cells #[.int .i64 0, .slice none 0 0] 62)) wr.heap.size (wr.heap.size + 1) [] := wr_new (heap_new _ _) (Nat.lt_succ_self _) (by simp)
      have HB5 := hid (HB4.out.alloc HB4.out.size (.cells #[.int .i64 0, .slice none 0 0] 62))
      have hsz := HB4.out.size
      go_wp2_with fail
      generalize wr.alloc (.cells #[.int .i64 0, .slice none 0 0] 62) = y4 at *
      refine (wbytes_any p (p + 1) O y4 hw3).mono ?_
      rintro e y4 ⟨rfl, rfl⟩
      have HT := hid (wtx_any wr.heap.size (wr.heap.size + 1) [] (bs O) y4 hv3 (by have := HHS.out; unfold tx; rw [List.length_append, bl_len, List.length_nil]; omega))
      clear hw3 hv3
      go_wp2_with fail
      refine HT.out.mono ?_
      rintro e y5 ⟨rfl, hv5, hc5⟩
      rw [List.nil_append] at hv5
      have HB6 := hid (HB5.out.trans (hc5.below HB5.out.size (fun i hi hs => by rcases hs with rfl | ⟨h, _⟩ <;> omega)))
      have CY := hid (wbytes_any _ _ _ _ hv5)
      clear hv5 hc5
      go_wp2_with (go_at_call 17; refine CY.out.mono ?_; rintro e y6 ⟨rfl, rfl⟩)
      go_ret
      exact ⟨rfl, HB6.out⟩
theorem spells_walk (r : Rec) (a : Option Addr) (cap : Nat) (first : Int) (n : Int) (w : World) (V : Hds w a r.hs) (ht : I64 r.t) (hf : I64 first) (hn : 0 ≤ n ∧ n ≤ 65535) (hm : Mod r) :
    Calls Try.prog 4 #[recV r a cap, .int .i64 first, .int .u16 n] w fun e w' => e = .returned (.bool true) ∧ Below w.heap.size w w' := by
  obtain ⟨N, rfl⟩ : ∃ N : Nat, n = (N : Int) := ⟨n.toNat, by omega⟩
  by_cases hz : sze r first N = 0
  · exact spells_yes r a cap first N w V ht hf (by omega) hm hz
  · exact spells_no r a cap first N w V ht hf (by omega) hm hz
end Go.Proofs.Ytafogjilheniiab
