/- DiskSafe: the walk. -/
import Derived.Test.YtnopamkoegalpaaSaf
namespace Go.Proofs.Ytnopamkoegalpaa
open Go.RowKit
theorem ext_full (s : ByteArray) (n : Nat) (h : s.size ≤ n) : s.extract 0 n = s := ba_eq.1 (by rw [ext_ba]; exact (ext_all s n h).symm)
theorem ext_take (l : List UInt8) (n : Nat) : (ba l).extract 0 n = ba (l.take n) := ba_eq.1 (by rw [ext_ba]; simp [ba])
theorem ext_drop (s : ByteArray) (n : Nat) : (s.extract n s.size).data.toList = s.data.toList.drop n := by
  rw [ByteArray.data_extract, Array.toList_extract, List.extract_eq_drop_take', List.take_of_length_le (by rw [← Lib.size_eq]; exact Nat.le_refl _)]
theorem cat_run (a b : ByteArray) (h : a.size + b.size ≤ 9223372036854775807) (w : World) : (Op.stringOp .add a b).run Try.prog w = .ok (.string (a ++ b)) w := run_string_add_sum w a b h
theorem sl_h (s : ByteArray) (n : Nat) (h : n ≤ s.size) (w : World) : (Instr.slice 9 (.string s) none (some (.int .i64 (n : Int))) none).run Try.prog w = .ok (.string (s.extract 0 n)) w := run_slice_string_h (P := Try.prog) (w := w) 9 s Try.under9 .i64 n (by omega) (by omega)
theorem sl_l (s : ByteArray) (n : Int) (m : Nat) (hm : n = m) (h : m ≤ s.size) (w : World) : (Instr.slice 9 (.string s) (some (.int .i64 n)) none none).run Try.prog w = .ok (.string (s.extract m s.size)) w := by
  subst hm
  exact run_slice_string_l (P := Try.prog) (w := w) 9 s Try.under9 .i64 m (by omega) (by omega)
theorem ovr_ba (Q data : ByteArray) (Y : List UInt8) (A : Nat) (hQ : ba Y = Q) : ba (ovr Y A data.data.toList) = (Q.extract 0 A ++ data) ++ Q.extract (A + data.size) Q.size := by
  subst hQ
  apply ba_eq.1
  have e1 : data.data.toList.length = data.size := by rw [← Lib.size_eq]
  unfold ovr
  rw [e1]
  show (ba _).data.toList = _
  rw [ByteArray.data_append, Array.toList_append, ByteArray.data_append, Array.toList_append, ext_ba, ext_drop]
  simp [ba]
theorem size_of_ba (l : List UInt8) (s : ByteArray) (h : ba l = s) : s.size = l.length := by rw [← h, size_ba]
set_option maxHeartbeats 4000000 in
set_option maxRecDepth 20000 in
theorem safe_far (a b data : ByteArray) (size at_ : Int) (w : World) (hf : 1073741824 < a.size ∨ 1073741824 < a.size + b.size) :
    Calls Try.prog 8 #[.string a, .string b, .int .i64 size, .int .i64 at_, .string data] w fun e w' => e = .returned (.bool true) ∧ Below w.heap.size w w' := by
  have HFX := Hid.mk (fixed_any w)
  by_cases h1 : 1073741824 < a.size
  · have h1' : decide ((1073741824 : Int) < a.size) = true := by simp; omega
    clear h1 hf
    go_enter Try.func8, Try.ntmps8
    go_wp2_with (first | (go_at_call 9; refine HFX.out.mono ?_; rintro e w1 ⟨rfl, hb1⟩; have HB1 := Hid.mk hb1; clear hb1) | (go_at_call 10; refine (f_new w _ HB1.out).mono ?_; rintro e w2 ⟨d, rfl, h2⟩; have H2 := Hid.mk h2; clear h2) | (go_at_call 16; with_reducible refine (f_create w _ _ _ _ _ H2.out).mono ?_; rintro e w3 ⟨rfl, h3⟩; have H3 := Hid.mk h3; clear h3))
    go_ret
    obtain ⟨ft, _, _, _, hb⟩ := H3.out
    exact ⟨rfl, hb⟩
  · have h1' : decide ((1073741824 : Int) < a.size) = false := by simp; omega
    obtain ⟨X, hX⟩ : ∃ X : Nat, IntKind.i64.wrap ((1073741824 : Int) - a.size) = X ∧ X < b.size := ⟨1073741824 - a.size, by simp only [IntKind.wrap, IntKind.bits, IntKind.signed, Bool.true_and]; split <;> rename_i h <;> simp at h <;> omega, by omega⟩
    have hX1 := hX.1
    have hX2 : decide ((X : Int) < b.size) = true := by have := hX.2; simp; omega
    have hX3 := hX.2
    clear h1 hf hX
    go_enter Try.func8, Try.ntmps8
    go_wp2_with (first | (go_at_call 9; refine HFX.out.mono ?_; rintro e w1 ⟨rfl, hb1⟩; have HB1 := Hid.mk hb1; clear hb1) | (go_at_call 10; refine (f_new w _ HB1.out).mono ?_; rintro e w2 ⟨d, rfl, h2⟩; have H2 := Hid.mk h2; clear h2) | (go_at_call 16; with_reducible refine (f_create w _ _ _ _ _ H2.out).mono ?_; rintro e w3 ⟨rfl, h3⟩; have H3 := Hid.mk h3; clear h3))
    go_ret
    obtain ⟨ft, _, _, _, hb⟩ := H3.out
    exact ⟨rfl, hb⟩
set_option maxHeartbeats 4000000 in
set_option maxRecDepth 20000 in
theorem safe_near (a b data : ByteArray) (size at_ : Int) (w : World) (ha : at_ ≤ 9223372036854775807) (hs : a.size + b.size ≤ 1073741824) :
    Calls Try.prog 8 #[.string a, .string b, .int .i64 size, .int .i64 at_, .string data] w fun e w' => e = .returned (.bool true) ∧ Below w.heap.size w w' := by
  have HFX := Hid.mk (fixed_any w)
  have h1' : decide ((1073741824 : Int) < a.size) = false := by simp; omega
  obtain ⟨X, hX⟩ : ∃ X : Nat, IntKind.i64.wrap ((1073741824 : Int) - a.size) = X ∧ ¬ X < b.size := ⟨1073741824 - a.size, by simp only [IntKind.wrap, IntKind.bits, IntKind.signed, Bool.true_and]; split <;> rename_i h <;> simp at h <;> omega, by omega⟩
  have hX1 := hX.1
  have hX2 : decide ((X : Int) < b.size) = false := by have := hX.2; simp; omega
  have hX3 := hX.2
  have eA : a.data.toList.length = a.size := by rw [← Lib.size_eq]
  have eB : b.data.toList.length = b.size := by rw [← Lib.size_eq]
  have ew : IntKind.i64.wrap ((a.size : Int) + b.size) = (a.size : Int) + b.size := by simp only [IntKind.wrap, IntKind.bits, IntKind.signed, Bool.true_and]; split <;> rename_i h <;> simp at h <;> omega
  have HS := Hid.mk hs
  have K1 : Hid (([] : List UInt8).length + a.size ≤ 1073741824) := by show _ ≤ _; simp; omega
  have K2 : Hid (([] ++ a.data.toList).length + b.size ≤ 1073741824) := by show _ ≤ _; rw [List.nil_append, eA]; exact hs
  have KL : Hid (((([] ++ a.data.toList) ++ b.data.toList).length : Int) = (a.size : Int) + b.size) := by show _ = _; rw [List.nil_append, List.length_append, eA, eB]; omega
  have KS : Hid (((([] : List UInt8) ++ a.data.toList).length : Int) = (a.size : Int)) := by show _ = _; rw [List.nil_append, eA]
  have KW : Hid (ba (([] ++ a.data.toList) ++ b.data.toList) = a ++ b) := by
    show _ = _
    apply ba_eq.1
    simp [ba]
  clear hX hs eA eB
  cases hc1 : has5 (([] ++ a.data.toList) ++ b.data.toList).length at_ data.size with
  | false =>
    cases hc2 : has5 (([] ++ a.data.toList) ++ b.data.toList).length 0 size with
    | false =>
      have hS2 := HS.out
      have hkl := KL.out
      obtain ⟨Q, hQ⟩ : ∃ Q, ba (([] ++ a.data.toList) ++ b.data.toList) = Q := ⟨_, rfl⟩
      have hQ2 : Q = a ++ b := by rw [← hQ]; exact KW.out
      have e0 := cat_run a b (by omega)
      rw [← hQ2] at e0
      have hQs : (Q.size : Int) = (a.size : Int) + b.size := by rw [size_of_ba _ _ hQ]; exact hkl
      have KZ := KL
      have KV := Hid.mk hQ
      obtain ⟨T, hT⟩ : ∃ T, T = Q := ⟨_, rfl⟩
      rw [← hT] at e0 hQs KV
      have hTq := hQs
      have hTs := size_of_ba _ _ KV.out
      clear hT
      have HC1 := Hid.mk hc1
      have HA := Hid.mk ha
      have HC2 : Hid (has5 (([] ++ a.data.toList) ++ b.data.toList).length 0 size = false) := by show _ = _;  exact hc2
      have e5 := sl_h T (a.size + b.size) (by omega)
      rw [ext_full T _ (by omega)] at e5
      rw [Int.natCast_add] at e5
      clear hc1 ha hc2 hS2 hkl hQ hQ2 hTs hTq
      go_enter Try.func8, Try.ntmps8
      go_wp2_with (first | (go_at_call 9; refine HFX.out.mono ?_; rintro e w1 ⟨rfl, hb1⟩; have HB1 := Hid.mk hb1; clear hb1) | (go_at_call 10; refine (f_new w _ HB1.out).mono ?_; rintro e w2 ⟨d, rfl, h2⟩; have H2 := Hid.mk h2; clear h2) | (go_at_call 16; with_reducible refine (f_create w _ _ _ _ _ H2.out).mono ?_; rintro e w3 ⟨rfl, h3⟩; have H3 := Hid.mk h3; clear h3) | (go_at_call 20; with_reducible refine (f_append w _ _ _ _ _ _ _ a K1.out H3.out).mono ?_; rintro e w4 ⟨rfl, h4⟩; have H4 := Hid.mk h4; clear h4) | (go_at_call 22; with_reducible refine (f_sync w _ _ _ _ _ _ _ H4.out).mono ?_; rintro e w5 ⟨rfl, h5⟩; have H5 := Hid.mk h5; clear h5) | (go_at_call 20; with_reducible refine (f_append w _ _ _ _ _ _ _ b K2.out H5.out).mono ?_; rintro e w6 ⟨rfl, h6⟩; have H6 := Hid.mk h6; clear h6)  | (go_at_call 24; with_reducible refine (f_size' w _ _ _ _ _ _ _ _ KL.out H6.out).mono ?_; rintro e w7 ⟨rfl, k7, rfl⟩) | (go_at_call 28; with_reducible refine (f_synced' w _ _ _ _ _ _ _ _ KS.out (H6.out.drewN _)).mono ?_; rintro e w8 ⟨rfl, k8, rfl⟩) | (go_at_call 27; with_reducible refine (f_over0 w _ _ _ _ _ _ _ _ _ HA.out HC1.out (H6.out.drewN _)).mono ?_; rintro e w9 ⟨rfl, h9⟩; have H9 := Hid.mk h9; clear h9) | (go_at_call 23; with_reducible refine (f_read' w _ _ _ _ _ _ _ _ _ KZ.out.symm KV.out H9.out).mono ?_; rintro e w10 ⟨rfl, cl10, cb10, h10⟩; have H10 := Hid.mk h10; clear h10) | (go_at_call 21; with_reducible refine (f_cut0 w _ _ _ _ _ _ _ _ HC2.out H10.out).mono ?_; rintro e w11 ⟨rfl, h11⟩; have H11 := Hid.mk h11; clear h11) | (go_at_call 24; with_reducible refine (f_size' w _ _ _ _ _ _ _ _ KZ.out H11.out).mono ?_; rintro e w12 ⟨rfl, k12, rfl⟩) | (go_at_call 28; with_reducible refine (f_synced' w _ _ _ _ _ _ _ _ KS.out (H11.out.drewN _)).mono ?_; rintro e w13 ⟨rfl, k13, rfl⟩) | (go_at_call 23; with_reducible refine (f_read' w _ _ _ _ _ _ _ _ _ KZ.out.symm KV.out (H11.out.drewN _)).mono ?_; rintro e w14 ⟨rfl, cl14, cb14, h14⟩; have H14 := Hid.mk h14; clear h14) | (go_at_call 22; with_reducible refine (f_sync w _ _ _ _ _ _ _ H14.out).mono ?_; rintro e w15 ⟨rfl, h15⟩; have H15 := Hid.mk h15; clear h15) | (go_at_call 18; with_reducible refine (f_remove w _ _ _ _ _ _ _ H15.out).mono ?_; rintro e w16 ⟨rfl, h16⟩; have H16 := Hid.mk h16; clear h16) | (go_at_call 26; with_reducible refine (f_used w _ _ _ _ _ H16.out).mono ?_; rintro e w17 ⟨rfl, k17, rfl⟩))
      go_ret
      obtain ⟨ft, _, _, k3, hb⟩ := H16.out.drewN k17
      exact ⟨rfl, hb⟩
    | true =>
      have hS2 := HS.out
      have hkl := KL.out
      obtain ⟨Q, hQ⟩ : ∃ Q, ba (([] ++ a.data.toList) ++ b.data.toList) = Q := ⟨_, rfl⟩
      have hQ2 : Q = a ++ b := by rw [← hQ]; exact KW.out
      have e0 := cat_run a b (by omega)
      rw [← hQ2] at e0
      have hQs : (Q.size : Int) = (a.size : Int) + b.size := by rw [size_of_ba _ _ hQ]; exact hkl
      have KZ := KL
      have KV := Hid.mk hQ
      obtain ⟨T, hT⟩ : ∃ T, T = Q := ⟨_, rfl⟩
      rw [← hT] at e0 hQs KV
      have hTq := hQs
      have hTs := size_of_ba _ _ KV.out
      clear hT
      have HC1 := Hid.mk hc1
      have HA := Hid.mk ha
      have hh2 := of_decide_eq_true hc2
      obtain ⟨S, rfl⟩ : ∃ S : Nat, size = S := ⟨size.toNat, by omega⟩
      have hkz := KZ.out
      have HC2 : Hid (has5 (([] ++ a.data.toList) ++ b.data.toList).length 0 (S : Int) = true) := by show _ = _;  exact hc2
      have r1 : decide ((a.size : Int) + b.size < S) = false := by simp; omega
      have r1' : ¬ a.size + b.size < S := by omega
      have KT : Hid ((((([] ++ a.data.toList) ++ b.data.toList).take S).length : Int) = S) := by show _ = _; rw [List.length_take]; omega
      have KM : Hid (((min ([] ++ a.data.toList).length S : Nat) : Int) = min (a.size : Int) S) := by show _ = _; have := KS.out; omega
      have e5 := sl_h T S (by omega)
      have hR : ba ((([] ++ a.data.toList) ++ b.data.toList).take S) = T.extract 0 S := by rw [← KV.out]; exact (ext_take _ _).symm
      generalize T.extract 0 S = R at *
      have KR := Hid.mk hR
      clear hh2 hkz hR
      clear hc1 ha hc2 hS2 hkl hQ hQ2 hTs hTq
      go_enter Try.func8, Try.ntmps8
      go_wp2_with (first | (go_at_call 9; refine HFX.out.mono ?_; rintro e w1 ⟨rfl, hb1⟩; have HB1 := Hid.mk hb1; clear hb1) | (go_at_call 10; refine (f_new w _ HB1.out).mono ?_; rintro e w2 ⟨d, rfl, h2⟩; have H2 := Hid.mk h2; clear h2) | (go_at_call 16; with_reducible refine (f_create w _ _ _ _ _ H2.out).mono ?_; rintro e w3 ⟨rfl, h3⟩; have H3 := Hid.mk h3; clear h3) | (go_at_call 20; with_reducible refine (f_append w _ _ _ _ _ _ _ a K1.out H3.out).mono ?_; rintro e w4 ⟨rfl, h4⟩; have H4 := Hid.mk h4; clear h4) | (go_at_call 22; with_reducible refine (f_sync w _ _ _ _ _ _ _ H4.out).mono ?_; rintro e w5 ⟨rfl, h5⟩; have H5 := Hid.mk h5; clear h5) | (go_at_call 20; with_reducible refine (f_append w _ _ _ _ _ _ _ b K2.out H5.out).mono ?_; rintro e w6 ⟨rfl, h6⟩; have H6 := Hid.mk h6; clear h6)  | (go_at_call 24; with_reducible refine (f_size' w _ _ _ _ _ _ _ _ KL.out H6.out).mono ?_; rintro e w7 ⟨rfl, k7, rfl⟩) | (go_at_call 28; with_reducible refine (f_synced' w _ _ _ _ _ _ _ _ KS.out (H6.out.drewN _)).mono ?_; rintro e w8 ⟨rfl, k8, rfl⟩) | (go_at_call 27; with_reducible refine (f_over0 w _ _ _ _ _ _ _ _ _ HA.out HC1.out (H6.out.drewN _)).mono ?_; rintro e w9 ⟨rfl, h9⟩; have H9 := Hid.mk h9; clear h9) | (go_at_call 23; with_reducible refine (f_read' w _ _ _ _ _ _ _ _ _ KZ.out.symm KV.out H9.out).mono ?_; rintro e w10 ⟨rfl, cl10, cb10, h10⟩; have H10 := Hid.mk h10; clear h10) | (go_at_call 21; with_reducible refine (f_cut1 w _ _ _ _ _ _ _ _ HC2.out H10.out).mono ?_; rintro e w11 ⟨rfl, h11⟩; rw [Int.toNat_natCast] at h11; have H11 := Hid.mk h11; clear h11) | (go_at_call 24; with_reducible refine (f_size' w _ _ _ _ _ _ _ _ KT.out H11.out).mono ?_; rintro e w12 ⟨rfl, k12, rfl⟩) | (go_at_call 28; with_reducible refine (f_synced' w _ _ _ _ _ _ _ _ KM.out (H11.out.drewN _)).mono ?_; rintro e w13 ⟨rfl, k13, rfl⟩) | (go_at_call 23; with_reducible refine (f_read' w _ _ _ _ _ _ _ _ _ KT.out.symm KR.out (H11.out.drewN _)).mono ?_; rintro e w14 ⟨rfl, cl14, cb14, h14⟩; have H14 := Hid.mk h14; clear h14) | (go_at_call 22; with_reducible refine (f_sync w _ _ _ _ _ _ _ H14.out).mono ?_; rintro e w15 ⟨rfl, h15⟩; have H15 := Hid.mk h15; clear h15) | (go_at_call 18; with_reducible refine (f_remove w _ _ _ _ _ _ _ H15.out).mono ?_; rintro e w16 ⟨rfl, h16⟩; have H16 := Hid.mk h16; clear h16) | (go_at_call 26; with_reducible refine (f_used w _ _ _ _ _ H16.out).mono ?_; rintro e w17 ⟨rfl, k17, rfl⟩))
      go_ret
      obtain ⟨ft, _, _, k3, hb⟩ := H16.out.drewN k17
      exact ⟨rfl, hb⟩
  | true =>
    cases hc2 : has5 (([] ++ a.data.toList) ++ b.data.toList).length 0 size with
    | false =>
      have hS2 := HS.out
      have hkl := KL.out
      obtain ⟨Q, hQ⟩ : ∃ Q, ba (([] ++ a.data.toList) ++ b.data.toList) = Q := ⟨_, rfl⟩
      have hQ2 : Q = a ++ b := by rw [← hQ]; exact KW.out
      have e0 := cat_run a b (by omega)
      rw [← hQ2] at e0
      have hQs : (Q.size : Int) = (a.size : Int) + b.size := by rw [size_of_ba _ _ hQ]; exact hkl
      have hh1 := of_decide_eq_true hc1
      obtain ⟨A, rfl⟩ : ∃ A : Nat, at_ = A := ⟨at_.toNat, by omega⟩
      have hsz : data.data.toList.length = data.size := by rw [← Lib.size_eq]
      have hzl : (ovr (([] ++ a.data.toList) ++ b.data.toList) A data.data.toList).length = (([] ++ a.data.toList) ++ b.data.toList).length := ovr_len _ _ _ (by omega)
      have KZ : Hid (((ovr (([] ++ a.data.toList) ++ b.data.toList) A data.data.toList).length : Int) = (a.size : Int) + b.size) := by show _ = _; rw [hzl]; exact hkl
      have hV := ovr_ba Q data _ A hQ
      have e1 := sl_h Q A (by omega)
      have e3 := sl_l Q ((A : Int) + data.size) (A + data.size) (by omega) (by omega)
      have hTs := size_of_ba _ _ hV
      have hp : (Q.extract 0 A).size + data.size ≤ 9223372036854775807 := by rw [ByteArray.size_extract]; omega
      have e2 := cat_run (Q.extract 0 A) data hp
      have e4 := cat_run (Q.extract 0 A ++ data) (Q.extract (A + data.size) Q.size) (by rw [ByteArray.size_append] at hTs; omega)
      generalize Q.extract 0 A = P1 at *
      generalize Q.extract (A + data.size) Q.size = P3 at *
      generalize P1 ++ data = P2 at *
      generalize P2 ++ P3 = T at *
      have KV := Hid.mk hV
      have hTq : (T.size : Int) = (a.size : Int) + b.size := by rw [hTs, hzl]; exact hkl
      have q1 : decide ((a.size : Int) + b.size < A) = false := by simp; omega
      have q1' : ¬ a.size + b.size < A := by omega
      obtain ⟨M, hM⟩ : ∃ M : Nat, (a.size : Int) + b.size - A = M := ⟨a.size + b.size - A, by omega⟩
      have q2 : IntKind.i64.wrap ((a.size : Int) + b.size - A) = M := by rw [hM]; simp only [IntKind.wrap, IntKind.bits, IntKind.signed, Bool.true_and]; split <;> rename_i h <;> simp at h <;> omega
      have q3 : decide ((M : Int) < data.size) = false := by simp; omega
      have q3' : ¬ M < data.size := by omega
      have q4 : IntKind.i64.wrap ((A : Int) + data.size) = (A : Int) + data.size := by simp only [IntKind.wrap, IntKind.bits, IntKind.signed, Bool.true_and]; split <;> rename_i h <;> simp at h <;> omega
      have HZ := Hid.mk hzl
      clear hM hh1 hsz hzl hp hV
      have HC1 := Hid.mk hc1
      have HA := Hid.mk ha
      have HC2 : Hid (has5 (ovr (([] ++ a.data.toList) ++ b.data.toList) A data.data.toList).length 0 size = false) := by show _ = _; rw [HZ.out]; exact hc2
      have e5 := sl_h T (a.size + b.size) (by omega)
      rw [ext_full T _ (by omega)] at e5
      rw [Int.natCast_add] at e5
      clear hc1 ha hc2 hS2 hkl hQ hQ2 hTs hTq
      go_enter Try.func8, Try.ntmps8
      go_wp2_with (first | (go_at_call 9; refine HFX.out.mono ?_; rintro e w1 ⟨rfl, hb1⟩; have HB1 := Hid.mk hb1; clear hb1) | (go_at_call 10; refine (f_new w _ HB1.out).mono ?_; rintro e w2 ⟨d, rfl, h2⟩; have H2 := Hid.mk h2; clear h2) | (go_at_call 16; with_reducible refine (f_create w _ _ _ _ _ H2.out).mono ?_; rintro e w3 ⟨rfl, h3⟩; have H3 := Hid.mk h3; clear h3) | (go_at_call 20; with_reducible refine (f_append w _ _ _ _ _ _ _ a K1.out H3.out).mono ?_; rintro e w4 ⟨rfl, h4⟩; have H4 := Hid.mk h4; clear h4) | (go_at_call 22; with_reducible refine (f_sync w _ _ _ _ _ _ _ H4.out).mono ?_; rintro e w5 ⟨rfl, h5⟩; have H5 := Hid.mk h5; clear h5) | (go_at_call 20; with_reducible refine (f_append w _ _ _ _ _ _ _ b K2.out H5.out).mono ?_; rintro e w6 ⟨rfl, h6⟩; have H6 := Hid.mk h6; clear h6)  | (go_at_call 24; with_reducible refine (f_size' w _ _ _ _ _ _ _ _ KL.out H6.out).mono ?_; rintro e w7 ⟨rfl, k7, rfl⟩) | (go_at_call 28; with_reducible refine (f_synced' w _ _ _ _ _ _ _ _ KS.out (H6.out.drewN _)).mono ?_; rintro e w8 ⟨rfl, k8, rfl⟩) | (go_at_call 27; with_reducible refine (f_over1 w _ _ _ _ _ _ _ (A : Int) data HA.out HC1.out (H6.out.drewN _)).mono ?_; rintro e w9 ⟨rfl, h9⟩; rw [Int.toNat_natCast] at h9; have H9 := Hid.mk h9; clear h9))
      go_quiet (fail)
      go_wp2_with (first | (go_at_call 23; with_reducible refine (f_read' w _ _ _ _ _ _ _ _ _ KZ.out.symm KV.out (H9.out.drewN _)).mono ?_; rintro e w10 ⟨rfl, cl10, cb10, h10⟩; have H10 := Hid.mk h10; clear h10) | (go_at_call 21; with_reducible refine (f_cut0 w _ _ _ _ _ _ _ _ HC2.out H10.out).mono ?_; rintro e w11 ⟨rfl, h11⟩; have H11 := Hid.mk h11; clear h11) | (go_at_call 24; with_reducible refine (f_size' w _ _ _ _ _ _ _ _ KZ.out H11.out).mono ?_; rintro e w12 ⟨rfl, k12, rfl⟩) | (go_at_call 28; with_reducible refine (f_synced' w _ _ _ _ _ _ _ _ KS.out (H11.out.drewN _)).mono ?_; rintro e w13 ⟨rfl, k13, rfl⟩) | (go_at_call 23; with_reducible refine (f_read' w _ _ _ _ _ _ _ _ _ KZ.out.symm KV.out (H11.out.drewN _)).mono ?_; rintro e w14 ⟨rfl, cl14, cb14, h14⟩; have H14 := Hid.mk h14; clear h14) | (go_at_call 22; with_reducible refine (f_sync w _ _ _ _ _ _ _ H14.out).mono ?_; rintro e w15 ⟨rfl, h15⟩; have H15 := Hid.mk h15; clear h15) | (go_at_call 18; with_reducible refine (f_remove w _ _ _ _ _ _ _ H15.out).mono ?_; rintro e w16 ⟨rfl, h16⟩; have H16 := Hid.mk h16; clear h16) | (go_at_call 26; with_reducible refine (f_used w _ _ _ _ _ H16.out).mono ?_; rintro e w17 ⟨rfl, k17, rfl⟩))
      go_ret
      obtain ⟨ft, _, _, k3, hb⟩ := H16.out.drewN k17
      exact ⟨rfl, hb⟩
    | true =>
      have hS2 := HS.out
      have hkl := KL.out
      obtain ⟨Q, hQ⟩ : ∃ Q, ba (([] ++ a.data.toList) ++ b.data.toList) = Q := ⟨_, rfl⟩
      have hQ2 : Q = a ++ b := by rw [← hQ]; exact KW.out
      have e0 := cat_run a b (by omega)
      rw [← hQ2] at e0
      have hQs : (Q.size : Int) = (a.size : Int) + b.size := by rw [size_of_ba _ _ hQ]; exact hkl
      have hh1 := of_decide_eq_true hc1
      obtain ⟨A, rfl⟩ : ∃ A : Nat, at_ = A := ⟨at_.toNat, by omega⟩
      have hsz : data.data.toList.length = data.size := by rw [← Lib.size_eq]
      have hzl : (ovr (([] ++ a.data.toList) ++ b.data.toList) A data.data.toList).length = (([] ++ a.data.toList) ++ b.data.toList).length := ovr_len _ _ _ (by omega)
      have KZ : Hid (((ovr (([] ++ a.data.toList) ++ b.data.toList) A data.data.toList).length : Int) = (a.size : Int) + b.size) := by show _ = _; rw [hzl]; exact hkl
      have hV := ovr_ba Q data _ A hQ
      have e1 := sl_h Q A (by omega)
      have e3 := sl_l Q ((A : Int) + data.size) (A + data.size) (by omega) (by omega)
      have hTs := size_of_ba _ _ hV
      have hp : (Q.extract 0 A).size + data.size ≤ 9223372036854775807 := by rw [ByteArray.size_extract]; omega
      have e2 := cat_run (Q.extract 0 A) data hp
      have e4 := cat_run (Q.extract 0 A ++ data) (Q.extract (A + data.size) Q.size) (by rw [ByteArray.size_append] at hTs; omega)
      generalize Q.extract 0 A = P1 at *
      generalize Q.extract (A + data.size) Q.size = P3 at *
      generalize P1 ++ data = P2 at *
      generalize P2 ++ P3 = T at *
      have KV := Hid.mk hV
      have hTq : (T.size : Int) = (a.size : Int) + b.size := by rw [hTs, hzl]; exact hkl
      have q1 : decide ((a.size : Int) + b.size < A) = false := by simp; omega
      have q1' : ¬ a.size + b.size < A := by omega
      obtain ⟨M, hM⟩ : ∃ M : Nat, (a.size : Int) + b.size - A = M := ⟨a.size + b.size - A, by omega⟩
      have q2 : IntKind.i64.wrap ((a.size : Int) + b.size - A) = M := by rw [hM]; simp only [IntKind.wrap, IntKind.bits, IntKind.signed, Bool.true_and]; split <;> rename_i h <;> simp at h <;> omega
      have q3 : decide ((M : Int) < data.size) = false := by simp; omega
      have q3' : ¬ M < data.size := by omega
      have q4 : IntKind.i64.wrap ((A : Int) + data.size) = (A : Int) + data.size := by simp only [IntKind.wrap, IntKind.bits, IntKind.signed, Bool.true_and]; split <;> rename_i h <;> simp at h <;> omega
      have HZ := Hid.mk hzl
      clear hM hh1 hsz hzl hp hV
      have HC1 := Hid.mk hc1
      have HA := Hid.mk ha
      have hh2 := of_decide_eq_true hc2
      obtain ⟨S, rfl⟩ : ∃ S : Nat, size = S := ⟨size.toNat, by omega⟩
      have hkz := KZ.out
      have HC2 : Hid (has5 (ovr (([] ++ a.data.toList) ++ b.data.toList) A data.data.toList).length 0 (S : Int) = true) := by show _ = _; rw [HZ.out]; exact hc2
      have r1 : decide ((a.size : Int) + b.size < S) = false := by simp; omega
      have r1' : ¬ a.size + b.size < S := by omega
      have KT : Hid ((((ovr (([] ++ a.data.toList) ++ b.data.toList) A data.data.toList).take S).length : Int) = S) := by show _ = _; rw [List.length_take]; omega
      have KM : Hid (((min ([] ++ a.data.toList).length S : Nat) : Int) = min (a.size : Int) S) := by show _ = _; have := KS.out; omega
      have e5 := sl_h T S (by omega)
      have hR : ba ((ovr (([] ++ a.data.toList) ++ b.data.toList) A data.data.toList).take S) = T.extract 0 S := by rw [← KV.out]; exact (ext_take _ _).symm
      generalize T.extract 0 S = R at *
      have KR := Hid.mk hR
      clear hh2 hkz hR
      clear hc1 ha hc2 hS2 hkl hQ hQ2 hTs hTq
      go_enter Try.func8, Try.ntmps8
      go_wp2_with (first | (go_at_call 9; refine HFX.out.mono ?_; rintro e w1 ⟨rfl, hb1⟩; have HB1 := Hid.mk hb1; clear hb1) | (go_at_call 10; refine (f_new w _ HB1.out).mono ?_; rintro e w2 ⟨d, rfl, h2⟩; have H2 := Hid.mk h2; clear h2) | (go_at_call 16; with_reducible refine (f_create w _ _ _ _ _ H2.out).mono ?_; rintro e w3 ⟨rfl, h3⟩; have H3 := Hid.mk h3; clear h3) | (go_at_call 20; with_reducible refine (f_append w _ _ _ _ _ _ _ a K1.out H3.out).mono ?_; rintro e w4 ⟨rfl, h4⟩; have H4 := Hid.mk h4; clear h4) | (go_at_call 22; with_reducible refine (f_sync w _ _ _ _ _ _ _ H4.out).mono ?_; rintro e w5 ⟨rfl, h5⟩; have H5 := Hid.mk h5; clear h5) | (go_at_call 20; with_reducible refine (f_append w _ _ _ _ _ _ _ b K2.out H5.out).mono ?_; rintro e w6 ⟨rfl, h6⟩; have H6 := Hid.mk h6; clear h6)  | (go_at_call 24; with_reducible refine (f_size' w _ _ _ _ _ _ _ _ KL.out H6.out).mono ?_; rintro e w7 ⟨rfl, k7, rfl⟩) | (go_at_call 28; with_reducible refine (f_synced' w _ _ _ _ _ _ _ _ KS.out (H6.out.drewN _)).mono ?_; rintro e w8 ⟨rfl, k8, rfl⟩) | (go_at_call 27; with_reducible refine (f_over1 w _ _ _ _ _ _ _ (A : Int) data HA.out HC1.out (H6.out.drewN _)).mono ?_; rintro e w9 ⟨rfl, h9⟩; rw [Int.toNat_natCast] at h9; have H9 := Hid.mk h9; clear h9))
      go_quiet (fail)
      go_wp2_with (first | (go_at_call 23; with_reducible refine (f_read' w _ _ _ _ _ _ _ _ _ KZ.out.symm KV.out (H9.out.drewN _)).mono ?_; rintro e w10 ⟨rfl, cl10, cb10, h10⟩; have H10 := Hid.mk h10; clear h10) | (go_at_call 21; with_reducible refine (f_cut1 w _ _ _ _ _ _ _ _ HC2.out H10.out).mono ?_; rintro e w11 ⟨rfl, h11⟩; rw [Int.toNat_natCast] at h11; have H11 := Hid.mk h11; clear h11) | (go_at_call 24; with_reducible refine (f_size' w _ _ _ _ _ _ _ _ KT.out H11.out).mono ?_; rintro e w12 ⟨rfl, k12, rfl⟩) | (go_at_call 28; with_reducible refine (f_synced' w _ _ _ _ _ _ _ _ KM.out (H11.out.drewN _)).mono ?_; rintro e w13 ⟨rfl, k13, rfl⟩) | (go_at_call 23; with_reducible refine (f_read' w _ _ _ _ _ _ _ _ _ KT.out.symm KR.out (H11.out.drewN _)).mono ?_; rintro e w14 ⟨rfl, cl14, cb14, h14⟩; have H14 := Hid.mk h14; clear h14) | (go_at_call 22; with_reducible refine (f_sync w _ _ _ _ _ _ _ H14.out).mono ?_; rintro e w15 ⟨rfl, h15⟩; have H15 := Hid.mk h15; clear h15) | (go_at_call 18; with_reducible refine (f_remove w _ _ _ _ _ _ _ H15.out).mono ?_; rintro e w16 ⟨rfl, h16⟩; have H16 := Hid.mk h16; clear h16) | (go_at_call 26; with_reducible refine (f_used w _ _ _ _ _ H16.out).mono ?_; rintro e w17 ⟨rfl, k17, rfl⟩))
      go_ret
      obtain ⟨ft, _, _, k3, hb⟩ := H16.out.drewN k17
      exact ⟨rfl, hb⟩
theorem safe_walk (a b : ByteArray) (size at_ : Int) (data : ByteArray) (w : World) (_ : a.size ≤ 9223372036854775807) (_ : b.size ≤ 9223372036854775807) (_ : -9223372036854775808 ≤ size) (_ : size ≤ 9223372036854775807) (_ : -9223372036854775808 ≤ at_) (ha : at_ ≤ 9223372036854775807) (_ : data.size ≤ 9223372036854775807) :
    Calls Try.prog 8 #[.string a, .string b, .int .i64 size, .int .i64 at_, .string data] w fun e w' => e = .returned (.bool true) ∧ Below w.heap.size w w' := by
  by_cases h : a.size + b.size ≤ 1073741824
  · exact safe_near a b data size at_ w ha h
  · exact safe_far a b data size at_ w (by omega)
end Go.Proofs.Ytnopamkoegalpaa
