/- RecordBack's walk: what is written is read again, whatever stands behind it; by another number, or of fewer bytes, it isn't. -/
import Derived.Test.YtmopmophiabfbaaSam5
import Derived.Test.YtmopmophiabfbaaSpl5
namespace Go.Proofs.Ytmopmophiabfbaa
open Go.RowKit
def cln (r : Rec) : Rec := ⟨r.t, r.kh, bd r.kh r.kd, r.vh, bd r.vh r.vd, r.hs.map fun x => (x.1, x.2.1, bd x.2.1 x.2.2)⟩
theorem ol_bd (h : Bool) (d : ByteArray) : ol h (bd h d) = ol h d := by cases h <;> rfl
theorem bd_bd (h : Bool) (d : ByteArray) : bd h (bd h d) = bd h d := by cases h <;> rfl
theorem cl_bd (h : Bool) (d : ByteArray) : Cl h (bd h d) := fun e => by subst e; rfl
theorem hl_cln (hs : List Hdr) : hl (hs.map fun x => (x.1, x.2.1, bd x.2.1 x.2.2)) = hl hs := by
  induction hs with
  | nil => rfl
  | cons x l ih => rw [List.map_cons, hl_cons, hl_cons, ih, ol_bd]
theorem own_cln (d : Int) (n : Nat) (r : Rec) : own d n (cln r) = own d n r := by
  unfold own cln
  rw [ol_bd, ol_bd, hl_cln, List.length_map]
theorem fm_cln (d : Int) (n : Nat) (r : Rec) : fm d n (cln r) = fm d n r := by unfold fm; rw [own_cln]
theorem bl_app (s t : ByteArray) : bl (s ++ t) = bl s ++ bl t := by
  unfold bl
  have : (s ++ t).data.toList = s.data.toList ++ t.data.toList := by rw [ByteArray.data_append, Array.toList_append]
  rw [this, List.map_append]
theorem form_inj {v v' : Nat} {t t' : List Nat} (h : v < 18446744073709551616) (h' : v' < 18446744073709551616) (e : M.form v ++ t = M.form v' ++ t') : v = v' ∧ t = t' := by
  have a := M.rd_back h t
  have b := M.rd_back h' t'
  rw [e, b] at a
  injection a with a _
  subst a
  exact ⟨rfl, List.append_cancel_left e⟩
theorem own_num {d d' : Int} {n n' : Nat} {x y : Rec} (hd : I64 d) (hd' : I64 d') (hn : n < 65537) (hn' : n' < 65537) (e : own d n x = own d' n' y) : n = n' := by
  have z := M.zz_bd hd.1 hd.2
  have z' := M.zz_bd hd'.1 hd'.2
  unfold own at e
  have e1 := List.append_cancel_left e
  have e2 := (form_inj (by omega) (by omega) e1).2
  exact (form_inj (by omega) (by omega) e2).1
/-- What is read of the form. -/
theorem back_read {r : Rec} {first : Int} {N : Nat} {S more : ByteArray} (hN : N < 65536) (ht : I64 r.t) (hz : sze r first N = 0) (hS : bl S = fm (r.t - first) N r) (hm : more.size ≤ 1048576) : nxt (S ++ more) 0 first N = .ok (cln r, S.size) := by
  obtain ⟨_, hi, hh, hl'⟩ := sze_ok hz
  rw [Int.toNat_natCast] at hl'
  have hsz : S.size = (fm (r.t - first) N r).length := by rw [← hS, bl_len]
  have hz2 : (S ++ more).size = S.size + more.size := by rw [ByteArray.size_append]
  refine (nxt_iff (by omega) (Nat.zero_le _) (by omega)).2 ?_
  have ec : (cln r).t = r.t := rfl
  rw [ec, fm_cln, Nat.zero_add]
  refine ⟨stands_of (r := bl more) (Nat.zero_le _) (by rw [List.drop_zero, bl_app, hS]), hsz, ⟨ht, hi, cl_bd _ _, cl_bd _ _, by show (List.map _ _).length ≤ 1024; rw [List.length_map]; exact hh, ?_⟩, hl'⟩
  intro x hx
  simp only [cln, List.mem_map] at hx
  obtain ⟨y, _, rfl⟩ := hx
  exact cl_bd _ _
theorem back_num {r : Rec} {first : Int} {N : Nat} {S : ByteArray} (hN : N < 65536) (hz : sze r first N = 0) (hS : bl S = fm (r.t - first) N r) : ∃ x, rd5 S first ((N : Int) + 1) = .error x := by
  obtain ⟨_, hi, hh, hl'⟩ := sze_ok hz
  rw [Int.toNat_natCast] at hl'
  have hsz : S.size = (fm (r.t - first) N r).length := by rw [← hS, bl_len]
  cases hx : rd5 S first ((N : Int) + 1) with
  | error x => exact ⟨x, rfl⟩
  | ok y =>
    exfalso
    unfold rd5 at hx
    split at hx
    · cases hx
    · rename_i hb
      have e1 : ((N : Int) + 1).toNat = N + 1 := by omega
      rw [e1] at hx
      obtain ⟨h1, h2, h3, h4⟩ := (nxt_iff (by omega) (Nat.zero_le _) (by omega)).1 hx
      obtain ⟨T, h5⟩ : ∃ T, fm (r.t - first) N r = fm (y.1.t - first) (N + 1) y.1 ++ T := ⟨_, by rw [← hS]; have := stands_drop h1; rw [List.drop_zero] at this; exact this⟩
      have hL := h4
      unfold fm at hL hl' h5
      rw [List.append_assoc] at h5
      rw [List.length_append] at hL hl'
      obtain ⟨e2, e3⟩ := form_inj (by omega) (by omega) h5
      have hT : T.length = 0 := by have := congrArg List.length e3; rw [List.length_append] at this; omega
      rw [List.eq_nil_of_length_eq_zero hT, List.append_nil] at e3
      have := own_num hi h3.2.1 (by omega) (by omega) e3
      omega
theorem back_cut {r : Rec} {first : Int} {N m : Nat} {S : ByteArray} (hN : N < 65536) (hz : sze r first N = 0) (hS : bl S = fm (r.t - first) N r) (hm : m < S.size) : ∃ x, rd5 (S.extract 0 m) first N = .error x := by
  obtain ⟨_, hi, hh, hl'⟩ := sze_ok hz
  rw [Int.toNat_natCast] at hl'
  have hsz : S.size = (fm (r.t - first) N r).length := by rw [← hS, bl_len]
  have hz2 : (S.extract 0 m).size = m := by rw [ByteArray.size_extract]; omega
  cases hx : rd5 (S.extract 0 m) first N with
  | error x => exact ⟨x, rfl⟩
  | ok y =>
    exfalso
    unfold rd5 at hx
    split at hx
    · cases hx
    · rename_i hb
      rw [Int.toNat_natCast] at hx
      obtain ⟨h1, h2, h3, h4⟩ := (nxt_iff (by omega) (Nat.zero_le _) (by omega)).1 hx
      have hle := h1.1
      have h5 := stands_drop h1
      rw [List.drop_zero, bl_ext, List.drop_zero, Nat.sub_zero] at h5
      have h6 : bl S = (bl S).take m ++ (bl S).drop m := (List.take_append_drop m _).symm
      rw [h5, hS] at h6
      generalize List.drop (0 + (fm (y.1.t - first) N y.1).length) (List.take m (fm (r.t - first) N r)) = T1 at h6
      generalize List.drop m (fm (r.t - first) N r) = T2 at h6
      generalize hT : List.drop _ _ = T3 at h6
      have hL := h4
      have e0 : (fm (y.1.t - first) N y.1).length = (M.form (own (y.1.t - first) N y.1).length).length + (own (y.1.t - first) N y.1).length := by unfold fm; rw [List.length_append]
      have e0' : (fm (r.t - first) N r).length = (M.form (own (r.t - first) N r).length).length + (own (r.t - first) N r).length := by unfold fm; rw [List.length_append]
      unfold fm at h6
      simp only [List.append_assoc] at h6
      obtain ⟨e2, _⟩ := form_inj (by omega) (by omega) h6
      rw [e2] at e0'
      omega
set_option maxHeartbeats 1000000 in
set_option maxRecDepth 20000 in
theorem back_no (r : Rec) (a : Option Addr) (cap : Nat) (first n : Int) (more : ByteArray) (cut : Int) (w : World) (V : Hds w a r.hs) (ht : I64 r.t) (hf : I64 first) (hm : Mod r) (hz : sze r first n ≠ 0) :
    Calls Try.prog 5 #[recV r a cap, .int .i64 first, .int .i64 n, .string more, .int .u16 cut] w fun e w' => e = .returned (.bool true) ∧ Below w.heap.size w w' := by
  have CB := hid (fun x V => bytes_no r a cap first n x V ht hf hm hz)
  have CFm := hid (fun x => forms_any x)
  have HVV := hid V
  have hne : (((sze r first n : Nat) : Int) != 0) = true := by rw [bne_iff_ne]; omega
  generalize sze r first n = E at *
  obtain ⟨t, kh, kd, vh, vd, hs⟩ := r
  simp only [recV] at *
  clear V hm hz
  go_enter Try.func5, Try.ntmps5
  go_wp2_with fail
  have hb0 : Below w.heap.size w (w.alloc (.cells #[.int .i64 t, .bool kh, .string kd, .bool vh, .string vd, .slice a hs.length cap] 26)) := (Below.refl _ w).alloc (Nat.le_refl _) _
  have g0 : (w.alloc (.cells #[.int .i64 t, .bool kh, .string kd, .bool vh, .string vd, .slice a hs.length cap] 26)).heap[w.heap.size]? = some (.cells #[.int .i64 t, .bool kh, .string kd, .bool vh, .string vd, .slice a hs.length cap] 26 (0, 0)) := heap_new _ _
  generalize w.alloc (.cells #[.int .i64 t, .bool kh, .string kd, .bool vh, .string vd, .slice a hs.length cap] 26) = w0 at *
  refine (CFm.out _).mono ?_
  rintro e w1 ⟨rfl, hb1⟩
  have g1 := (hb1.block _ (lt_of_heap g0)).trans g0
  obtain ⟨c0, c1, c2, c3, c4, c5⟩ := cells6 g1
  have V1 := hid ((HVV.out.below hb0).below hb1)
  have HB1 := hid (bel_next hb0 (Nat.le_refl _) hb1)
  clear g0 g1 hb1 hb0
  go_wp2_with fail
  refine (CB.out _ V1.out).mono ?_
  rintro e w2 ⟨rfl, hb2⟩
  have HB2 := hid (bel_next HB1.out (Nat.le_refl _) hb2)
  clear hb2
  go_wp2_with fail
  go_ret
  exact ⟨rfl, HB2.out⟩
set_option maxHeartbeats 1000000 in
set_option maxRecDepth 20000 in
theorem back_yes (r : Rec) (a : Option Addr) (cap : Nat) (first : Int) (N : Nat) (more : ByteArray) (cut : Nat) (w : World) (V : Hds w a r.hs) (ht : I64 r.t) (hf : I64 first) (hm : Mod r) (hN : N < 65536) (hmo : more.size ≤ 1048576) (hcut : cut ≤ 65535) (hz : sze r first N = 0) :
    Calls Try.prog 5 #[recV r a cap, .int .i64 first, .int .i64 N, .string more, .int .u16 cut] w fun e w' => e = .returned (.bool true) ∧ Below w.heap.size w w' := by
  have cb := fun x V => bytes_ok r a cap first N x V ht hf hm hz
  obtain ⟨_, hi, hh, hfl⟩ := sze_ok hz
  rw [Int.toNat_natCast] at cb hfl
  have hby : ∀ b ∈ fm (r.t - first) N r, b < 256 := by
    intro b hb
    have ho : (own (r.t - first) N r).length ≤ 16777216 := by unfold fm at hfl; rw [List.length_append] at hfl; omega
    unfold fm at hb
    rcases List.mem_append.1 hb with hb | hb
    · exact M.form_byte (by omega) b hb
    · exact own_byte _ _ _ hi (by omega) (by omega) hm b hb
  obtain ⟨S, hSd⟩ : ∃ S, S = bs (fm (r.t - first) N r) := ⟨_, rfl⟩
  have hS : bl S = fm (r.t - first) N r := by rw [hSd, bl_bs _ hby]
  have hSs : S.size = (fm (r.t - first) N r).length := by rw [hSd, bs_size]
  rw [← hSd] at cb
  have h7 := (fm_len (r.t - first) N r).2
  have q1 := back_read hN ht hz hS hmo
  obtain ⟨x2, q2⟩ := back_num hN hz hS
  obtain ⟨m, hmd⟩ : ∃ m : Nat, m = cut % S.size := ⟨_, rfl⟩
  have hmS : m < S.size := by rw [hmd]; exact Nat.mod_lt _ (by omega)
  obtain ⟨x3, q3⟩ := back_cut hN hz hS hmS
  have hSL : S.size ≤ 16777216 := by omega
  have e1 : rd5 (S ++ more) first N = .ok (cln r, S.size) := by unfold rd5; rw [if_neg (by omega), Int.toNat_natCast]; exact q1
  have za : (S ++ more).size = S.size + more.size := by rw [ByteArray.size_append]
  have zb : (S.extract 0 m).size = m := by rw [ByteArray.size_extract]; omega
  have cr1 := fun x => read5_any (S ++ more) first N x (by omega) hf
  have cr2 := fun x => read5_any S first ((N : Int) + 1) x (by omega) hf
  have cr3 := fun x => read5_any (S.extract 0 m) first N x (by omega) hf
  rw [e1] at cr1
  rw [q2] at cr2
  rw [q3] at cr3
  have CR1 := hid cr1
  have CR2 := hid cr2
  have CR3 := hid cr3
  have CB := hid cb
  have CFm := hid (fun x => forms_any x)
  have HVV := hid V
  have hS0 : S.size ≠ 0 := by omega
  have hcat : ¬ 9223372036854775807 < S.size + more.size := by omega
  obtain ⟨t, kh, kd, vh, vd, hs⟩ := r
  have CSm := hid (fun (a2 : Option Addr) (cap2 : Nat) (x : World) (V1 : Hds x a2 (hs.map fun x => (x.1, x.2.1, bd x.2.1 x.2.2))) (V2 : Hds x a hs) => same_yes t kh vh (bd kh kd) kd (bd vh vd) vd (hs.map fun x => (x.1, x.2.1, bd x.2.1 x.2.2)) hs a2 a cap2 cap x V1 V2 (by rw [List.length_map]; exact hm.n) (bd_bd _ _).symm (bd_bd _ _).symm (by rw [List.length_map]) (fun j hj => by
    rw [List.length_map] at hj
    have eg : ((hs.map fun x => (x.1, x.2.1, bd x.2.1 x.2.2)) : List Hdr).getD j df = ((hs.getD j df).1, (hs.getD j df).2.1, bd (hs.getD j df).2.1 (hs.getD j df).2.2) := by
      rw [List.getD_eq_getElem?_getD, List.getElem?_map, List.getD_eq_getElem?_getD, List.getElem?_eq_getElem hj]; rfl
    rw [eg]
    exact ⟨rfl, rfl, (bd_bd _ _).symm⟩))
  simp only [List.length_map] at CSm
  simp only [recV, cln] at *
  have HMD := hid hmd
  have HSL := hid hSL
  clear V hm hz cb hby hSd hS hSs h7 q1 q2 q3 cr1 cr2 cr3 hfl hi hh e1 za zb hmo hmd hSL
  go_enter Try.func5, Try.ntmps5
  go_wp2_with fail
  have hb0 : Below w.heap.size w (w.alloc (.cells #[.int .i64 t, .bool kh, .string kd, .bool vh, .string vd, .slice a hs.length cap] 26)) := (Below.refl _ w).alloc (Nat.le_refl _) _
  have g0 : (w.alloc (.cells #[.int .i64 t, .bool kh, .string kd, .bool vh, .string vd, .slice a hs.length cap] 26)).heap[w.heap.size]? = some (.cells #[.int .i64 t, .bool kh, .string kd, .bool vh, .string vd, .slice a hs.length cap] 26 (0, 0)) := heap_new _ _
  generalize w.alloc (.cells #[.int .i64 t, .bool kh, .string kd, .bool vh, .string vd, .slice a hs.length cap] 26) = w0 at *
  refine (CFm.out _).mono ?_
  rintro e w1 ⟨rfl, hb1⟩
  have g1 := (hb1.block _ (lt_of_heap g0)).trans g0
  obtain ⟨c0, c1, c2, c3, c4, c5⟩ := cells6 g1
  have V1 := hid ((HVV.out.below hb0).below hb1)
  have HB1 := hid (bel_next hb0 (Nat.le_refl _) hb1)
  have G1 := hid g1
  clear g0 g1 hb1 hb0
  go_wp2_with fail
  refine (CB.out _ V1.out).mono ?_
  rintro e w2 ⟨rfl, hb2⟩
  have G2 := hid ((hb2.block _ (lt_of_heap G1.out)).trans G1.out)
  have V2 := hid (V1.out.below hb2)
  have HB2 := hid (bel_next HB1.out (Nat.le_refl _) hb2)
  clear hb2 c0 c1 c2 c3 c4 c5
  go_wp2_with fail
  refine (CR1.out _).mono ?_
  rintro e w3 ⟨hb3, a2, cap2, rfl, ho⟩
  simp only [recV, List.length_map] at ho ⊢
  have G3 := hid ((hb3.block _ (lt_of_heap G2.out)).trans G2.out)
  have V3 := hid (V2.out.below hb3)
  have HB3 := hid (bel_next HB2.out (Nat.le_refl _) hb3)
  have hoS := OwnH.slice (show OwnH w3 w2.heap.size (.slice a2 (hs.map fun x => (x.1, x.2.1, bd x.2.1 x.2.2)).length cap2) (hs.map fun x => (x.1, x.2.1, bd x.2.1 x.2.2)) by rw [List.length_map]; exact ho)
  obtain ⟨a', cap', he, _, VB⟩ := hoS
  injection he with he1 _ he2
  subst he1 he2
  have g4 : (w3.alloc (.cells #[.int .i64 t, .bool kh, .string (bd kh kd), .bool vh, .string (bd vh vd), .slice a2 hs.length cap2] 26)).heap[w.heap.size]? = some (.cells #[.int .i64 t, .bool kh, .string kd, .bool vh, .string vd, .slice a hs.length cap] 26 (0, 0)) := heap_alloc_at G3.out
  obtain ⟨c0, c1, c2, c3, c4, c5⟩ := cells6 g4
  have V4 := hid (V3.out.below ((Below.refl _ w3).alloc (Nat.le_refl _) (.cells #[.int .i64 t, .bool kh, .string (bd kh kd), .bool vh, .string (bd vh vd), .slice a2 hs.length cap2] 26)))
  have VB4 := hid (VB.below ((Below.refl _ w3).alloc (Nat.le_refl _) (.cells #[.int .i64 t, .bool kh, .string (bd kh kd), .bool vh, .string (bd vh vd), .slice a2 hs.length cap2] 26)))
  have HB4 := hid (HB3.out.alloc HB3.out.size (.cells #[.int .i64 t, .bool kh, .string (bd kh kd), .bool vh, .string (bd vh vd), .slice a2 hs.length cap2] 26))
  clear hb3 ho VB g4
  go_wp2_with fail
  refine (CSm.out _ _ _ VB4.out V4.out).mono ?_
  rintro e w5 ⟨rfl, hb5⟩
  have HB5 := hid (bel_next HB4.out (Nat.le_refl _) hb5)
  clear hb5
  go_wp2_with fail
  refine (CR2.out _).mono ?_
  rintro e w6 ⟨hb6, rfl, hx2⟩
  have hne2 : ((x2 : Int) == 0) = false := by rw [beq_eq_false_iff_ne]; omega
  have HB6 := hid (bel_next HB5.out (Nat.le_refl _) hb6)
  have hmM : cut % S.size < S.size := Nat.mod_lt _ (by omega)
  have hmI : (cut : Int) % (S.size : Int) < S.size := by omega
  have hmJ : (0 : Int) ≤ (cut : Int) % (S.size : Int) := by omega
  clear hb6 hx2
  unfold noRec
  go_wp2_with fail
  rw [← HMD.out]
  refine (CR3.out _).mono ?_
  rintro e w7 ⟨hb7, rfl, hx3⟩
  have hne3 : ((x3 : Int) != 0) = true := by rw [bne_iff_ne]; omega
  have HB7 := hid (bel_next (HB6.out.alloc HB6.out.size _) (Nat.le_refl _) hb7)
  clear hb7 hx3
  unfold noRec
  go_wp2_with fail
  refine (same_none _).mono ?_
  rintro e w8 ⟨rfl, hb8⟩
  have HB8 := hid (bel_next (HB7.out.alloc HB7.out.size _) (Nat.le_refl _) hb8)
  clear hb8
  go_wp2_with fail
  go_ret
  exact ⟨rfl, HB8.out⟩
theorem back_walk (r : Rec) (a : Option Addr) (cap : Nat) (first n : Int) (more : ByteArray) (cut : Int) (w : World) (V : Hds w a r.hs) (ht : I64 r.t) (hf : I64 first) (hm : Mod r) (hmo : more.size ≤ 1048576) (hcut : 0 ≤ cut ∧ cut ≤ 65535) :
    Calls Try.prog 5 #[recV r a cap, .int .i64 first, .int .i64 n, .string more, .int .u16 cut] w fun e w' => e = .returned (.bool true) ∧ Below w.heap.size w w' := by
  by_cases hz : sze r first n = 0
  · obtain ⟨h1, _⟩ := sze_ok hz
    obtain ⟨N, rfl⟩ : ∃ N : Nat, n = (N : Int) := ⟨n.toNat, by omega⟩
    obtain ⟨c, rfl⟩ : ∃ c : Nat, cut = (c : Int) := ⟨cut.toNat, by omega⟩
    exact back_yes r a cap first N more c w V ht hf hm (by omega) hmo (by omega) hz
  · exact back_no r a cap first n more cut w V ht hf hm hz
end Go.Proofs.Ytmopmophiabfbaa
