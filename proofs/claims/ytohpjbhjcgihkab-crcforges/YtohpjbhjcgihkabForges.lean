/- CrcForges' walk: Fix turns every sum into every other, by one text of four bytes alone; nothing that was there before is turned. -/
import Derived.Test.YtohpjbhjcgihkabAwake
namespace Go.Proofs.Ytohpjbhjcgihkab
open Go.RowKit Go.WideShapes
theorem hid {p : Prop} (h : p) : Hid p := h
theorem app_data (a b : ByteArray) : (a ++ b).data.toList = a.data.toList ++ b.data.toList := by simp
set_option maxHeartbeats 4000000 in
set_option maxRecDepth 20000 in
theorem forges_walk (s : ByteArray) (t o : Nat) (w : World) (hs : s.size ≤ 4611686018427387904) (ht : t < 4294967296) (ho : o < 4294967296) :
    Calls Try.prog 4 #[.string s, .int .u32 t, .int .u32 o] w fun e w' => e = .returned (.bool true) ∧ Below w.heap.size w w' := by
  have lS := M.more_lt (sum := 0) s.data.toList (by omega)
  have cS := fun v => sum_any s v (by omega)
  have cZ := fun v => fix_any (M.more 0 s.data.toList) t v lS ht
  have cY := fun v => fix_any (M.more 0 s.data.toList) o v lS ho
  have eZ := M.fix_more lS ht
  have eY := M.fix_more lS ho
  have hne : t ≠ o → M.four (M.need (M.more 0 s.data.toList) t) ≠ M.four (M.need (M.more 0 s.data.toList) o) := fun h e => h (M.need_inj ht ho lS e)
  have hee : t = o → M.four (M.need (M.more 0 s.data.toList) t) = M.four (M.need (M.more 0 s.data.toList) o) := fun h => by rw [h]
  have sZ : (ByteArray.mk (M.four (M.need (M.more 0 s.data.toList) t)).toArray).size = 4 := rfl
  have sY : (ByteArray.mk (M.four (M.need (M.more 0 s.data.toList) o)).toArray).size = 4 := rfl
  rw [show M.four (M.need (M.more 0 s.data.toList) t) = (ByteArray.mk (M.four (M.need (M.more 0 s.data.toList) t)).toArray).data.toList from rfl] at eZ hne hee
  rw [show M.four (M.need (M.more 0 s.data.toList) o) = (ByteArray.mk (M.four (M.need (M.more 0 s.data.toList) o)).toArray).data.toList from rfl] at eY hne hee
  generalize ByteArray.mk (M.four (M.need (M.more 0 s.data.toList) t)).toArray = z at *
  generalize ByteArray.mk (M.four (M.need (M.more 0 s.data.toList) o)).toArray = y at *
  have cM := fun v => more_any _ y v lS (by omega)
  have cA := fun v => sum_any (s ++ z) v (by simp; omega)
  rw [eY] at cM
  rw [app_data, ← M.more_more, eZ] at cA
  generalize M.more 0 s.data.toList = S at *
  clear eZ eY
  have CS := hid cS; have CZ := hid cZ; have CY := hid cY; have CM := hid cM; have CA := hid cA
  clear cS cZ cY cM cA
  by_cases hto : t = o
  · have hzy := bytes_inj (hee hto)
    clear hne hee
    subst hto
    subst hzy
    have hq : (z.toList == z.toList) = true := by simp
    go_enter Try.func4, Try.ntmps4
    go_wp2_with fail
    refine (awake_any w).mono ?_
    rintro e w1 ⟨rfl, hb1⟩
    go_wp2_with fail
    refine (CS.out w1).mono ?_
    rintro e w2 ⟨rfl, k2⟩
    have hb2 := bel_bel hb1 k2 hb1.size
    clear k2 hb1
    go_wp2_with fail
    refine (CZ.out w2).mono ?_
    rintro e w3 ⟨rfl, k3⟩
    have hb3 := bel_bel hb2 k3 hb2.size
    clear k3 hb2
    go_wp2_with fail
    refine (CS.out w3).mono ?_
    rintro e w4 ⟨rfl, k4⟩
    have hb4 := bel_bel hb3 k4 hb3.size
    clear k4 hb3
    go_wp2_with fail
    refine (CY.out w4).mono ?_
    rintro e w5 ⟨rfl, k5⟩
    have hb5 := bel_bel hb4 k5 hb4.size
    clear k5 hb4
    go_wp2_with fail
    refine (CA.out w5).mono ?_
    rintro e w6 ⟨rfl, k6⟩
    have hb6 := bel_bel hb5 k6 hb5.size
    clear k6 hb5
    go_wp2_with fail
    refine (CS.out w6).mono ?_
    rintro e w7 ⟨rfl, k7⟩
    have hb7 := bel_bel hb6 k7 hb6.size
    clear k7 hb6
    go_wp2_with fail
    refine (CM.out w7).mono ?_
    rintro e w8 ⟨rfl, k8⟩
    have hb8 := bel_bel hb7 k8 hb7.size
    clear k8 hb7
    go_wp2_with fail
    go_ret
    exact ⟨rfl, hb8⟩
  · have hzy : (z.toList == y.toList) = false := by
      rw [beq_eq_false_iff_ne, ByteArray.toList_eq, ByteArray.toList_eq]; exact hne hto
    clear hne hee
    have hq : ((t : Int) == (o : Int)) = false := by rw [beq_eq_false_iff_ne]; omega
    go_enter Try.func4, Try.ntmps4
    go_wp2_with fail
    refine (awake_any w).mono ?_
    rintro e w1 ⟨rfl, hb1⟩
    go_wp2_with fail
    refine (CS.out w1).mono ?_
    rintro e w2 ⟨rfl, k2⟩
    have hb2 := bel_bel hb1 k2 hb1.size
    clear k2 hb1
    go_wp2_with fail
    refine (CZ.out w2).mono ?_
    rintro e w3 ⟨rfl, k3⟩
    have hb3 := bel_bel hb2 k3 hb2.size
    clear k3 hb2
    go_wp2_with fail
    refine (CS.out w3).mono ?_
    rintro e w4 ⟨rfl, k4⟩
    have hb4 := bel_bel hb3 k4 hb3.size
    clear k4 hb3
    go_wp2_with fail
    refine (CY.out w4).mono ?_
    rintro e w5 ⟨rfl, k5⟩
    have hb5 := bel_bel hb4 k5 hb4.size
    clear k5 hb4
    go_wp2_with fail
    refine (CA.out w5).mono ?_
    rintro e w6 ⟨rfl, k6⟩
    have hb6 := bel_bel hb5 k6 hb5.size
    clear k6 hb5
    go_wp2_with fail
    refine (CS.out w6).mono ?_
    rintro e w7 ⟨rfl, k7⟩
    have hb7 := bel_bel hb6 k7 hb6.size
    clear k7 hb6
    go_wp2_with fail
    refine (CM.out w7).mono ?_
    rintro e w8 ⟨rfl, k8⟩
    have hb8 := bel_bel hb7 k8 hb7.size
    clear k8 hb7
    go_wp2_with fail
    go_ret
    exact ⟨rfl, hb8⟩
theorem forges_walkZ (s : ByteArray) (t o : Int) (w : World) (hs : s.size ≤ 4611686018427387904) (h1 : 0 ≤ t) (h2 : t ≤ 4294967295) (h3 : 0 ≤ o) (h4 : o ≤ 4294967295) :
    Calls Try.prog 4 #[.string s, .int .u32 t, .int .u32 o] w fun e w' => e = .returned (.bool true) ∧ Below w.heap.size w w' := by
  obtain ⟨T, rfl⟩ := Int.eq_ofNat_of_zero_le h1
  obtain ⟨O, rfl⟩ := Int.eq_ofNat_of_zero_le h3
  exact forges_walk s T O w hs (by omega) (by omega)
end Go.Proofs.Ytohpjbhjcgihkab
