/- RecordBack's walk: what is written is read again, whatever stands behind it; by another number, or of fewer bytes, it isn't. -/
import Derived.Test.YtoohmbkgdmmghaaSam5
import Derived.Test.YtoohmbkgdmmghaaSpl5
namespace Go.Proofs.Ytoohmbkgdmmghaa
open Go.RowKit
def cln (r : Rec) : Rec := ⟨r.t, r.kh, bd r.kh r.kd, r.vh, bd r.vh r.vd, r.hs.map fun x => (x.1, x.2.1, bd x.2.1 x.2.2)⟩
theorem ol_bd (h : Bool) (d : ByteArray) : ol h (bd h d) = ol h d := by cases h <;> rfl
theorem bd_bd (h : Bool) (d : ByteArray) : bd h (bd h d) = bd h d := by cases h <;> rfl
theorem cl_bd (h : Bool) (d : ByteArray) : Cl h (bd h d) := fun e => by subst e; rfl
theorem hl_cln (hs : List Hdr) : hl (hs.map fun x => (x.1, x.2.1, bd x.2.1 x.2.2)) = hl hs := by
  induction hs with
  | nil => rfl
  | cons x l ih => rw [List.map_cons, hl_cons, hl_cons, ih, ol_bd]
theorem own_cln (d : Int) (n : Nat) (r : Rec) : own d n (cln r) = own d n r := by
  unfold own cln
  rw [ol_bd, ol_bd, hl_cln, List.length_map]
theorem fm_cln (d : Int) (n : Nat) (r : Rec) : fm d n (cln r) = fm d n r := by unfold fm; rw [own_cln]
theorem bl_app (s t : ByteArray) : bl (s ++ t) = bl s ++ bl t := by
  unfold bl
  have : (s ++ t).data.toList = s.data.toList ++ t.data.toList := by rw [ByteArray.data_append, Array.toList_append]
  rw [this, List.map_append]
theorem form_inj {v v' : Nat} {t t' : List Nat} (h : v < 18446744073709551616) (h' : v' < 18446744073709551616) (e : M.form v ++ t = M.form v' ++ t') : v = v' ∧ t = t' := by
  have a := M.rd_back h t
  have b := M.rd_back h' t'
  rw [e, b] at a
  injection a with a _
  subst a
  exact ⟨rfl, List.append_cancel_left e⟩
theorem own_num {d d' : Int} {n n' : Nat} {x y : Rec} (hd : I64 d) (hd' : I64 d') (hn : n < 65537) (hn' : n' < 65537) (e : own d n x = own d' n' y) : n = n' := by
  have z := M.zz_bd hd.1 hd.2
  have z' := M.zz_bd hd'.1 hd'.2
  unfold own at e
  have e1 := List.append_cancel_left e
  have e2 := (form_inj (by omega) (by omega) e1).2
  exact (form_inj (by omega) (by omega) e2).1
/-- What is read of the form. -/
theorem back_read {r : Rec} {first : Int} {N : Nat} {S more : ByteArray} (hN : N < 65536) (ht : I64 r.t) (hz : sze r first N = 0) (hS : bl S = fm (r.t - first) N r) (hm : more.size ≤ 1048576) : nxt (S ++ more) 0 first N = .ok (cln r, S.size) := by
  obtain ⟨_, hi, hh, hl'⟩ := sze_ok hz
  rw [Int.toNat_natCast] at hl'
  have hsz : S.size = (fm (r.t - first) N r).length := by rw [← hS, bl_len]
  have hz2 : (S ++ more).size = S.size + more.size := by rw [ByteArray.size_append]
  refine (nxt_iff (by omega) (Nat.zero_le _) (by omega)).2 ?_
  have ec : (cln r).t = r.t := rfl
  rw [ec, fm_cln, Nat.zero_add]
  refine ⟨stands_of (r := bl more) (Nat.zero_le _) (by rw [List.drop_zero, bl_app, hS]), hsz, ⟨ht, hi, cl_bd _ _, cl_bd _ _, by show (List.map _ _).length ≤ 1024; rw [List.length_map]; exact hh, ?_⟩, hl'⟩
  intro x hx
  simp only [cln, List.mem_map] at hx
  obtain ⟨y, _, rfl⟩ := hx
  exact cl_bd _ _
theorem back_num {r : Rec} {first : Int} {N : Nat} {S : ByteArray} (hN : N < 65536) (hz : sze r first N = 0) (hS : bl S = fm (r.t - first) N r) : ∃ x, rd5 S first ((N : Int) + 1) = .error x := by
  obtain ⟨_, hi, hh, hl'⟩ := sze_ok hz
  rw [Int.toNat_natCast] at hl'
  have hsz : S.size = (fm (r.t - first) N r).length := by rw [← hS, bl_len]
  cases hx : rd5 S first ((N : Int) + 1) with
  | error x => exact ⟨x, rfl⟩
  | ok y =>
    exfalso
    unfold rd5 at hx
    split at hx
    · cases hx
    · rename_i hb
      have e1 : ((N : Int) + 1).toNat = N + 1 := by omega
      rw [e1] at hx
      obtain ⟨h1, h2, h3, h4⟩ := (nxt_iff (by omega) (Nat.zero_le _) (by omega)).1 hx
      obtain ⟨T, h5⟩ : ∃ T, fm (r.t - first) N r = fm (y.1.t - first) (N + 1) y.1 ++ T := ⟨_, by rw [← hS]; have := stands_drop h1; rw [List.drop_zero] at this; exact this⟩
      have hL := h4
      unfold fm at hL hl' h5
      rw [List.append_assoc] at h5
      rw [List.length_append] at hL hl'
      obtain ⟨e2, e3⟩ := form_inj (by omega) (by omega) h5
      have hT : T.length = 0 := by have := congrArg List.length e3; rw [List.length_append] at this; omega
      rw [List.eq_nil_of_length_eq_zero hT, List.append_nil] at e3
      have := own_num hi h3.2.1 (by omega) (by omega) e3
      omega
theorem back_cut {r : Rec} {first : Int} {N m : Nat} {S : ByteArray} (hN : N < 65536) (hz : sze r first N = 0) (hS : bl S = fm (r.t - first) N r) (hm : m < S.size) : ∃ x, rd5 (S.extract 0 m) first N = .error x := by
  obtain ⟨_, hi, hh, hl'⟩ := sze_ok hz
  rw [Int.toNat_natCast] at hl'
  have hsz : S.size = (fm (r.t - first) N r).length := by rw [← hS, bl_len]
  have hz2 : (S.extract 0 m).size = m := by rw [ByteArray.size_extract]; omega
  cases hx : rd5 (S.extract 0 m) first N with
  | error x => exact ⟨x, rfl⟩
  | ok y =>
    exfalso
    unfold rd5 at hx
    split at hx
    · cases hx
    · rename_i hb
      rw [Int.toNat_natCast] at hx
      obtain ⟨h1, h2, h3, h4⟩ := (nxt_iff (by omega) (Nat.zero_le _) (by omega)).1 hx
      have hle := h1.1
      have h5 := stands_drop h1
      rw [List.drop_zero, bl_ext, List.drop_zero, Nat.sub_zero] at h5
      have h6 : bl S = (bl S).take m ++ (bl S).drop m := (List.take_append_drop m _).symm
      rw [h5, hS] at h6
      generalize List.drop (0 + (fm (y.1.t - first) N y.1).length) (List.take m (fm (r.t - first) N r)) = T1 at h6
      generalize List.drop m (fm (r.t - first) N r) = T2 at h6
      generalize hT : List.drop _ _ = T3 at h6
      have hL := h4
      have e0 : (fm (y.1.t - first) N y.1).length = (M.form (own (y.1.t - first) N y.1).length).length + (own (y.1.t - first) N y.1).length := by unfold fm; rw [List.length_append]
      have e0' : (fm (r.t - first) N r).length = (M.form (own (r.t - first) N r).length).length + (own (r.t - first) N r).length := by unfold fm; rw [List.length_append]
      unfold fm at h6
      simp only [List.append_assoc] at h6
      obtain ⟨e2, _⟩ := form_inj (by omega) (by omega) h6
      rw [e2] at e0'
      omega
end Go.Proofs.Ytoohmbkgdmmghaa
