/- The walk of VarintBacks: it answers true at all numbers and all texts; nothing that was there before is turned. -/
import Derived.Test.YtkaoipckjilnbaaOnes
import Derived.Deep.RegionHeld
namespace Go.Proofs.Ytkaoipckjilnbaa
open Go.RowKit
theorem bl_bs {l : List Nat} (h : ∀ b ∈ l, b < 256) : bl (bs l) = l := by
  unfold bl bs
  simp only [List.map_map]
  conv => rhs; rw [← List.map_id l]
  apply List.map_congr_left
  intro b hb
  have := h b hb
  simp; omega
theorem bl_app (s t : ByteArray) : bl (s ++ t) = bl s ++ bl t := by simp [bl]
theorem bs_bl (s : ByteArray) : bs (bl s) = s := by
  unfold bl bs
  simp only [List.map_map]
  have : (UInt8.ofNat ∘ UInt8.toNat) = id := by funext x; simp
  rw [this, List.map_id]
theorem bl_ext (s : ByteArray) (k : Nat) : bl (s.extract 0 k) = (bl s).take k := by
  unfold bl
  rw [ByteArray.data_extract, ← List.map_take]
  congr 1
  simp
theorem app_size (s t : ByteArray) : (s ++ t).size = s.size + t.size := ByteArray.size_append
theorem rm_back {u : Int} {S : ByteArray} (s : ByteArray) (h1 : 0 ≤ u) (h2 : u ≤ 18446744073709551615) (hS : bs (M.form u.toNat) = S) : rm (S ++ s) 18446744073709551615 = (u, (S.size : Int), (0 : Int)) := by
  have e : bl (S ++ s) = M.form u.toNat ++ bl s := by rw [bl_app, ← hS, bl_bs (M.form_byte (by omega))]
  have r := M.rd_back (v := u.toNat) (by omega) (bl s)
  rw [← e] at r
  have r1 : rdv (S ++ s) = u.toNat := by unfold rdv; rw [r]
  have r2 : rdn (S ++ s) = S.size := by unfold rdn; rw [r, ← hS, bs_size]
  have r3 : rde (S ++ s) = 0 := by unfold rde; rw [r]
  rw [rm_ok r3 (by rw [r1]; omega), r1, r2]
  simp; omega
theorem rs_back {v : Int} {T : ByteArray} (s : ByteArray) (h1 : -9223372036854775808 ≤ v) (h2 : v ≤ 9223372036854775807) (hT : bs (M.form (M.zz v).toNat) = T) : rs (T ++ s) (-9223372036854775808) 9223372036854775807 = (v, (T.size : Int), (0 : Int)) := by
  have hz := M.zz_bd h1 h2
  have e : bl (T ++ s) = M.form (M.zz v).toNat ++ bl s := by rw [bl_app, ← hT, bl_bs (M.form_byte (by omega))]
  have r := M.rd_back (v := (M.zz v).toNat) (by omega) (bl s)
  rw [← e] at r
  have r1 : ((rdv (T ++ s) : Nat) : Int) = M.zz v := by unfold rdv; rw [r]; simp; omega
  have r2 : rdn (T ++ s) = T.size := by unfold rdn; rw [r, ← hT, bs_size]
  have r3 : rde (T ++ s) = 0 := by unfold rde; rw [r]
  have r4 : M.uz (rdv (T ++ s) : Nat) = v := by rw [r1, M.uz_zz]
  rw [rs_ok r3 (by rw [r4]; exact ⟨h1, h2⟩), r4, r2]
theorem rm_cut {u : Int} {S : ByteArray} (h1 : 0 ≤ u) (h2 : u ≤ 18446744073709551615) (hS : bs (M.form u.toNat) = S) {k : Nat} (hk : k < S.size) : rm (S.extract 0 k) 18446744073709551615 = (0, 0, 20) := by
  have e : bl (S.extract 0 k) = (M.form u.toNat).take k := by rw [bl_ext, ← hS, bl_bs (M.form_byte (by omega))]
  have r := M.rd_short (v := u.toNat) (k := k) (by omega) (by rw [← bs_size, hS]; exact hk)
  rw [← e] at r
  have r3 : rde (S.extract 0 k) = 20 := by unfold rde; rw [r]
  rw [rm_bad (by rw [r3]; decide), r3]; rfl
theorem rm_fwd {s : ByteArray} (h : rde s = 0) : bs (M.form (rdv s)) = s.extract 0 (rdn s) ∧ 1 ≤ rdn s := by
  obtain ⟨t, e1, e2, e3⟩ := M.rd_fwd (bl_byte s) h
  have e4 : bl (s.extract 0 (rdn s)) = M.form (rdv s) := by
    rw [bl_ext, e1]
    unfold rdn
    rw [e3]
    simp [rdv]
  refine ⟨by rw [← e4, bs_bl], ?_⟩
  unfold rdn
  rw [e3]
  exact M.form_pos _
theorem size_S {u : Nat} {S : ByteArray} (hS : bs (M.form u) = S) : S.size ≤ 10 ∧ M.size u = S.size := by
  rw [← hS, bs_size]; exact ⟨M.form_le u, rfl⟩
theorem put1d (z : Int) (w0 w : World) (h0 : 0 ≤ z) (h1 : z ≤ 18446744073709551615) (hb : Below w0.heap.size w0 w) :
    Calls Try.prog 12 #[.slice (some ⟨w.heap.size, 0, none⟩) 1 1] (w.alloc (.cells #[.int .u64 z] 29)).drew fun e w' => e = .returned (.string (bs (M.form z.toNat))) ∧ Below w0.heap.size w0 w' := put1 z w0 w.drew h0 h1 hb.drew
set_option maxHeartbeats 4000000 in
set_option maxRecDepth 20000 in
theorem backs_walk (u v : Int) (s : ByteArray) (w : World) (hu1 : 0 ≤ u) (hu2 : u ≤ 18446744073709551615) (hv1 : -9223372036854775808 ≤ v) (hv2 : v ≤ 9223372036854775807) (hs : s.size ≤ 9223372036854775700) :
    Calls Try.prog 7 #[.int .u64 u, .int .i64 v, .string s] w fun e w' => e = .returned (.bool true) ∧ Below w.heap.size w w' := by
  generalize hS : bs (M.form u.toNat) = S
  generalize hT : bs (M.form (M.zz v).toNat) = T
  obtain ⟨s1, s2⟩ := size_S hS
  obtain ⟨t1, t2⟩ := size_S hT
  have r1 := rm_back s hu1 hu2 hS
  have r2 := rs_back s hv1 hv2 hT
  have HC : Hid (∀ k, k < S.size → rm (S.extract 0 k) 18446744073709551615 = (0, 0, 20)) := fun k hk => rm_cut hu1 hu2 hS hk
  go_enter Try.func7, Try.ntmps7
  go_wp2_with (first | (go_at_call 9; refine (fixed_any _).mono ?_; rintro e w' ⟨rfl, hbel⟩) | (go_at_call 12; refine (put1 _ w _ (by omega) (by omega) (by assumption)).mono ?_; rintro e w' ⟨rfl, hbel⟩) | (go_at_call 14; refine (sput1 _ w _ (by omega) (by omega) (by assumption)).mono ?_; rintro e w' ⟨rfl, hbel⟩) | (go_at_call 17; refine (size_any _ _ (by omega) (by omega)).mono ?_; rintro e w' ⟨rfl, rfl⟩) | (go_at_call 23; refine (ssize_any _ _ (by omega) (by omega)).mono ?_; rintro e w' ⟨rfl, rfl⟩) | (go_at_call 36; refine (read_any _ _ (by rw [app_size]; omega)).mono ?_; rintro e w' ⟨rfl, rfl⟩) | (go_at_call 37; refine (sread_any _ _ (by rw [app_size]; omega)).mono ?_; rintro e w' ⟨rfl, rfl⟩))
  clear r1 r2 t1 t2 hT
  go_loop [15] (fun i => ∃ k : Nat, k ≤ S.size ∧ i = .int .i64 k) (fun i => S.size - (intOf i).toNat)
  case atStart => exact ⟨0, by omega, rfl⟩
  case round =>
    obtain ⟨k, hk, rfl⟩ := hrel
    by_cases hlt : k < S.size
    · have r3 := HC.out k hlt
      have hsz : (S.extract 0 k).size ≤ 9223372036854775807 := by rw [ByteArray.size_extract]; omega
      go_wp2_with (go_at_call 36; refine (read_any _ _ hsz).mono ?_; rintro e w' ⟨rfl, rfl⟩)
      go_round
      case rel => exact ⟨k + 1, by omega, by go_num⟩
      case measure => simp [intOf]; omega
    · by_cases he : rde s = 0
      · obtain ⟨b1, b2, b3⟩ := rd_bds s
        have r4 := rm_ok (m := 18446744073709551615) he (by omega)
        obtain ⟨f1, f2⟩ := rm_fwd he
        go_wp2_with (go_at_call 36; refine (read_any _ _ (by omega)).mono ?_; rintro e w' ⟨rfl, rfl⟩)
        clear HC s1 s2 hlt hk hu1 hu2 hv1 hv2 r4
        have g1 : (1 : Int) ≤ (rdn s : Int) := by omega
        have g2 : (rdn s : Int) ≤ 10 := by omega
        go_region_held (fun _ => True) (trivial) ((go_at_call 12; refine (put1d _ w _ ?_ ?_ ?_).mono ?_; omega; omega; assumption; rintro e w' ⟨rfl, hbel⟩))
        go_wp2
        go_ret
        exact ⟨rfl, by assumption⟩
      · have r4 := rm_bad (m := 18446744073709551615) he
        go_wp2_with (go_at_call 36; refine (read_any _ _ (by omega)).mono ?_; rintro e w' ⟨rfl, rfl⟩)
        go_ret
        exact ⟨rfl, by assumption⟩
end Go.Proofs.Ytkaoipckjilnbaa
