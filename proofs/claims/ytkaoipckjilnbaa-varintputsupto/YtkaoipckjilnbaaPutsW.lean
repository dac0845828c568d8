/- The walk of VarintPuts: it answers true at every two lists of numbers that are not too long; nothing that was there before is turned. -/
import Derived.Test.YtkaoipckjilnbaaPutsL
import Derived.Deep.RegionHeld3
namespace Go.Proofs.Ytkaoipckjilnbaa
open Go.RowKit
theorem Try.info2 : (Try.prog.info? 2).map (fun i => (i.zero, i.size, i.bytes)) = some (some (.int .i64 0), 1, 8) := by kernel_rfl
theorem Try.under27 : Try.prog.underlying 27 = some (.slice 2) := by kernel_rfl
theorem slice_at (b off len cap j : Nat) (x : World) (hj : j < len) (hc : len ≤ cap) (_hm : cap ≤ 9223372036854775807) :
    (Instr.slice 26 (.slice (some ⟨b, off, none⟩) len cap) (some (.int .i64 (j : Int))) (some (.int .i64 ((j : Int) + 1))) none).run Try.prog x = .ok (.slice (some ⟨b, off + j, none⟩) 1 (cap - j)) x := by
  have hu := Try.under26
  go_simp
  rw [if_pos ⟨by omega, by omega⟩, if_neg (by omega)]
theorem wrap_in {n : Int} (h1 : -9223372036854775808 ≤ n) (h2 : n ≤ 9223372036854775807) : IntKind.i64.wrap n = n := by
  simp only [IntKind.wrap, IntKind.bits, IntKind.signed, Bool.true_and]; split <;> rename_i h <;> simp at h <;> omega
theorem held_of {w x : World} {b o : Nat} {v : Value} (hc : b < w.heap.size ∧ w.cell? ⟨b, o, none⟩ = some v) (hb : Below w.heap.size w x) : x.cell? ⟨b, o, none⟩ = some v ∧ Below w.heap.size w x := ⟨(hb.cell (p := ⟨b, o, none⟩) hc.1).trans hc.2, hb⟩
set_option maxHeartbeats 2000000 in
set_option maxRecDepth 20000 in
theorem puts_walk (a0 : Option Addr) (cap0 : Nat) (zs : List Int) (a1 : Option Addr) (cap1 : Nat) (ys : List Int) (w : World) (hz : ∀ z ∈ zs, 0 ≤ z ∧ z ≤ 18446744073709551615) (hy : ∀ z ∈ ys, -9223372036854775808 ≤ z ∧ z ≤ 9223372036854775807)
    (hl0 : zs.length ≤ 1048576) (hl1 : ys.length ≤ 1048576) (hT0 : (forms zs).length ≤ 10485760) (hT1 : (forms (zzs ys)).length ≤ 10485760) (V0 : Vals .u64 w a0 zs) (V1 : Vals .i64 w a1 ys) (n0 : a0 = none → cap0 = 0) (n1 : a1 = none → cap1 = 0) (hcap0 : zs.length ≤ cap0) (hcm0 : cap0 ≤ 9223372036854775807) :
    Calls Try.prog 4 #[.slice a0 zs.length cap0, .slice a1 ys.length cap1] w fun e w' => e = .returned (.bool true) ∧ Below w.heap.size w w' := by
  obtain ⟨i0, hi, hz0, hz1, hz2⟩ := info_parts Try.info29
  obtain ⟨j0, gi, gz0, gz1, gz2⟩ := info_parts Try.info2
  have H0 : Hid (Vals .u64 w a0 zs) := V0
  have H1 : Hid (Vals .i64 w a1 ys) := V1
  have HZ : Hid (∀ z ∈ zs, 0 ≤ z ∧ z ≤ 18446744073709551615) := hz
  have HY : Hid (∀ z ∈ ys, -9223372036854775808 ≤ z ∧ z ≤ 9223372036854775807) := hy
  have M0 : Hid (a0 = none → cap0 = 0) := n0
  have M1 : Hid (a1 = none → cap1 = 0) := n1
  have hB := Below.refl w.heap.size w
  clear V0 V1 hz hy n0 n1
  go_enter Try.func4, Try.ntmps4
  go_wp2_with (first | (go_at_call 9; refine (fixedS w _ (by assumption)).mono ?_; rintro e w' ⟨rfl, hbel⟩) | (at_builtin; refine wpList_copy_vals (by rfl) _ _ 26 rfl 29 i0 (.int .u64 0) 8 .u64 Try.under26 hi hz0 hz1 hz2 rfl _ rfl (heap_alloc_new _ _) w (Below.alloc (by assumption) (Below.size (by assumption)) _) (Below.size (by assumption)) a0 zs cap0 rfl H0.out M0.out (by unfold maxLen; omega) (by omega) ?_; intro a' c' w' V' hbel) | (at_builtin; refine wpList_copy_vals (by rfl) _ _ 27 rfl 2 j0 (.int .i64 0) 8 .i64 Try.under27 gi gz0 gz1 gz2 rfl _ rfl (heap_alloc_new _ _) w (Below.alloc (by assumption) (Below.size (by assumption)) _) (Below.size (by assumption)) a1 ys cap1 rfl H1.out M1.out (by unfold maxLen; omega) (by omega) ?_; intro a' c' w' V' hbel) | (go_at_call 12; refine (putS _ _ zs w _ HZ.out (by omega) (by omega) (by assumption) (by assumption)).mono ?_; rintro e w' ⟨rfl, hbel⟩) | (go_at_call 13; refine (rputS _ _ zs w _ HZ.out (by omega) (by omega) H0.out (by assumption)).mono ?_; rintro e w' ⟨rfl, hbel⟩) | (go_at_call 14; refine (sputS _ _ ys w _ HY.out (by omega) (by omega) (by assumption) (by assumption)).mono ?_; rintro e w' ⟨rfl, hbel⟩) | (go_at_call 15; refine (rsputS _ _ ys w _ HY.out (by omega) (by omega) H1.out (by assumption)).mono ?_; rintro e w' ⟨rfl, hbel⟩) | (go_at_call 16; refine (put8S w _ (by assumption)).mono ?_; rintro e w' ⟨rfl, hbel⟩))
  rename_i hbel
  go_loopw [5] (fun i wr => ∃ j : Nat, j ≤ zs.length ∧ i = .int .i64 j ∧ Hid (Below w.heap.size w wr)) (fun i _ => zs.length - (intOf i).toNat)
  case atStart => exact ⟨0, by omega, rfl, by assumption⟩
  case round =>
    obtain ⟨j, hj, rfl, hbr⟩ := hrel
    by_cases hlt : j < zs.length
    · rcases H0.out with rfl | ⟨b, off, rfl, hb, hc⟩
      · simp at hlt
      · have hcz := hc j hlt
        have hwr := hbr.out
        have hcell := (hwr.cell (p := ⟨b, off + j, none⟩) hb).trans hcz
        obtain ⟨hz1', hz2'⟩ := HZ.out _ (getD_mem hlt)
        generalize zs.getD j 0 = z at hcz hcell hz1' hz2'
        have HC : Hid (b < w.heap.size ∧ w.cell? ⟨b, off + j, none⟩ = some (.int .u64 z)) := ⟨hb, hcz⟩
        have hk1 : (j : Int) + 1 ≤ (cap0 : Int) := by omega
        have hk2 : (cap0 : Int) ≤ 9223372036854775807 := by omega
        have hk0 : (0 : Int) ≤ (j : Int) + 1 := by omega
        have hk4 : ¬ cap0 = j := by omega
        have hsl := fun x => slice_at b off zs.length cap0 j x hlt hcap0 hcm0
        have hw1 := wrap_in (n := (j : Int) + 1) (by omega) (by omega)
        clear hc hcz
        go_wp2
        go_region_held3 (fun x => x.cell? ⟨b, off + j, none⟩ = some (.int .u64 z) ∧ Below w.heap.size w x) (first | exact held_of HC.out (by assumption) | exact held_of HC.out (Below.drew (by assumption)) | exact held_of HC.out (Below.alloc (by assumption) (Below.size (by assumption)) _)) (first | (go_at_call 17; refine (size_any _ _ ?_ ?_).mono ?_; omega; omega; rintro e w' ⟨rfl, rfl⟩) | (go_at_call 18; refine (rsize_any _ w _ ?_ ?_ ?_).mono ?_; omega; omega; first | assumption | exact Below.drew (by assumption); rintro e w' ⟨rfl, hbel⟩) | (go_at_call 19; refine (uz_any _ _ ?_ ?_).mono ?_; omega; omega; rintro e w' ⟨rfl, rfl⟩) | (go_at_call 20; refine (ruz_any _ _ ?_ ?_).mono ?_; omega; omega; rintro e w' ⟨rfl, rfl⟩) | (go_at_call 12; refine (put1 _ w _ ?_ ?_ ?_).mono ?_; omega; omega; assumption; rintro e w' ⟨rfl, hbel⟩) | (go_at_call 13; refine (rputAt b (off + j) _ z w _ ?_ ?_ ?_ ?_ ?_).mono ?_; omega; omega; assumption; exact HC.out.1; exact HC.out.2; rintro e w' ⟨rfl, hbel⟩))
        go_wp2
        go_roundw
        case rel => exact ⟨j + 1, by omega, by go_num, by assumption⟩
        case measure => simp [intOf]; omega
    · clear H0 HZ M0
      go_wp2
      go_loopw [6] (fun i wr => ∃ q : Nat, q ≤ ys.length ∧ i = .int .i64 q ∧ Hid (Below w.heap.size w wr)) (fun i _ => ys.length - (intOf i).toNat)
      case atStart => exact ⟨0, by omega, rfl, hbr⟩
      case round =>
        obtain ⟨q, hq, rfl, hbq⟩ := hrel
        by_cases hlq : q < ys.length
        · rcases H1.out with rfl | ⟨b, off, rfl, hb, hc⟩
          · simp at hlq
          · have hbel := hbq.out
            have hcy := hc q hlq
            obtain ⟨hy1', hy2'⟩ := HY.out _ (getD_mem hlq)
            generalize ys.getD q 0 = y at hcy hy1' hy2'
            have HCY : Hid (w.cell? ⟨b, off + q, none⟩ = some (.int .i64 y)) := hcy
            have hcell := (hbel.cell (p := ⟨b, off + q, none⟩) hb).trans hcy
            obtain ⟨hx1, hx2⟩ := M.zz_bd hy1' hy2'
            clear hc hcy H1 HY M1
            go_wp2_with (first | (go_at_call 21; refine (rzz_any _ _ (by omega) (by omega)).mono ?_; rintro e w' ⟨rfl, rfl⟩) | (go_at_call 22; refine (zz_any _ _ (by omega) (by omega)).mono ?_; rintro e w' ⟨rfl, rfl⟩) | (go_at_call 23; refine (ssize_any _ _ (by omega) (by omega)).mono ?_; rintro e w' ⟨rfl, rfl⟩) | (go_at_call 18; refine (rsize_any _ w _ (by omega) (by omega) (by assumption)).mono ?_; rintro e w' ⟨rfl, hbel⟩; have hcell' := (hbel.cell (p := ⟨b, off + q, none⟩) hb).trans HCY.out) | (go_at_call 14; refine (sput1 _ w _ (by omega) (by omega) (by assumption)).mono ?_; rintro e w' ⟨rfl, hbel⟩) | (go_at_call 13; refine (rput1 _ w _ (by omega) (by omega) (by assumption)).mono ?_; rintro e w' ⟨rfl, hbel⟩))
            go_roundw
            case rel => exact ⟨q + 1, by omega, by go_num, by assumption⟩
            case measure => simp [intOf]; omega
        · clear H1 HY M1
          go_wp2
          go_ret
          exact ⟨rfl, hbq.out⟩
end Go.Proofs.Ytkaoipckjilnbaa
