/- LzBests' walk: Best at any places and Bound of any numbers are the document's. -/
import Derived.Test.YtdkfenmhfkggdaaFix
import Derived.Test.YtdkfenmhfkggdaaRBest
namespace Go.Proofs.Ytdkfenmhfkggdaa
open Go.RowKit
set_option maxHeartbeats 1000000 in
theorem rbest_any (s : ByteArray) (z : Int) (w : World) (hs : s.size ≤ 9223372036854775000) :
    Calls Try.prog 13 #[.string s, .int .i64 z] w fun e w' => e = .returned (.tuple #[.int .i64 ((bestZ s.data.toList z).1 : Nat), .int .i64 ((bestZ s.data.toList z).2 : Nat)]) ∧ Qt w w' := by
  by_cases h : 0 ≤ z ∧ z < s.size
  · obtain ⟨p, rfl⟩ := Int.eq_ofNat_of_zero_le h.1
    have e : bestZ s.data.toList p = M.best s.data.toList p := by
      unfold bestZ
      rw [if_pos (by rw [len_]; exact h)]
      rfl
    rw [e]
    exact rbest_in s p w hs (by omega)
  · have e : bestZ s.data.toList z = (0, 0) := by
      unfold bestZ
      rw [if_neg (by rw [len_]; exact h)]
    rw [e]
    by_cases h0 : z < 0
    · clear e h
      go_enter Try.func13, Try.ntmps13
      go_wp2_with fail
      go_ret2
      exact ⟨rfl, Qt.refl _⟩
    · have h1 : (s.size : Int) ≤ z := by omega
      clear e h
      go_enter Try.func13, Try.ntmps13
      go_wp2_with fail
      go_ret2
      exact ⟨rfl, Qt.refl _⟩
set_option maxHeartbeats 1000000 in
theorem rbound_any (n : Int) (w : World) : Calls Try.prog 15 #[.int .i64 n] w fun e w' => e = .returned (.int .i64 (bndZ n)) ∧ w' = w := by
  by_cases h0 : n < 0
  · have e : bndZ n = 0 := by unfold bndZ; rw [if_pos h0]
    rw [e]
    clear e
    go_enter Try.func15, Try.ntmps15
    go_wp2_with fail
    go_ret
    exact ⟨rfl, rfl⟩
  · by_cases h1 : 1073741824 < n
    · have e : bndZ n = 1082130432 := by unfold bndZ; rw [if_neg h0, if_pos h1]
      rw [e]
      clear e
      go_enter Try.func15, Try.ntmps15
      go_wp2_with fail
      go_ret
      exact ⟨rfl, rfl⟩
    · have HE : Hid (bndZ n = n + (n + 127) / 128) := by show bndZ n = _; unfold bndZ; rw [if_neg h0, if_neg h1]
      have h0' : (0 : Int) ≤ n := by omega
      have h1' : n ≤ 1073741824 := by omega
      generalize bndZ n = R at *
      go_enter Try.func15, Try.ntmps15
      go_wp2_with fail
      go_ret
      exact ⟨ret_int (by rw [HE.out]), rfl⟩
/-- The numbers of a slice, where they lie. -/
def Vals (k : IntKind) (w : World) (a : Option Addr) (zs : List Int) : Prop := zs = [] ∨ ∃ b off, a = some ⟨b, off, none⟩ ∧ b < w.heap.size ∧ ∀ j, j < zs.length → w.cell? ⟨b, off + j, none⟩ = some (.int k (zs.getD j 0))
theorem getD_mem {zs : List Int} {k : Nat} (h : k < zs.length) : zs.getD k 0 ∈ zs := by
  simp [List.getD_eq_getElem?_getD, h]
set_option maxHeartbeats 4000000 in
set_option maxRecDepth 20000 in
theorem bests_walk (s : ByteArray) (a : Option Addr) (cap : Nat) (zs : List Int) (w : World) (hs : s.size ≤ 9223372036854775000) (hl : zs.length ≤ 9223372036854775807) (hz : ∀ z ∈ zs, -9223372036854775808 ≤ z ∧ z ≤ 9223372036854775807) (V : Vals .i64 w a zs) :
    Calls Try.prog 4 #[.string s, .slice a zs.length cap] w fun e w' => e = .returned (.bool true) ∧ Below w.heap.size w w' := by
  have HV := hid V
  have HZ := hid hz
  clear V hz
  go_enter Try.func4, Try.ntmps4
  go_wp2_with fail
  refine (fixed_any w).mono ?_
  rintro e w1 ⟨rfl, hb1⟩
  go_wp2_with fail
  go_loopg [5, 6, 7, 8, 9] zs.length (fun k u x1 x2 x3 x4 wr => ∃ j : Nat, j + k = zs.length ∧ u = .int .i64 j ∧ Hid (Below w.heap.size w wr))
  case atStart => exact ⟨0, by omega, rfl, hb1⟩
  case round =>
    clear hb1
    obtain ⟨j, hk, rfl, HB⟩ := hrel
    by_cases hlt : j < zs.length
    · obtain ⟨k, rfl⟩ : ∃ k, gk = k + 1 := ⟨gk - 1, by omega⟩
      rcases HV.out with rfl | ⟨b, off, rfl, hbl, hc⟩
      · simp at hlt
      have hcz := hc j hlt
      have hzz := HZ.out _ (getD_mem hlt)
      generalize zs.getD j 0 = z at *
      have kc : wr.cell? ⟨b, off + j, none⟩ = some (.int .i64 z) := (HB.out.cell (p := ⟨b, off + j, none⟩) hbl).trans hcz
      have HC := hid (And.intro hbl hcz)
      have c1 := fun w => best_any s z w (by omega) hzz.1 hzz.2
      have c2 := fun w => rbest_any s z w hs
      have c3 := fun w => bound_any z w
      have c4 := fun w => rbound_any z w
      generalize (bestZ s.data.toList z).1 = N at *
      generalize (bestZ s.data.toList z).2 = D at *
      generalize bndZ z = R at *
      have C1 := hid c1; have C2 := hid c2; have C3 := hid c3; have C4 := hid c4
      clear c1 c2 c3 c4 hc hcz hzz hbl
      go_wp2_with fail
      refine (C1.out _).mono ?_
      rintro e w2 ⟨rfl, hb2⟩
      have HB2 := hid (bel_bel HB.out hb2 HB.out.size)
      have k2 : w2.cell? ⟨b, off + j, none⟩ = some (.int .i64 z) := (HB2.out.cell (p := ⟨b, off + j, none⟩) HC.out.1).trans HC.out.2
      clear hb2 kc HB
      go_wp2_with fail
      refine (C2.out _).mono ?_
      rintro e w3 ⟨rfl, hq3⟩
      have HB3 := hid (below_qt HB2.out hq3)
      have k3 : w3.cell? ⟨b, off + j, none⟩ = some (.int .i64 z) := (HB3.out.cell (p := ⟨b, off + j, none⟩) HC.out.1).trans HC.out.2
      clear hq3 k2 HB2
      have n1 : ((N : Int) != N) = false := by simp
      have n2 : ((D : Int) != D) = false := by simp
      have n3 : (R != R) = false := by simp
      go_wp2_with fail
      go_quiet ((first | (go_at_call 14; exact Calls.quiet_of_same (C3.out _)) | (go_at_call 15; exact Calls.quiet_of_same (C4.out _))))
      go_wp2_with fail
      go_roundg k
      case measure => omega
      case rel => exact ⟨j + 1, by omega, by go_num, below_drewN HB3.out _⟩
    · go_wp2_with fail
      go_ret
      exact ⟨rfl, HB.out⟩
end Go.Proofs.Ytdkfenmhfkggdaa
