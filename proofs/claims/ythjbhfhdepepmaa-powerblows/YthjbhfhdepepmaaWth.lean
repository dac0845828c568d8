/- The program's looseOf and within. -/
import Derived.Test.YthjbhfhdepepmaaLfm
import Derived.Test.YthjbhfhdepepmaaRov
import Derived.Lib.MinMaxS
namespace Go.Proofs.Ythjbhfhdepepmaa
open Go.RowKit
theorem bel_drewN' (w : World) (k : Nat) : Below w.heap.size w (w.drewN k) := ((Ch.refl (fun _ => False) w).drewN k).below (Nat.le_refl _) (fun _ _ e => e)
set_option maxHeartbeats 1000000 in
set_option maxRecDepth 20000 in
theorem loose_any (n s : Nat) (nm : ByteArray) (kp : Int) (v : Value) (w : World) :
    Calls Try.prog 40 #[.int .i64 n, .int .i64 s, .agg #[.string nm, .int .i64 kp, v]] w fun e w' => e = .returned (.agg #[.int .i64 s, .int .i64 (kpt n s kp)]) ∧ Below w.heap.size w w' := by
  have e0 : ((kpt n s kp : Nat) : Int) = min (max kp s) n := by unfold kpt; omega
  rw [e0]
  go_enter Try.func40, Try.ntmps40
  go_wp2
  refine bodyPost_ret (v := .agg #[.int .i64 s, .int .i64 (min (max kp s) n)]) (by simp [results, Try.results40, go_sem]) rfl ⟨rfl, ((Below.refl _ w).alloc (Nat.le_refl _) _).alloc (by simp) _⟩
set_option maxHeartbeats 1000000 in
set_option maxRecDepth 20000 in
theorem within_any (fr to : Nat) (a : Int) (D : ByteArray) (w : World) (h1 : fr ≤ to) (h2 : to ≤ 140737488355328) (h3 : -9223372036854775808 ≤ a) (h4 : D.size ≤ 140737488355328) :
    Calls Try.prog 41 #[.agg #[.int .i64 fr, .int .i64 to], .agg #[.int .i64 a, .string D]] w fun e w' => e = .returned (.tuple #[.int .i64 (wn fr to a D.data.toList).1, .string (ba (wn fr to a D.data.toList).2)]) ∧ Below w.heap.size w w' := by
  have hsl : D.data.toList.length = D.size := Array.length_toList
  unfold wn
  rw [hsl]
  by_cases c1 : (to : Int) ≤ a
  · rw [if_pos c1]
    have d1 : decide ((to : Int) ≤ a) = true := by simpa using c1
    go_enter Try.func41, Try.ntmps41
    go_wp2
    go_ret2
    exact ⟨rfl, ((Below.refl _ w).alloc (Nat.le_refl _) _).alloc (by simp) _⟩
  · rw [if_neg c1]
    have d1 : decide ((to : Int) ≤ a) = false := by simpa using c1
    have ws : wrap64 (a + (D.size : Int)) = a + D.size := by unfold wrap64; omega
    by_cases c2 : min (a + (D.size : Int)) to ≤ fr
    · rw [if_pos c2]
      have d2 : decide (min (a + (D.size : Int)) to ≤ fr) = true := by simpa using c2
      go_enter Try.func41, Try.ntmps41
      go_wp2
      all_goals first | (exfalso; omega) | skip
      go_ret2
      exact ⟨rfl, ((Below.refl _ w).alloc (Nat.le_refl _) _).alloc (by simp) _⟩
    · rw [if_neg c2]
      have d2 : decide (min (a + (D.size : Int)) to ≤ fr) = false := by simpa using c2
      obtain ⟨lo, hlo⟩ : ∃ lo : Nat, (lo : Int) = max a fr - a := ⟨(max a fr - a).toNat, by omega⟩
      obtain ⟨hi, hhi⟩ : ∃ hi : Nat, (hi : Int) = min (a + (D.size : Int)) to - a := ⟨(min (a + (D.size : Int)) to - a).toNat, by omega⟩
      obtain ⟨at', hat⟩ : ∃ at' : Nat, (at' : Int) = max a fr := ⟨(max a fr).toNat, by omega⟩
      have hX : ba ((D.data.toList.drop (max a fr - a).toNat).take (min (a + (D.size : Int)) to - max a fr).toNat) = D.extract lo hi := by
        conv => rhs; rw [← ba_of' D]
        rw [ba_ext]
        congr 1
        rw [show (max a (fr : Int) - a).toNat = lo from by omega, show (min (a + (D.size : Int)) to - max a fr).toNat = hi - lo from by omega]
      show Calls _ _ _ _ (fun e w' => e = .returned (.tuple #[.int .i64 ((max a fr).toNat : Nat), .string (ba ((D.data.toList.drop (max a fr - a).toNat).take (min (a + (D.size : Int)) to - max a fr).toNat))]) ∧ _)
      rw [hX, show (max a (fr : Int)).toNat = at' from by omega]
      have m1 : max a (fr : Int) = at' := hat.symm
      obtain ⟨M, hM⟩ : ∃ M : Int, M = min (a + (D.size : Int)) to := ⟨_, rfl⟩
      have w1 : wrap64 ((at' : Int) - a) = (lo : Int) := by unfold wrap64; omega
      have w2 : wrap64 (M - a) = (hi : Int) := by unfold wrap64; omega
      have i1 : (lo : Int) ≤ hi := by omega
      have i2 : (hi : Int) ≤ D.size := by omega
      have hM' := hM.symm
      rw [hM'] at d2 c2
      have EE := hid' (And.intro (show lo = ((at' : Int) - a).toNat from by omega) (show hi = (M - a).toNat from by omega))
      clear hX hlo hhi hat hM
      go_enter Try.func41, Try.ntmps41
      go_wp2
      go_quiet (fail)
      go_wp2
      go_ret2
      exact ⟨by rw [EE.out.1, EE.out.2]; rfl, (((Below.refl _ w).alloc (Nat.le_refl _) _).alloc (by simp) _).trans ((bel_drewN' _ _).mono (by simp; omega))⟩
end Go.Proofs.Ythjbhfhdepepmaa
