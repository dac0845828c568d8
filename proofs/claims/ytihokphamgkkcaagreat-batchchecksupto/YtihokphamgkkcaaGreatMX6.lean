/- Texts of the proof, put together: X6n, X6p, X6b, X6r, X6w. -/
import Derived.Test.YtihokphamgkkcaaGreatMB1
import Derived.Test.YtihokphamgkkcaaGreatMB2
import Derived.Test.YtihokphamgkkcaaGreatML2
import Derived.Test.YtihokphamgkkcaaGreatMX1
import Derived.Test.YtihokphamgkkcaaGreatMR
import Derived.Test.YtihokphamgkkcaaGreatMB5
import Derived.Test.YtihokphamgkkcaaGreatMSx
import Derived.Deep.RegionHeld3
import Derived.Test.YtihokphamgkkcaaGreatMK
namespace Go.Proofs.YtihokphamgkkcaaGreat
open Go.RowKit
theorem be_stepS (s : ByteArray) (a n j : Nat) (hj : j < n) (hs : a + n ≤ s.size) (h8 : j < 8) :
    bits BinOp.or IntKind.u64 (IntKind.u64.wrap ((be ((bl (s.extract a (a + n))).take j) : Int) * 256)) (IntKind.u64.wrap ((s[a + j]'(by omega)).toNat : Int)) = ((be ((bl (s.extract a (a + n))).take (j + 1)) : Nat) : Int) := by
  have hz : (s.extract a (a + n)).size = n := by simp [ByteArray.size_extract]; omega
  have hg : (s.extract a (a + n))[j]'(by omega) = s[a + j]'(by omega) := ByteArray.getElem_extract _
  have := be_step (s.extract a (a + n)) j (by omega) h8
  rw [hg] at this
  exact this
set_option maxHeartbeats 1000000 in
set_option maxRecDepth 20000 in
theorem xnum_any (s : ByteArray) (a n : Nat) (w : World) (h : a + n ≤ s.size) (hs : s.size ≤ 9223372036854775807) (hn : n ≤ 8) :
    Calls Tryz.prog 36 #[.string s, .int .i64 a, .int .i64 n] w fun e w' => e = .returned (.int .u64 (num s a n)) ∧ w' = w := by
  unfold num
  have HE : Hid ((bl (s.extract a (a + n))).take n = bl (s.extract a (a + n))) := List.take_of_length_le (by rw [bl_len, ByteArray.size_extract]; omega)
  have HST := hid (fun j hj => be_stepS s a n j hj h)
  generalize bl (s.extract a (a + n)) = T at *
  obtain ⟨K, hK⟩ : ∃ K, a + n = K := ⟨_, rfl⟩
  have HKK := hid hK
  have hKI : (a : Int) + (n : Int) = (K : Int) := by omega
  clear hK
  go_enter Tryz.func36, Tryz.ntmps36
  go_wp2_with fail
  go_loop [7, 8] (fun v i => ∃ j : Nat, j ≤ n ∧ i = .int .i64 (a + j : Nat) ∧ v = .int .u64 (be (T.take j))) (fun _ i => K - (intOf i).toNat)
  case atStart => exact ⟨0, by omega, rfl, rfl⟩
  case round =>
    obtain ⟨j, hj, rfl, rfl⟩ := hrel
    by_cases hlt : j < n
    · have HS := hid (HST.out j hlt (by omega))
      obtain ⟨I, hI⟩ : ∃ I, a + j = I := ⟨_, rfl⟩
      have HI := hid hI
      have HS2 : Hid (∀ (hI : I < s.size), bits BinOp.or IntKind.u64 (IntKind.u64.wrap ((be (T.take j) : Int) * 256)) (IntKind.u64.wrap ((s[I]'hI).toNat : Int)) = ((be (T.take (j + 1)) : Nat) : Int)) := by
        subst hI
        exact fun _ => HS.out
      have hIs : I < s.size := by omega
      have hIK : (I : Int) < K := by omega
      rw [hI]
      clear HS HST hI
      go_wp2
      go_round
      case rel => exact ⟨j + 1, by omega, congrArg (Value.int .i64) (by have := HI.out; omega), congrArg (Value.int .u64) (HS2.out hIs)⟩
      case measure => simp [intOf]; omega
    · have hjn : j = n := by omega
      subst hjn
      obtain ⟨I, hI⟩ : ∃ I, a + j = I := ⟨_, rfl⟩
      have hIK : ¬ (I : Int) < K := by omega
      rw [hI]
      clear hI
      go_wp2
      go_ret
      exact ⟨by rw [HE.out]; rfl, rfl⟩
end Go.Proofs.YtihokphamgkkcaaGreat
namespace Go.Proofs.YtihokphamgkkcaaGreat
open Go.RowKit
set_option maxHeartbeats 1000000 in
set_option maxRecDepth 20000 in
theorem xcounted_any (fr pl : Int) (w : World) : Calls Tryz.prog 72 #[.int .i64 fr, .int .i64 pl] w fun e w' => e = .returned (.tuple #[.int .i64 (wth fr 58 16777216), .int .i64 (wth pl 7 16777216)]) ∧ w' = w := by
  unfold wth
  go_enter Tryz.func72, Tryz.ntmps72
  go_wp2
  all_goals go_ret2
  all_goals refine ⟨?_, rfl⟩
  all_goals
    show Ending.returned (.tuple #[.int .i64 _, .int .i64 _]) = Ending.returned (.tuple #[.int .i64 _, .int .i64 _])
    congr 5 <;> (try congr 1) <;> omega
theorem xnumbered_any (p q : Int) (w : World) : Calls Tryz.prog 28 #[.int .i64 p, .int .i32 q] w fun e w' => e = .returned (.bool (isPr p q)) ∧ w' = w := by
  unfold isPr
  by_cases h1 : p = -1
  · by_cases h2 : q = -1
    · rw [decide_eq_true (Or.inl ⟨h1, h2⟩)]
      subst h1 h2
      go_enter Tryz.func28, Tryz.ntmps28
      go_wp2
      go_ret
      exact ⟨rfl, rfl⟩
    · rw [decide_eq_false (by omega)]
      subst h1
      go_enter Tryz.func28, Tryz.ntmps28
      go_wp2
      go_ret
      exact ⟨by simp [h2], rfl⟩
  · by_cases h2 : 0 ≤ p
    · by_cases h3 : 0 ≤ q
      · rw [decide_eq_true (Or.inr ⟨h2, h3⟩)]
        go_enter Tryz.func28, Tryz.ntmps28
        go_wp2
        go_ret
        exact ⟨by simp, rfl⟩
      · rw [decide_eq_false (by omega)]
        go_enter Tryz.func28, Tryz.ntmps28
        go_wp2
        go_ret
        exact ⟨by simp, rfl⟩
    · rw [decide_eq_false (by omega)]
      go_enter Tryz.func28, Tryz.ntmps28
      go_wp2
      go_ret
      exact ⟨by simp, rfl⟩
theorem num1 {s : ByteArray} {k : Nat} (h : k < s.size) : num s k 1 = (s[k]'h).toNat := by
  unfold num
  have hl : k < (bl s).length := by rw [bl_len]; exact h
  have e : bl (s.extract k (k + 1)) = [(s[k]'h).toNat] := by
    rw [bl_ext, List.drop_eq_getElem_cons hl, show k + 1 - k = 0 + 1 by omega, List.take_succ_cons, List.take_zero]
    congr 1
    simp [bl]
    rfl
  rw [e]
  simp [be]
theorem pke_iff {s : ByteArray} (h : ¬ s.size < 51) (P : Prop) [Decidable P] (hP : Right (fsOf s) ↔ P) : pke s = if P then 0 else 28 := by
  cases hr : rgt (fsOf s) with
  | true => rw [pke_ok h hr, if_pos (hP.1 (rgt_iff.1 hr))]
  | false => rw [pke_no h hr, if_neg (fun hp => by rw [rgt_iff.2 (hP.2 hp)] at hr; cases hr)]
set_option maxHeartbeats 4000000 in
set_option maxRecDepth 20000 in
theorem xpeek_any (s : ByteArray) (w : World) (hs : s.size ≤ 9223372036854775807) :
    Calls Tryz.prog 13 #[.string s] w fun e w' => e = .returned (.tuple #[if pke s = 0 then hdV (fsOf s) else noHd, .int .i64 (pke s)]) ∧ Below w.heap.size w w' := by
  unfold noHd hdV
  by_cases h : s.size < 51
  · rw [pke_short h, if_neg (by decide)]
    have d1 : decide ((s.size : Int) < 51) = true := decide_eq_true (by omega)
    clear h
    go_enter Tryz.func13, Tryz.ntmps13
    go_wp2_with fail
    exact bodyPost_ret (v := .tuple #[.agg #[.int .i64 0, .int .i64 0, .bool false, .int .i64 0, .int .i64 0, .int .i64 0, .int .i64 0, .int .i32 0], .int .i64 20]) (by simp [results, Tryz.results13, go_sem]) rfl ⟨rfl, (Below.refl _ _).alloc (Nat.le_refl _) _⟩
  · have d1 : decide ((s.size : Int) < 51) = false := decide_eq_false (by omega)
    have c0 := fun w => xnum_any s 0 8 w (by omega) hs (by omega)
    have c8 := fun w => xnum_any s 8 4 w (by omega) hs (by omega)
    have c13 := fun w => xnum_any s 17 2 w (by omega) hs (by omega)
    have c19 := fun w => xnum_any s 19 4 w (by omega) hs (by omega)
    have c23 := fun w => xnum_any s 23 8 w (by omega) hs (by omega)
    have c31 := fun w => xnum_any s 31 8 w (by omega) hs (by omega)
    have c39 := fun w => xnum_any s 39 8 w (by omega) hs (by omega)
    have c47 := fun w => xnum_any s 47 4 w (by omega) hs (by omega)
    have C0 := hid c0
    have C8 := hid c8
    have C17 := hid c13
    have C19 := hid c19
    have C23 := hid c23
    have C31 := hid c31
    have C39 := hid c39
    have C47 := hid c47
    have hb8 : num s 8 4 < 4294967296 := num_lt4 (by omega)
    have hb19 : num s 19 4 < 4294967296 := num_lt4 (by omega)
    have hb17 : num s 17 2 < 65536 := num_lt2 (by omega)
    have hb47 : num s 47 4 < 4294967296 := num_lt4 (by omega)
    clear c0 c8 c13 c19 c23 c31 c39 c47
    have h12 : (12 : Nat) < s.size := by omega
    have hm := num1 h12
    have HP := hid (pke_iff h (num s 12 1 = 71 ∧ num s 17 2 ≤ 1 ∧ 1 ≤ num s 19 4 ∧ num s 19 4 ≤ 65536 ∧ 0 ≤ wrap64 ((num s 0 8 : Nat) : Int) ∧ wrap64 ((num s 0 8 : Nat) : Int) < 4611686018427387904 ∧ wrap64 ((num s 0 8 : Nat) : Int) ≤ 4611686018427387904 - (num s 19 4 : Nat) ∧ wrap64 ((num s 23 8 : Nat) : Int) ≤ wrap64 ((num s 31 8 : Nat) : Int) ∧ isPr (wrap64 ((num s 39 8 : Nat) : Int)) (wrap32 ((num s 47 4 : Nat) : Int)) = true ∧ 46 ≤ num s 8 4 ∧ num s 8 4 ≤ 16777204) ⟨fun R => ⟨R.mark, R.st, R.c1, R.c2, R.b.1, R.b.2, R.o, R.t, R.p, R.l1, R.l2⟩, fun ⟨a1, a2, a3, a4, a5, a6, a7, a8, a9, a10, a11⟩ => ⟨a1, a2, a3, a4, ⟨a5, a6⟩, a7, a8, a9, a10, a11⟩⟩)
    unfold fsOf
    dsimp only
    rw [hm] at HP
    obtain ⟨M, hM⟩ : ∃ M, (s[12]'h12).toNat = M := ⟨_, rfl⟩
    rw [hM] at HP
    have hx0 := wrap64_in ((num s 0 8 : Nat) : Int)
    have hMl : M < 256 := by rw [← hM]; exact UInt8.toNat_lt _
    clear hm h
    generalize hX0 : wrap64 ((num s 0 8 : Nat) : Int) = X0 at *
    generalize hX4 : wrap64 ((num s 23 8 : Nat) : Int) = X4 at *
    generalize hX5 : wrap64 ((num s 31 8 : Nat) : Int) = X5 at *
    generalize hX6 : wrap64 ((num s 39 8 : Nat) : Int) = X6 at *
    generalize hX7 : wrap32 ((num s 47 4 : Nat) : Int) = X7 at *
    generalize num s 0 8 = n0 at *
    generalize num s 8 4 = n8 at *
    generalize num s 17 2 = n17 at *
    generalize num s 19 4 = n19 at *
    generalize num s 23 8 = n23 at *
    generalize num s 31 8 = n31 at *
    generalize num s 39 8 = n39 at *
    generalize num s 47 4 = n47 at *
    have i8 : (n8 : Int) ≤ 4294967295 := by omega
    have i19 : (n19 : Int) ≤ 4294967295 := by omega
    have i17 : (n17 : Int) ≤ 65535 := by omega
    have i47 : (n47 : Int) ≤ 4294967295 := by omega
    obtain ⟨PK, hPK⟩ : ∃ PK, pke s = PK := ⟨_, rfl⟩
    rw [hPK] at HP ⊢
    clear hPK
    have CN := hid (fun w => xnumbered_any X6 X7 w)
    have iM : (M : Int) ≤ 255 := by omega
    go_enter Tryz.func13, Tryz.ntmps13
    go_wp2_with fail
    refine (C0.out _).mono ?_
    rintro e w1 ⟨rfl, rfl⟩
    go_wp2_with fail
    refine (C8.out _).mono ?_
    rintro e w1 ⟨rfl, rfl⟩
    go_wp2_with fail
    refine (C17.out _).mono ?_
    rintro e w1 ⟨rfl, rfl⟩
    go_wp2_with fail
    refine (C19.out _).mono ?_
    rintro e w1 ⟨rfl, rfl⟩
    go_wp2_with fail
    refine (C23.out _).mono ?_
    rintro e w1 ⟨rfl, rfl⟩
    go_wp2_with fail
    refine (C31.out _).mono ?_
    rintro e w1 ⟨rfl, rfl⟩
    go_wp2_with fail
    refine (C39.out _).mono ?_
    rintro e w1 ⟨rfl, rfl⟩
    go_wp2_with fail
    refine (C47.out _).mono ?_
    rintro e w1 ⟨rfl, rfl⟩
    by_cases h0 : M = 71
    · have y0 : (M : Int) = 71 := by omega
      by_cases h1 : n17 ≤ 1
      · have y1 : ¬ (1 : Int) < n17 := by omega
        have z1 : decide ((1 : Int) < n17) = false := decide_eq_false y1
        by_cases h2 : 1 ≤ n19
        · have y2 : ¬ (n19 : Int) < 1 := by omega
          have z2 : decide ((n19 : Int) < 1) = false := decide_eq_false y2
          by_cases h3 : n19 ≤ 65536
          · have y3 : ¬ (65536 : Int) < n19 := by omega
            have z3 : decide ((65536 : Int) < n19) = false := decide_eq_false y3
            by_cases h4 : 0 ≤ X0
            · have y4 : ¬ X0 < 0 := by omega
              have z4 : decide (X0 < 0) = false := decide_eq_false y4
              by_cases h5 : X0 < 4611686018427387904
              · have y5 : ¬ (4611686018427387904 : Int) ≤ X0 := by omega
                have z5 : decide ((4611686018427387904 : Int) ≤ X0) = false := decide_eq_false y5
                by_cases h6 : X0 ≤ 4611686018427387904 - (n19 : Nat)
                · have y6 : ¬ (4611686018427387904 : Int) ≤ X0 + n19 - 1 := by omega
                  have z6 : decide ((4611686018427387904 : Int) ≤ X0 + n19 - 1) = false := decide_eq_false y6
                  by_cases h7 : X4 ≤ X5
                  · have y7 : ¬ X5 < X4 := by omega
                    have z7 : decide (X5 < X4) = false := decide_eq_false y7
                    by_cases h8 : isPr X6 X7 = true
                    · rw [h8] at CN
                      by_cases h9 : 46 ≤ n8
                      · have y9 : ¬ (12 : Int) + n8 < 58 := by omega
                        have z9 : decide ((12 : Int) + n8 < 58) = false := decide_eq_false y9
                        by_cases h10 : n8 ≤ 16777204
                        · have y10 : ¬ (16777216 : Int) < 12 + n8 := by omega
                          have z10 : decide ((16777216 : Int) < 12 + n8) = false := decide_eq_false y10
                          have hPK : PK = 0 := by rw [HP.out, if_pos ⟨h0, h1, h2, h3, h4, h5, h6, h7, h8, h9, h10⟩]
                          subst hPK
                          clear HP
                          go_wp2_with (first | (go_at_call 36; refine (C17.out _).mono ?_; rintro e w1 ⟨rfl, rfl⟩) | (go_at_call 28; refine (CN.out _).mono ?_; rintro e w1 ⟨rfl, rfl⟩))
                          have hbq : ((n17 : Int) == 1) = decide (n17 = 1) := by
                            by_cases hq : n17 = 1
                            · subst hq; rfl
                            · rw [decide_eq_false hq, beq_eq_false_iff_ne]; omega
                          rw [hbq]
                          exact bodyPost_ret (v := .tuple #[.agg #[.int .i64 X0, .int .i64 (12 + n8), .bool (decide (n17 = 1)), .int .i64 n19, .int .i64 X4, .int .i64 X5, .int .i64 X6, .int .i32 X7], .int .i64 0]) (by simp [results, Tryz.results13, go_sem]) rfl ⟨rfl, ((Below.refl _ _).alloc (Nat.le_refl _) _).alloc (by simp) _⟩
                        · have y10 : (16777216 : Int) < 12 + n8 := by omega
                          have z10 : decide ((16777216 : Int) < 12 + n8) = true := decide_eq_true y10
                          have hPK : PK = 28 := by rw [HP.out, if_neg (fun hh => h10 hh.2.2.2.2.2.2.2.2.2.2)]
                          subst hPK
                          clear HP
                          go_wp2_with (first | (go_at_call 36; refine (C17.out _).mono ?_; rintro e w1 ⟨rfl, rfl⟩) | (go_at_call 28; refine (CN.out _).mono ?_; rintro e w1 ⟨rfl, rfl⟩))
                          exact bodyPost_ret (v := .tuple #[.agg #[.int .i64 0, .int .i64 0, .bool false, .int .i64 0, .int .i64 0, .int .i64 0, .int .i64 0, .int .i32 0], .int .i64 28]) (by simp [results, Tryz.results13, go_sem]) rfl ⟨rfl, ((Below.refl _ _).alloc (Nat.le_refl _) _).alloc (by simp) _⟩
                      · have y9 : (12 : Int) + n8 < 58 := by omega
                        have z9 : decide ((12 : Int) + n8 < 58) = true := decide_eq_true y9
                        have hPK : PK = 28 := by rw [HP.out, if_neg (fun hh => h9 hh.2.2.2.2.2.2.2.2.2.1)]
                        subst hPK
                        clear HP
                        go_wp2_with (first | (go_at_call 36; refine (C17.out _).mono ?_; rintro e w1 ⟨rfl, rfl⟩) | (go_at_call 28; refine (CN.out _).mono ?_; rintro e w1 ⟨rfl, rfl⟩))
                        exact bodyPost_ret (v := .tuple #[.agg #[.int .i64 0, .int .i64 0, .bool false, .int .i64 0, .int .i64 0, .int .i64 0, .int .i64 0, .int .i32 0], .int .i64 28]) (by simp [results, Tryz.results13, go_sem]) rfl ⟨rfl, ((Below.refl _ _).alloc (Nat.le_refl _) _).alloc (by simp) _⟩
                    · have h8f : isPr X6 X7 = false := by simpa using h8
                      rw [h8f] at CN
                      have hPK : PK = 28 := by rw [HP.out, if_neg (fun hh => h8 hh.2.2.2.2.2.2.2.2.1)]
                      subst hPK
                      clear HP
                      go_wp2_with (first | (go_at_call 36; refine (C17.out _).mono ?_; rintro e w1 ⟨rfl, rfl⟩) | (go_at_call 28; refine (CN.out _).mono ?_; rintro e w1 ⟨rfl, rfl⟩))
                      exact bodyPost_ret (v := .tuple #[.agg #[.int .i64 0, .int .i64 0, .bool false, .int .i64 0, .int .i64 0, .int .i64 0, .int .i64 0, .int .i32 0], .int .i64 28]) (by simp [results, Tryz.results13, go_sem]) rfl ⟨rfl, ((Below.refl _ _).alloc (Nat.le_refl _) _).alloc (by simp) _⟩
                  · have y7 : X5 < X4 := by omega
                    have z7 : decide (X5 < X4) = true := decide_eq_true y7
                    have hPK : PK = 28 := by rw [HP.out, if_neg (fun hh => h7 hh.2.2.2.2.2.2.2.1)]
                    subst hPK
                    clear HP
                    go_wp2_with (first | (go_at_call 36; refine (C17.out _).mono ?_; rintro e w1 ⟨rfl, rfl⟩) | (go_at_call 28; refine (CN.out _).mono ?_; rintro e w1 ⟨rfl, rfl⟩))
                    exact bodyPost_ret (v := .tuple #[.agg #[.int .i64 0, .int .i64 0, .bool false, .int .i64 0, .int .i64 0, .int .i64 0, .int .i64 0, .int .i32 0], .int .i64 28]) (by simp [results, Tryz.results13, go_sem]) rfl ⟨rfl, ((Below.refl _ _).alloc (Nat.le_refl _) _).alloc (by simp) _⟩
                · have y6 : (4611686018427387904 : Int) ≤ X0 + n19 - 1 := by omega
                  have z6 : decide ((4611686018427387904 : Int) ≤ X0 + n19 - 1) = true := decide_eq_true y6
                  have hPK : PK = 28 := by rw [HP.out, if_neg (fun hh => h6 hh.2.2.2.2.2.2.1)]
                  subst hPK
                  clear HP
                  go_wp2_with (first | (go_at_call 36; refine (C17.out _).mono ?_; rintro e w1 ⟨rfl, rfl⟩) | (go_at_call 28; refine (CN.out _).mono ?_; rintro e w1 ⟨rfl, rfl⟩))
                  exact bodyPost_ret (v := .tuple #[.agg #[.int .i64 0, .int .i64 0, .bool false, .int .i64 0, .int .i64 0, .int .i64 0, .int .i64 0, .int .i32 0], .int .i64 28]) (by simp [results, Tryz.results13, go_sem]) rfl ⟨rfl, ((Below.refl _ _).alloc (Nat.le_refl _) _).alloc (by simp) _⟩
              · have y5 : (4611686018427387904 : Int) ≤ X0 := by omega
                have z5 : decide ((4611686018427387904 : Int) ≤ X0) = true := decide_eq_true y5
                have hPK : PK = 28 := by rw [HP.out, if_neg (fun hh => h5 hh.2.2.2.2.2.1)]
                subst hPK
                clear HP
                go_wp2_with (first | (go_at_call 36; refine (C17.out _).mono ?_; rintro e w1 ⟨rfl, rfl⟩) | (go_at_call 28; refine (CN.out _).mono ?_; rintro e w1 ⟨rfl, rfl⟩))
                exact bodyPost_ret (v := .tuple #[.agg #[.int .i64 0, .int .i64 0, .bool false, .int .i64 0, .int .i64 0, .int .i64 0, .int .i64 0, .int .i32 0], .int .i64 28]) (by simp [results, Tryz.results13, go_sem]) rfl ⟨rfl, ((Below.refl _ _).alloc (Nat.le_refl _) _).alloc (by simp) _⟩
            · have y4 : X0 < 0 := by omega
              have z4 : decide (X0 < 0) = true := decide_eq_true y4
              have hPK : PK = 28 := by rw [HP.out, if_neg (fun hh => h4 hh.2.2.2.2.1)]
              subst hPK
              clear HP
              go_wp2_with (first | (go_at_call 36; refine (C17.out _).mono ?_; rintro e w1 ⟨rfl, rfl⟩) | (go_at_call 28; refine (CN.out _).mono ?_; rintro e w1 ⟨rfl, rfl⟩))
              exact bodyPost_ret (v := .tuple #[.agg #[.int .i64 0, .int .i64 0, .bool false, .int .i64 0, .int .i64 0, .int .i64 0, .int .i64 0, .int .i32 0], .int .i64 28]) (by simp [results, Tryz.results13, go_sem]) rfl ⟨rfl, ((Below.refl _ _).alloc (Nat.le_refl _) _).alloc (by simp) _⟩
          · have y3 : (65536 : Int) < n19 := by omega
            have z3 : decide ((65536 : Int) < n19) = true := decide_eq_true y3
            have hPK : PK = 28 := by rw [HP.out, if_neg (fun hh => h3 hh.2.2.2.1)]
            subst hPK
            clear HP
            go_wp2_with (first | (go_at_call 36; refine (C17.out _).mono ?_; rintro e w1 ⟨rfl, rfl⟩) | (go_at_call 28; refine (CN.out _).mono ?_; rintro e w1 ⟨rfl, rfl⟩))
            exact bodyPost_ret (v := .tuple #[.agg #[.int .i64 0, .int .i64 0, .bool false, .int .i64 0, .int .i64 0, .int .i64 0, .int .i64 0, .int .i32 0], .int .i64 28]) (by simp [results, Tryz.results13, go_sem]) rfl ⟨rfl, ((Below.refl _ _).alloc (Nat.le_refl _) _).alloc (by simp) _⟩
        · have y2 : (n19 : Int) < 1 := by omega
          have z2 : decide ((n19 : Int) < 1) = true := decide_eq_true y2
          have hPK : PK = 28 := by rw [HP.out, if_neg (fun hh => h2 hh.2.2.1)]
          subst hPK
          clear HP
          go_wp2_with (first | (go_at_call 36; refine (C17.out _).mono ?_; rintro e w1 ⟨rfl, rfl⟩) | (go_at_call 28; refine (CN.out _).mono ?_; rintro e w1 ⟨rfl, rfl⟩))
          exact bodyPost_ret (v := .tuple #[.agg #[.int .i64 0, .int .i64 0, .bool false, .int .i64 0, .int .i64 0, .int .i64 0, .int .i64 0, .int .i32 0], .int .i64 28]) (by simp [results, Tryz.results13, go_sem]) rfl ⟨rfl, ((Below.refl _ _).alloc (Nat.le_refl _) _).alloc (by simp) _⟩
      · have y1 : (1 : Int) < n17 := by omega
        have z1 : decide ((1 : Int) < n17) = true := decide_eq_true y1
        have hPK : PK = 28 := by rw [HP.out, if_neg (fun hh => h1 hh.2.1)]
        subst hPK
        clear HP
        go_wp2_with (first | (go_at_call 36; refine (C17.out _).mono ?_; rintro e w1 ⟨rfl, rfl⟩) | (go_at_call 28; refine (CN.out _).mono ?_; rintro e w1 ⟨rfl, rfl⟩))
        exact bodyPost_ret (v := .tuple #[.agg #[.int .i64 0, .int .i64 0, .bool false, .int .i64 0, .int .i64 0, .int .i64 0, .int .i64 0, .int .i32 0], .int .i64 28]) (by simp [results, Tryz.results13, go_sem]) rfl ⟨rfl, ((Below.refl _ _).alloc (Nat.le_refl _) _).alloc (by simp) _⟩
    · have y0 : ¬ (M : Int) = 71 := by omega
      have hPK : PK = 28 := by rw [HP.out, if_neg (fun hh => h0 hh.1)]
      subst hPK
      clear HP
      go_wp2_with (first | (go_at_call 36; refine (C17.out _).mono ?_; rintro e w1 ⟨rfl, rfl⟩) | (go_at_call 28; refine (CN.out _).mono ?_; rintro e w1 ⟨rfl, rfl⟩))
      exact bodyPost_ret (v := .tuple #[.agg #[.int .i64 0, .int .i64 0, .bool false, .int .i64 0, .int .i64 0, .int .i64 0, .int .i64 0, .int .i32 0], .int .i64 28]) (by simp [results, Tryz.results13, go_sem]) rfl ⟨rfl, ((Below.refl _ _).alloc (Nat.le_refl _) _).alloc (by simp) _⟩
end Go.Proofs.YtihokphamgkkcaaGreat
namespace Go.Proofs.YtihokphamgkkcaaGreat
open Go.RowKit
/-- What body answers. -/
def boV (R : Except Nat ByteArray) : Value := match R with
  | .error e => .tuple #[.string ⟨#[]⟩, .int .i64 e]
  | .ok b => .tuple #[.string b, .int .i64 0]
set_option maxHeartbeats 2000000 in
set_option maxRecDepth 20000 in
theorem xbody6_any (s : ByteArray) (st : Nat) (most : Int) (w : World) (h : 51 ≤ s.size) (hs : s.size ≤ 1048576) (hst : st ≤ 1) :
    Calls Tryz.prog 110 #[.string s, .bool (decide (st = 1)), .int .i64 most] w fun e w' => e = .returned (boV (bod (s.extract 51 s.size) st most)) ∧ Below w.heap.size w w' := by
  have hz : (s.extract 51 s.size).size = s.size - 51 := by rw [ByteArray.size_extract]; omega
  have h51 : (51 : Int) ≤ s.size := by omega
  have hsI : (s.size : Int) ≤ 1048576 := by omega
  obtain ⟨t, ht⟩ : ∃ t, s.extract 51 s.size = t := ⟨_, rfl⟩
  have hts : t.size ≤ 1048576 := by rw [← ht, hz]; omega
  rw [ht]
  unfold bod boV
  by_cases h1 : st = 1
  · subst h1
    rw [if_pos rfl]
    by_cases h4 : t.size < 4
    · rw [if_pos h4]
      have h4I : (t.size : Int) < 4 := by omega
      go_enter Tryz.func110, Tryz.ntmps110
      go_wp2_with fail
      go_ret2
      exact ⟨rfl, Below.refl _ _⟩
    · rw [if_neg h4]
      have h4I : ¬ (t.size : Int) < 4 := by omega
      have h4J : (4 : Int) ≤ t.size := by omega
      have CN := hid (fun w => xnum_any t 0 4 w (by omega) (by omega) (by omega))
      have hn : num t 0 4 < 4294967296 := num_lt4 (by omega)
      have CU := hid (fun w => Lz.runpack_in (t.extract 4 t.size) (num t 0 4) (num t 0 4 : Nat) w (by rw [ByteArray.size_extract]; omega) (by omega) (Int.le_refl _))
      have hnI : ((num t 0 4 : Nat) : Int) ≤ 4294967295 := by omega
      by_cases hm : most < (num t 0 4 : Nat)
      · rw [if_pos hm]
        generalize num t 0 4 = n at *
        clear CU
        go_enter Tryz.func110, Tryz.ntmps110
        go_wp2_with fail
        refine (CN.out _).mono ?_
        rintro e w1 ⟨rfl, rfl⟩
        go_wp2_with fail
        go_ret2
        exact ⟨rfl, Below.refl _ _⟩
      · rw [if_neg hm]
        generalize hU : Lz.M.un (num t 0 4) (t.extract 4 t.size).data.toList [] = U at *
        generalize num t 0 4 = n at *
        unfold Lz.unV at CU
        cases U with
        | error k =>
          have hk0 := Lz.un_bad' n _ _ _ k rfl hU
          have hkI : ¬ (k : Int) = 0 := by omega
          have hkB : ((k : Int) != 0) = true := by rw [bne_iff_ne]; exact hkI
          clear hU
          go_enter Tryz.func110, Tryz.ntmps110
          go_wp2_with fail
          refine (CN.out _).mono ?_
          rintro e w1 ⟨rfl, rfl⟩
          go_wp2_with fail
          refine (CU.out _).mono ?_
          rintro e w2 ⟨rfl, b2⟩
          go_wp2_with fail
          go_ret2
          exact ⟨rfl, b2⟩
        | ok F =>
          go_enter Tryz.func110, Tryz.ntmps110
          go_wp2_with fail
          refine (CN.out _).mono ?_
          rintro e w1 ⟨rfl, rfl⟩
          go_wp2_with fail
          refine (CU.out _).mono ?_
          rintro e w2 ⟨rfl, b2⟩
          go_wp2_with fail
          go_ret2
          exact ⟨rfl, b2⟩
  · have h0 : st = 0 := by omega
    subst h0
    rw [if_neg (by decide)]
    by_cases hm : most < (t.size : Int)
    · rw [if_pos hm]
      go_enter Tryz.func110, Tryz.ntmps110
      go_wp2_with fail
      go_ret2
      exact ⟨rfl, Below.refl _ _⟩
    · rw [if_neg hm]
      go_enter Tryz.func110, Tryz.ntmps110
      go_wp2_with fail
      go_ret2
      exact ⟨rfl, Below.refl _ _⟩
end Go.Proofs.YtihokphamgkkcaaGreat
namespace Go.Proofs.YtihokphamgkkcaaGreat
open Go.RowKit
theorem rd5_none (first : Int) (j : Nat) (hj : j < 65536) : rd5 ⟨#[]⟩ first j = .error 20 := by
  unfold rd5
  rw [if_neg (by omega), Int.toNat_natCast]
  rfl
/-- Why the records of a frame are refused, or 0. -/
def rec6 (s : ByteArray) (f : Fs) (most : Int) : Nat := match bod (s.extract 51 s.size) f.st most with
  | .error e => e
  | .ok b => cbe b f
theorem bod_small6 {t : ByteArray} {st : Nat} {most : Int} {b : ByteArray} (h : bod t st most = .ok b) : (b.size : Int) ≤ most := by
  unfold bod at h
  split at h
  · split at h
    · cases h
    · split at h
      · cases h
      · rename_i hn
        split at h
        · cases h
        · rename_i T hu
          cases h
          rw [Lz.ba_size]
          have := un_len hu
          omega
  · split at h
    · cases h
    · cases h
      omega
theorem gr_grt {acc : List RI} (h : 1 ≤ acc.length) : grt acc = gr (acc.map RI.r) := by
  unfold grt
  rw [if_neg (by omega), gm_gr acc RI.r (fun x => rfl) acc.length h (Nat.le_refl _), List.take_length]
theorem ft_acc {acc : List RI} : ft (acc.map RI.r) = (acc.getD 0 dri).r.t := by cases acc <;> rfl
theorem bel_dr {H : Nat} {w x : World} (h : Below H w x) : Below H w x.drew := ⟨h.os, h.tape, h.output, h.size, h.block⟩
theorem froz6 {w : World} {G : Nat} {T : TypeId} {c : Array Value} (h : w.heap[G]? = some (.cells c T (0, 0))) :
    w.frozen? ⟨G, 0, none⟩ = false ∧ w.frozen? ⟨G, 1, none⟩ = false ∧ w.frozen? ⟨G, 2, none⟩ = false ∧ w.frozen? ⟨G, 3, none⟩ = false ∧ w.frozen? ⟨G, 4, none⟩ = false ∧ w.frozen? ⟨G, 5, none⟩ = false :=
  ⟨froz_of h, froz_of h, froz_of h, froz_of h, froz_of h, froz_of h⟩
theorem set6_at {x : World} {G : Nat} {T : TypeId} {u0 u1 u2 u3 u4 u5 : Value} (h : x.heap[G]? = some (.cells #[u0, u1, u2, u3, u4, u5] T (0, 0))) (v0 v1 v2 v3 v4 v5 : Value) :
    ((((((x.setCell ⟨G, 0, none⟩ v0).setCell ⟨G, 1, none⟩ v1).setCell ⟨G, 2, none⟩ v2).setCell ⟨G, 3, none⟩ v3).setCell ⟨G, 4, none⟩ v4).setCell ⟨G, 5, none⟩ v5).heap[G]? = some (.cells #[v0, v1, v2, v3, v4, v5] T (0, 0)) := by
  have h0 : (x.setCell ⟨G, 0, none⟩ v0).heap[G]? = some (.cells #[v0, u1, u2, u3, u4, u5] T (0, 0)) := heap_set h
  have h1 : ((x.setCell ⟨G, 0, none⟩ v0).setCell ⟨G, 1, none⟩ v1).heap[G]? = some (.cells #[v0, v1, u2, u3, u4, u5] T (0, 0)) := heap_set h0
  have h2 := heap_set (i := 2) (v := v2) h1
  have h3 := heap_set (i := 3) (v := v3) h2
  have h4 := heap_set (i := 4) (v := v4) h3
  exact heap_set (i := 5) (v := v5) h4
theorem set6_bel {w x : World} {R : Nat} (h : Below R w x) (v0 v1 v2 v3 v4 v5 : Value) :
    Below R w ((((((x.setCell ⟨R, 0, none⟩ v0).setCell ⟨R, 1, none⟩ v1).setCell ⟨R, 2, none⟩ v2).setCell ⟨R, 3, none⟩ v3).setCell ⟨R, 4, none⟩ v4).setCell ⟨R, 5, none⟩ v5) :=
  (((((h.setCell (p := ⟨R, 0, none⟩) (Nat.le_refl _) _).setCell (p := ⟨R, 1, none⟩) (Nat.le_refl _) _).setCell (p := ⟨R, 2, none⟩) (Nat.le_refl _) _).setCell (p := ⟨R, 3, none⟩) (Nat.le_refl _) _).setCell (p := ⟨R, 4, none⟩) (Nat.le_refl _) _).setCell (p := ⟨R, 5, none⟩) (Nat.le_refl _) _
theorem ownh_lo {w : World} {B B' : Nat} {v : Value} {l : List Hdr} (h : OwnH w B' v l) (hB : B ≤ B') : OwnH w B v l := own_base hB h
theorem ownh_alloc {w : World} {B : Nat} {v : Value} {l : List Hdr} (h : OwnH w B v l) (o : Obj) : OwnH (w.alloc o) B v l := own_apart h fun g hg => by
  have := (World.ownsRow.lt h g hg).2
  have e := heap_alloc_at (w := w) (o' := o) (b := g) (o := w.heap[g]'this) (by simp [this])
  rw [e]
  simp [this]
theorem ownh_set6 {w : World} {B R : Nat} {v : Value} {l : List Hdr} (h : OwnH w B v l) (hg : ∀ g, v.ownBlock = some g → g ≠ R) (v0 v1 v2 v3 v4 v5 : Value) :
    OwnH ((((((w.setCell ⟨R, 0, none⟩ v0).setCell ⟨R, 1, none⟩ v1).setCell ⟨R, 2, none⟩ v2).setCell ⟨R, 3, none⟩ v3).setCell ⟨R, 4, none⟩ v4).setCell ⟨R, 5, none⟩ v5) B v l := own_apart h fun g hg' => by
  have hh := hg g hg'
  rw [Below.heap_setCell _ ⟨R, 5, none⟩ _ _ hh, Below.heap_setCell _ ⟨R, 4, none⟩ _ _ hh, Below.heap_setCell _ ⟨R, 3, none⟩ _ _ hh, Below.heap_setCell _ ⟨R, 2, none⟩ _ _ hh, Below.heap_setCell _ ⟨R, 1, none⟩ _ _ hh, Below.heap_setCell _ ⟨R, 0, none⟩ _ _ hh]
theorem ownh_gt {w : World} {R : Nat} {v : Value} {l : List Hdr} {B : Nat} (h : OwnH w B v l) (hB : R < B) : ∀ g, v.ownBlock = some g → g ≠ R := fun g hg => by
  have := (World.ownsRow.lt h g hg).1
  omega
/-- What records answers. -/
def RcPost (s : ByteArray) (f : Fs) (most : Int) (w : World) (e : Ending) (w' : World) : Prop :=
  Below w.heap.size w w' ∧ ∃ v, e = .returned (.tuple #[v, .int .i64 (rec6 s f most)]) ∧ (rec6 s f most = 0 → ∃ b k acc, bod (s.extract 51 s.size) f.st most = .ok b ∧ crun b f.first f.cnt = .ok (acc.map RI.r, k) ∧ Held w' w.heap.size v acc)
set_option maxHeartbeats 4000000 in
set_option maxRecDepth 20000 in
theorem xrecords_any (s : ByteArray) (f : Fs) (most : Int) (w : World) (hf : FsOk f) (hR : Right f) (h : 51 ≤ s.size) (hs : s.size ≤ 1048576) (hm : most ≤ 16777216) :
    Calls Tryz.prog 73 #[.string s, hdV f, .int .i64 most] w (RcPost s f most w) := by
  have cb := fun w => xbody6_any s f.st most w h hs hR.st
  have hc1 := hR.c1
  have hc2 := hR.c2
  have HPO := hid (show ∀ e w', RcPost s f most w e w' ↔ RcPost s f most w e w' from fun _ _ => Iff.rfl)
  unfold RcPost rec6 at HPO ⊢
  clear HPO
  cases hb : bod (s.extract 51 s.size) f.st most with
  | error x =>
    rw [hb] at cb
    dsimp only
    have hx := bod_pos hb
    have hxI : ¬ (x : Int) = 0 := by omega
    have CB := hid cb
    unfold boV at CB
    unfold hdV
    have N0 := Bx1.new w #[.int .i64 f.base, .int .i64 (12 + f.len : Nat), .bool (decide (f.st = 1)), .int .i64 f.cnt, .int .i64 f.first, .int .i64 f.grt, .int .i64 f.prod, .int .i32 f.seq] 35
    obtain ⟨c0, c1, c2, c3, c4, c5, c6, c7⟩ := cells8 N0.p
    clear cb hb
    generalize ((12 + f.len : Nat) : Int) = LN at *
    go_enter Tryz.func73, Tryz.ntmps73
    go_wp2_with fail
    refine (CB.out _).mono ?_
    rintro e w1 ⟨rfl, b1⟩
    go_wp2_with fail
    go_ret2
    exact ⟨(N0.call b1).b, _, rfl, fun e => absurd e hx⟩
  | ok b =>
    rw [hb] at cb
    dsimp only
    have CB := hid cb
    unfold boV at CB
    dsimp only at CB
    have hbs := bod_small6 hb
    have hF : I64 f.first := ⟨hf.f1, hf.f2⟩
    have HCE := hid (fun e => cbe_err (s := b) (f := f) (e := e))
    have HCO := hid (fun l k => cbe_ok (s := b) (f := f) (l := l) (k := k))
    obtain ⟨base, len, mark, sum, st, cnt, first, grt', prod, seq⟩ := f
    generalize hCB : cbe b ⟨base, len, mark, sum, st, cnt, first, grt', prod, seq⟩ = CE at *
    unfold hdV
    dsimp only at *
    have CR := hid (fun (t : ByteArray) (n : Int) (w : World) (ht : t.size ≤ 9223372036854775807) => xread_any t first n w ht hF)
    have hbI : (b.size : Int) ≤ 16777216 := by omega
    obtain ⟨i0, hi, hz0, hz1, hz2⟩ := info_parts Tryz.infoRec
    have N0 := Bx1.new w #[.int .i64 base, .int .i64 (12 + len : Nat), .bool (decide (st = 1)), .int .i64 cnt, .int .i64 first, .int .i64 grt', .int .i64 prod, .int .i32 seq] 35
    clear hf hR cb hm hb hs
    generalize ((12 + len : Nat) : Int) = LN at *
    obtain ⟨c0, c1, c2, c3, c4, c5, c6, c7⟩ := cells8 N0.p
    go_enter Tryz.func73, Tryz.ntmps73
    go_wp2_with fail
    refine (CB.out _).mono ?_
    rintro e w1 ⟨rfl, b1⟩
    have N1 := N0.call b1
    clear b1 CB N0 c0 c1 c2 c3 c4 c5 c6 c7
    go_wp2_with fail
    go_loopg [10, 11, 12] cnt (fun gk o p i wr => ∃ (j k : Nat) (acc : List RI), j + gk = cnt ∧ p = .int .i64 k ∧ i = .int .i64 j ∧ Hid (CB b first j (acc.map RI.r) k) ∧ Hid (Held wr w.heap.size o acc) ∧ Hid (Bx1 w #[.int .i64 base, .int .i64 LN, .bool (decide (st = 1)), .int .i64 cnt, .int .i64 first, .int .i64 grt', .int .i64 prod, .int .i32 seq] 35 wr))
    case atStart => exact ⟨0, 0, [], by omega, rfl, rfl, ⟨crun_zero b first, rfl, Nat.zero_le _, by unfold I64; decide⟩, ⟨World.ownsRow_nil _ _ _ _, fun x hx => by simp at hx, List.Pairwise.nil⟩, N1⟩
    case round =>
      obtain ⟨j, k, acc, hjk, rfl, rfl, HC, HO, HX⟩ := hrel
      have hT : (b.extract k b.size).size = b.size - k := by rw [ByteArray.size_extract]; omega
      have hkl := HC.out.le
      obtain ⟨c0, c1, c2, c3, c4, c5, c6, c7⟩ := cells8 HX.out.p
      by_cases hlt : j < cnt
      · obtain ⟨g2, rfl⟩ : ∃ g2, gk = g2 + 1 := ⟨gk - 1, by omega⟩
        have hlt' : (j : Int) < cnt := by omega
        by_cases hk : k = b.size
        · have hemp : b.extract k b.size = ⟨#[]⟩ := by
            apply bl_inj
            rw [bl_ext, hk, bl_nil]
            simp
          have he : CE = 20 := HCE.out 20 (by have := crun_err (crun_no HC.out.run (by rw [hemp]; exact rd5_none first j (by omega))) g2; rwa [show j + 1 + g2 = cnt by omega] at this)
          subst he
          subst hk
          have HB := hid HX.out.b
          go_wp2_with fail
          go_ret2
          exact ⟨HB.out, _, rfl, fun e => by cases e⟩
        · have hkI : ¬ (k : Int) = b.size := by omega
          have hk0 : (0 : Int) ≤ (k : Int) := by omega
          have hkS : (k : Int) ≤ b.size := by omega
          have HNO := hid (fun x (h : rd5 (b.extract k b.size) first j = .error x) => crun_no HC.out.run h)
          have HYE := hid (fun r d (h : rd5 (b.extract k b.size) first j = .ok (r, d)) => HC.out.step (by omega) (by omega) h)
          have HLE := hid (fun r d (h : rd5 (b.extract k b.size) first j = .ok (r, d)) => rd5_le (by omega) (by omega) h)
          have hl := HC.out.len
          have CRj := hid (fun w => CR.out (b.extract k b.size) j w (by omega))
          have hlb := lt_of_heap HX.out.p
          have HK4 : Hid (∀ y, Below wr.heap.size wr y → y.cell? ⟨w.heap.size, 4, none⟩ = some (.int .i64 first)) := fun y hy => (hy.cell (p := ⟨w.heap.size, 4, none⟩) hlb).trans c4
          have M0 : Below wr.heap.size wr wr := Below.refl _ _
          have M0d : Below wr.heap.size wr wr.drew := ⟨rfl, rfl, rfl, Nat.le_refl _, fun _ _ => rfl⟩
          have MA := M0.alloc M0.size (.cells #[.int .i64 0, .bool false, .string ⟨#[]⟩, .bool false, .string ⟨#[]⟩, .slice none 0 0] 49)
          have MAd := bel_dr MA
          have KA : (wr.alloc (.cells #[.int .i64 0, .bool false, .string ⟨#[]⟩, .bool false, .string ⟨#[]⟩, .slice none 0 0] 49)).heap[wr.heap.size]? = some (.cells #[.int .i64 0, .bool false, .string ⟨#[]⟩, .bool false, .string ⟨#[]⟩, .slice none 0 0] 49 (0, 0)) := heap_new _ _
          have KA' : (wr.alloc (.cells #[.int .i64 0, .bool false, .string ⟨#[]⟩, .bool false, .string ⟨#[]⟩, .slice none 0 0] 49)).drew.heap[wr.heap.size]? = some (.cells #[.int .i64 0, .bool false, .string ⟨#[]⟩, .bool false, .string ⟨#[]⟩, .slice none 0 0] 49 (0, 0)) := heap_new _ _
          have TST := fun w5 (b5 : Below (wr.alloc (.cells #[.int .i64 0, .bool false, .string ⟨#[]⟩, .bool false, .string ⟨#[]⟩, .slice none 0 0] 49)).drew.heap.size (wr.alloc (.cells #[.int .i64 0, .bool false, .string ⟨#[]⟩, .bool false, .string ⟨#[]⟩, .slice none 0 0] 49)).drew w5) => froz6 (keep KA' b5)
          have TS2 := fun w5 (b5 : Below (wr.alloc (.cells #[.int .i64 0, .bool false, .string ⟨#[]⟩, .bool false, .string ⟨#[]⟩, .slice none 0 0] 49)).drew.heap.size (wr.alloc (.cells #[.int .i64 0, .bool false, .string ⟨#[]⟩, .bool false, .string ⟨#[]⟩, .slice none 0 0] 49)).drew w5) => cells6 (keep KA' b5)
          clear TST TS2
          cases hR : rd5 (b.extract k b.size) first (j : Int) with
          | error x =>
            rw [hR] at CRj
            have he : CE = x := HCE.out x (by have := crun_err (HNO.out x hR) g2; rwa [show j + 1 + g2 = cnt by omega] at this)
            subst he
            have hCE : CE ≠ 0 → ¬ (CE : Int) = 0 := fun h => by omega
            have CRX : Hid (∀ x, Below wr.heap.size wr x → Calls Tryz.prog 111 #[.string (b.extract k b.size), .int .i64 first, .int .i64 j] x fun e w' => e = .returned (.tuple #[.agg #[.int .i64 0, .bool false, .string ⟨#[]⟩, .bool false, .string ⟨#[]⟩, .slice none 0 0], .int .i64 0, .int .i64 CE]) ∧ Below wr.heap.size wr w' ∧ Below x.heap.size x w' ∧ CE ≠ 0) := fun x hx => (CRj.out x).mono fun e w' h => ⟨h.2.1, hx.trans (h.1.mono hx.size), h.1, h.2.2⟩
            have HX0 := hid HX.out.b
            clear HX HC HO HNO HYE HLE hR CRj hCE
            go_wp2_with fail
            go_cut [13, 14, 15] (fun v13 v14 v15 wc => ∃ G, v13 = .pointer (some ⟨G, 0, none⟩) ∧ v14 = .int .i64 0 ∧ v15 = .int .i64 CE ∧ Hid (Below wr.heap.size wr wc) ∧ Hid (wc.heap[G]? = some (.cells #[.int .i64 0, .bool false, .string ⟨#[]⟩, .bool false, .string ⟨#[]⟩, .slice none 0 0] 49 (0, 0))) ∧ Hid (CE ≠ 0))
            case first =>
              go_region_held3 (fun y => y.cell? ⟨w.heap.size, 4, none⟩ = some (.int .i64 first)) (first | with_reducible exact HK4.out _ M0 | with_reducible exact HK4.out _ M0d | with_reducible exact HK4.out _ MA | with_reducible exact HK4.out _ MAd | with_reducible exact HK4.out _ M5 | with_reducible exact HK4.out _ (bel_dr M5) | with_reducible exact HK4.out _ (M5.alloc M5.size _) | with_reducible exact HK4.out _ (bel_dr (M5.alloc M5.size _)) | with_reducible exact HK4.out _ (set6_bel M5 _ _ _ _ _ _) | with_reducible exact HK4.out _ (bel_dr (set6_bel M5 _ _ _ _ _ _))) ((go_at_call 111; with_reducible refine (CRX.out _ ?_).mono ?_; (first | with_reducible exact M0d | with_reducible exact M0 | with_reducible exact MAd | with_reducible exact MA); rintro e w5 ⟨rfl, M5, b5, hCE0⟩; first | (have K5 : w5.heap[wr.heap.size]? = _ := (by with_reducible exact keep KA' b5); obtain ⟨k0, k1, k2, k3, k4, k5⟩ := cells6 K5; obtain ⟨z0, z1, z2, z3, z4, z5⟩ := froz6 K5) | (have b5d : Below wr.drew.heap.size wr.drew w5 := (by with_reducible exact b5))))
              all_goals
                go_wp2
                go_meet
                case rel => first
                  | (with_reducible refine ⟨_, rfl, rfl, rfl, hid (bel_dr (M5.alloc M5.size _)), hid (heap_new _ _), hid hCE0⟩)
                  | (with_reducible refine ⟨_, rfl, rfl, rfl, hid (M5.alloc M5.size _), hid (heap_new _ _), hid hCE0⟩)
                  | (with_reducible refine ⟨_, rfl, rfl, rfl, hid (bel_dr (set6_bel M5 _ _ _ _ _ _)), hid (set6_at K5 _ _ _ _ _ _), hid hCE0⟩)
                  | (with_reducible refine ⟨_, rfl, rfl, rfl, hid (set6_bel M5 _ _ _ _ _ _), hid (set6_at K5 _ _ _ _ _ _), hid hCE0⟩)
            case rest =>
              obtain ⟨G, rfl, rfl, rfl, HM, HG, HCE0⟩ := hcut
              have hCEI : ¬ (CE : Int) = 0 := by have := HCE0.out; omega
              go_wp2_with fail
              go_ret2
              exact ⟨HX0.out.trans (HM.out.mono HX0.out.size), _, rfl, fun e => absurd e HCE0.out⟩
          | ok y =>
            obtain ⟨r, d⟩ := y
            rw [hR] at CRj
            obtain ⟨hd, hrt⟩ := HLE.out r d hR
            have HS := hid (HYE.out r d hR)
            obtain ⟨rt, rkh, rkd, rvh, rvd, rhs⟩ := r
            have CRX : Hid (∀ x, Below wr.heap.size wr x → Calls Tryz.prog 111 #[.string (b.extract k b.size), .int .i64 first, .int .i64 j] x fun e w' => ∃ ra rc, e = .returned (.tuple #[.agg #[.int .i64 rt, .bool rkh, .string rkd, .bool rvh, .string rvd, .slice ra rhs.length rc], .int .i64 d, .int .i64 0]) ∧ Below wr.heap.size wr w' ∧ Below x.heap.size x w' ∧ OwnH w' x.heap.size (.slice ra rhs.length rc) rhs) := fun x hx => (CRj.out x).mono fun e w' h => by
              obtain ⟨h1, ra, rc, h2, h3⟩ := h
              exact ⟨ra, rc, h2, hx.trans (h1.mono hx.size), h1, h3⟩
            have hdI : (d : Int) ≤ 16777216 := by omega
            have hkd : (k : Int) + (d : Int) ≤ b.size := by omega
            have HLEN : Hid (acc.length = j) := by have := HC.out.len; rw [List.length_map] at this; exact this
            clear HC HNO HYE HLE hR CRj
            go_wp2_with fail
            go_cut [13, 14, 15] (fun v13 v14 v15 wc => ∃ G ra rc, v13 = .pointer (some ⟨G, 0, none⟩) ∧ v14 = .int .i64 d ∧ v15 = .int .i64 0 ∧ Hid (Below wr.heap.size wr wc) ∧ Hid (wc.heap[G]? = some (.cells #[.int .i64 rt, .bool rkh, .string rkd, .bool rvh, .string rvd, .slice ra rhs.length rc] 49 (0, 0))) ∧ Hid (wr.heap.size ≤ G) ∧ Hid (OwnH wc wr.heap.size (.slice ra rhs.length rc) rhs))
            case first =>
              go_region_held3 (fun y => y.cell? ⟨w.heap.size, 4, none⟩ = some (.int .i64 first)) (first | with_reducible exact HK4.out _ M0 | with_reducible exact HK4.out _ M0d | with_reducible exact HK4.out _ MA | with_reducible exact HK4.out _ MAd | with_reducible exact HK4.out _ M5 | with_reducible exact HK4.out _ (bel_dr M5) | with_reducible exact HK4.out _ (M5.alloc M5.size _) | with_reducible exact HK4.out _ (bel_dr (M5.alloc M5.size _)) | with_reducible exact HK4.out _ (set6_bel M5 _ _ _ _ _ _) | with_reducible exact HK4.out _ (bel_dr (set6_bel M5 _ _ _ _ _ _))) ((go_at_call 111; with_reducible refine (CRX.out _ ?_).mono ?_; (first | with_reducible exact M0d | with_reducible exact M0 | with_reducible exact MAd | with_reducible exact MA); rintro e w5 ⟨ra, rc, rfl, M5, b5, O5⟩; first | (have K5 : w5.heap[wr.heap.size]? = _ := (by with_reducible exact keep KA' b5); obtain ⟨k0, k1, k2, k3, k4, k5⟩ := cells6 K5; obtain ⟨z0, z1, z2, z3, z4, z5⟩ := froz6 K5) | (have b5d : Below wr.drew.heap.size wr.drew w5 := (by with_reducible exact b5))))
              all_goals
                go_wp2
                go_meet
                case rel => first
                  | (with_reducible refine ⟨_, ra, rc, rfl, rfl, rfl, hid (bel_dr (M5.alloc M5.size _)), hid (heap_new _ _), hid M5.size, hid (ownh_alloc (ownh_lo O5 (by simp)) _)⟩)
                  | (with_reducible refine ⟨_, ra, rc, rfl, rfl, rfl, hid (M5.alloc M5.size _), hid (heap_new _ _), hid M5.size, hid (ownh_alloc (ownh_lo O5 (by simp)) _)⟩)
                  | (with_reducible refine ⟨_, ra, rc, rfl, rfl, rfl, hid (bel_dr (set6_bel M5 _ _ _ _ _ _)), hid (set6_at K5 _ _ _ _ _ _), hid (Nat.le_refl _), hid (ownh_set6 (ownh_lo O5 (by simp)) (ownh_gt O5 (by simp)) _ _ _ _ _ _)⟩)
                  | (with_reducible refine ⟨_, ra, rc, rfl, rfl, rfl, hid (set6_bel M5 _ _ _ _ _ _), hid (set6_at K5 _ _ _ _ _ _), hid (Nat.le_refl _), hid (ownh_set6 (ownh_lo O5 (by simp)) (ownh_gt O5 (by simp)) _ _ _ _ _ _)⟩)
            case rest =>
              obtain ⟨G, ra, rc, rfl, rfl, rfl, HM, HG, HGL, HOH⟩ := hcut
              obtain ⟨k0, k1, k2, k3, k4, k5⟩ := cells6 HG.out
              have HO5 := hid (HO.out.kept (fun g hg _ => HM.out.block g hg))
              have HOX : Hid (OwnH wc w.heap.size (RI.hv ⟨⟨rt, rkh, rkd, rvh, rvd, rhs⟩, ra, rc⟩) rhs) := own_base HX.out.b.size HOH.out
              have HAP : Hid (∀ y ∈ acc, ∀ g, y.hv.ownBlock = some g → (RI.hv ⟨⟨rt, rkh, rkd, rvh, rvd, rhs⟩, ra, rc⟩).ownBlock ≠ some g) := fun y hy g hg he => by
                have h1 := (World.ownsRow.lt (HO.out.hds y hy) g hg).2
                have h2 := (World.ownsRow.lt HOH.out g he).1
                omega
              have HX5 := hid (HX.out.call HM.out)
              have hsz5 := HX5.out.b.size
              have hrow := HO5.out.row
              clear HO HX
              go_wp2_with (at_builtin; refine wpList_append_own _ rfl _ _ 22 rfl w.heap.size 49 i0 (.agg #[.int .i64 0, .bool false, .string ⟨#[]⟩, .bool false, .string ⟨#[]⟩, .slice none 0 0]) 6 80 Tryz.underRecs hi hz0 hz1 hz2 rfl (by decide) _ _ _ rfl (hrow.alloc _) ⟨wc.heap.size, 0, none⟩ 1 1 (rc1 ⟨⟨rt, rkh, rkd, rvh, rvd, rhs⟩, ra, rc⟩) rfl rfl ?c1 ?c2 ?c3 ?c4 ?c5 ?_)
              case c1 => exact World.news_of_block (heap_new wc _)
              case c2 => exact rc1_one _
              case c3 => have := HLEN.out; unfold maxLen; omega
              case c4 => have := HLEN.out; omega
              case c5 => simp; omega
              intro v' w7 hown7 hgrow7 _
              have hba : Below wc.heap.size wc (wc.alloc (.cells (rc1 ⟨⟨rt, rkh, rkd, rvh, rvd, rhs⟩, ra, rc⟩).toArray 49)) := (Below.refl _ _).alloc (Nat.le_refl _) _
              have hH6 := HO5.out.kept (fun g hg _ => hba.block g hg)
              have hX6 := own_apart HOX.out (fun g hg => hba.block g (World.ownsRow.lt HOX.out g hg).2)
              have HO7 := hid (hH6.snoc (x := ⟨⟨rt, rkh, rkd, rvh, rvd, rhs⟩, ra, rc⟩) hX6 HAP.out hown7 hgrow7)
              have hp6 := keep HX5.out.p hba
              have HX7 : Hid (Bx1 w #[.int .i64 base, .int .i64 LN, .bool (decide (st = 1)), .int .i64 cnt, .int .i64 first, .int .i64 grt', .int .i64 prod, .int .i32 seq] 35 w7) := ⟨(hgrow7.block _ (lt_of_heap hp6) (fun e => own_ne hH6.row hp6 (by decide) e.symm)).trans hp6, (HX5.out.b.trans (hba.mono hsz5)).grown hgrow7 (Nat.le_trans hsz5 hba.size) (fun k hk => (World.ownsRow.lt hH6.row k hk).1)⟩
              clear hown7 hgrow7 hba hH6 hX6 hrow hp6
              go_wp2_with fail
              go_roundg g2
              case measure => omega
              case rel =>
                have ew : wrap64 ((j : Int) + 1) = ((j + 1 : Nat) : Int) := by unfold wrap64; omega
                have ew2 : wrap64 ((k : Int) + (d : Int)) = ((k + d : Nat) : Int) := by unfold wrap64; omega
                exact ⟨j + 1, k + d, acc ++ [⟨⟨rt, rkh, rkd, rvh, rvd, rhs⟩, ra, rc⟩], by omega, congrArg (Value.int .i64) (by first | exact ew2 | omega), by first | exact congrArg (Value.int .i64) ew | go_num, by show CB _ _ _ _ _; rw [List.map_append]; exact HS.out, HO7, HX7⟩
      · have hj : j = cnt := by omega
        subst hj
        have hce := HCO.out _ k HC.out.run
        have HLEN : Hid (acc.length = j) := by have := HC.out.len; rw [List.length_map] at this; exact this
        have HRUN := hid HC.out.run
        obtain ⟨a9, cap9, rfl, V9⟩ := HO.out.slice
        by_cases hk : k < b.size
        · rw [if_pos hk] at hce
          subst hce
          have hkI : (k : Int) < b.size := by omega
          go_wp2_with fail
          go_ret2
          exact ⟨HX.out.b, _, rfl, fun e => by cases e⟩
        · rw [if_neg hk] at hce
          have hkI : ¬ (k : Int) < b.size := by omega
          have hl1 : 1 ≤ acc.length := by have := HLEN.out; omega
          rw [ft_acc, ← gr_grt hl1] at hce
          rcases V9.2 with e | ⟨bb, off, rfl, hbb, hsix⟩
          · rw [e] at hl1; simp at hl1
          have q0 := (hsix 0 (by omega)).1
          rw [Nat.zero_mul, Nat.add_zero] at q0
          have h0I : (0 : Int) < acc.length := by omega
          have h0N : 0 < acc.length := by omega
          have hlb := lt_of_heap HX.out.p
          have CG := hid (fun w V => xgreatest_any acc (some ⟨bb, off, none⟩) cap9 w V (by have := HLEN.out; omega))
          generalize (acc.getD 0 dri).r.t = FT at *
          generalize hG : grt acc = GR at *
          by_cases hft : FT = first
          · have hK : ∀ y, Below wr.heap.size wr y → (y.cell? ⟨w.heap.size, 4, none⟩ = some (.int .i64 first) ∧ y.cell? ⟨w.heap.size, 5, none⟩ = some (.int .i64 grt') ∧ y.cell? ⟨bb, off, none⟩ = some (.int .i64 FT)) := fun y hy => ⟨(hy.cell (p := ⟨w.heap.size, 4, none⟩) hlb).trans c4, (hy.cell (p := ⟨w.heap.size, 5, none⟩) hlb).trans c5, (hy.cell (p := ⟨bb, off, none⟩) hbb).trans q0⟩
            have HK := hid hK
            have CGX : Hid (∀ y, Below wr.heap.size wr y → Calls Tryz.prog 32 #[.slice (some ⟨bb, off, none⟩) acc.length cap9] y fun e w' => e = .returned (.int .i64 GR) ∧ Below wr.heap.size wr w') := fun y hy => (CG.out y (V9.below hy)).mono fun e w' h => ⟨h.1, hy.trans (h.2.mono hy.size)⟩
            have M0 : Below wr.heap.size wr wr := Below.refl _ _
            have M0d := bel_dr M0
            have HBX := hid HX.out.b
            subst hft
            have hfB : (FT != FT) = false := by simp
            by_cases hgr : GR = grt'
            · rw [if_neg (by rintro (h | h); exact h rfl; exact h hgr)] at hce
              subst hce
              subst hgr
              have hgB : (GR != GR) = false := by simp
              clear hK CG hsix HC HCE HCO
              go_wp2_with fail
              go_region_held3 (fun y => y.cell? ⟨w.heap.size, 4, none⟩ = some (.int .i64 FT) ∧ y.cell? ⟨w.heap.size, 5, none⟩ = some (.int .i64 GR) ∧ y.cell? ⟨bb, off, none⟩ = some (.int .i64 FT)) (first | with_reducible exact HK.out _ M0 | with_reducible exact HK.out _ M0d | with_reducible exact HK.out _ M9 | with_reducible exact HK.out _ (bel_dr M9)) ((go_at_call 32; with_reducible refine (CGX.out _ ?_).mono ?_; (first | with_reducible exact M0d | with_reducible exact M0); rintro e w9 ⟨rfl, M9⟩))
              all_goals go_wp2_with fail
              all_goals go_ret2
              all_goals exact ⟨HBX.out.trans (M9.mono HBX.out.size), _, rfl, k, acc, HRUN.out, HO.out.kept (fun g hg _ => M9.block g hg)⟩
            · rw [if_pos (Or.inr hgr)] at hce
              subst hce
              have hgB : (GR != grt') = true := by rw [bne_iff_ne]; exact hgr
              clear hK CG hsix HC HCE HCO
              go_wp2_with fail
              go_region_held3 (fun y => y.cell? ⟨w.heap.size, 4, none⟩ = some (.int .i64 FT) ∧ y.cell? ⟨w.heap.size, 5, none⟩ = some (.int .i64 grt') ∧ y.cell? ⟨bb, off, none⟩ = some (.int .i64 FT)) (first | with_reducible exact HK.out _ M0 | with_reducible exact HK.out _ M0d | with_reducible exact HK.out _ M9 | with_reducible exact HK.out _ (bel_dr M9)) ((go_at_call 32; with_reducible refine (CGX.out _ ?_).mono ?_; (first | with_reducible exact M0d | with_reducible exact M0); rintro e w9 ⟨rfl, M9⟩))
              all_goals go_wp2_with fail
              all_goals go_ret2
              all_goals exact ⟨HBX.out.trans (M9.mono HBX.out.size), _, rfl, fun e => by cases e⟩
          · rw [if_pos (Or.inl hft)] at hce
            subst hce
            have hfB : (FT != first) = true := by rw [bne_iff_ne]; exact hft
            have HBX := hid HX.out.b
            clear CG hsix HC HCE HCO V9
            go_wp2_with fail
            go_quiet (fail)
            go_wp2_with fail
            go_ret2
            exact ⟨HBX.out.trans ((bel_drewN _ _).mono HBX.out.size), _, rfl, fun e => by cases e⟩
end Go.Proofs.YtihokphamgkkcaaGreat
namespace Go.Proofs.YtihokphamgkkcaaGreat
open Go.RowKit
theorem bx_set8 {w : World} {T : TypeId} {u0 u1 u2 u3 u4 u5 u6 u7 : Value} {x : World} (h : Bx1 w #[u0, u1, u2, u3, u4, u5, u6, u7] T x) (v0 v1 v2 v3 v4 v5 v6 v7 : Value) :
    Bx1 w #[v0, v1, v2, v3, v4, v5, v6, v7] T ((((((((x.setCell ⟨w.heap.size, 0, none⟩ v0).setCell ⟨w.heap.size, 1, none⟩ v1).setCell ⟨w.heap.size, 2, none⟩ v2).setCell ⟨w.heap.size, 3, none⟩ v3).setCell ⟨w.heap.size, 4, none⟩ v4).setCell ⟨w.heap.size, 5, none⟩ v5).setCell ⟨w.heap.size, 6, none⟩ v6).setCell ⟨w.heap.size, 7, none⟩ v7) :=
  ⟨set8_at h.p _ _ _ _ _ _ _ _, (((((((h.b.setCell (p := ⟨w.heap.size, 0, none⟩) (Nat.le_refl _) _).setCell (p := ⟨w.heap.size, 1, none⟩) (Nat.le_refl _) _).setCell (p := ⟨w.heap.size, 2, none⟩) (Nat.le_refl _) _).setCell (p := ⟨w.heap.size, 3, none⟩) (Nat.le_refl _) _).setCell (p := ⟨w.heap.size, 4, none⟩) (Nat.le_refl _) _).setCell (p := ⟨w.heap.size, 5, none⟩) (Nat.le_refl _) _).setCell (p := ⟨w.heap.size, 6, none⟩) (Nat.le_refl _) _).setCell (p := ⟨w.heap.size, 7, none⟩) (Nat.le_refl _) _⟩
/-- The answer's box, and the head's. -/
structure WB (w : World) (G : Nat) (c : Array Value) (y : World) : Prop where
  p : Bx1 w #[.int .i64 0, .int .i64 0, .bool false, .int .i64 0, .int .i64 0, .int .i64 0, .int .i64 0, .int .i32 0] 35 y
  h : y.heap[G]? = some (.cells c 35 (0, 0))
theorem WB.call {w : World} {G : Nat} {c : Array Value} {y y' : World} (h : WB w G c y) (k : Below y.heap.size y y') : WB w G c y' := ⟨h.p.call k, keep h.h k⟩
theorem WB.drew {w : World} {G : Nat} {c : Array Value} {y : World} (h : WB w G c y) : WB w G c y.drew := h.call ⟨rfl, rfl, rfl, Nat.le_refl _, fun _ _ => rfl⟩
theorem set8_far {x : World} {G R : Nat} (h : G ≠ R) (v0 v1 v2 v3 v4 v5 v6 v7 : Value) :
    ((((((((x.setCell ⟨R, 0, none⟩ v0).setCell ⟨R, 1, none⟩ v1).setCell ⟨R, 2, none⟩ v2).setCell ⟨R, 3, none⟩ v3).setCell ⟨R, 4, none⟩ v4).setCell ⟨R, 5, none⟩ v5).setCell ⟨R, 6, none⟩ v6).setCell ⟨R, 7, none⟩ v7).heap[G]? = x.heap[G]? := by
  rw [Below.heap_setCell _ ⟨R, 7, none⟩ _ _ h, Below.heap_setCell _ ⟨R, 6, none⟩ _ _ h, Below.heap_setCell _ ⟨R, 5, none⟩ _ _ h, Below.heap_setCell _ ⟨R, 4, none⟩ _ _ h, Below.heap_setCell _ ⟨R, 3, none⟩ _ _ h, Below.heap_setCell _ ⟨R, 2, none⟩ _ _ h, Below.heap_setCell _ ⟨R, 1, none⟩ _ _ h, Below.heap_setCell _ ⟨R, 0, none⟩ _ _ h]
theorem held_low {w : World} {B B' : Nat} {v : Value} {l : List RI} (h : Held w B' v l) (hB : B ≤ B') : Held w B v l :=
  ⟨⟨h.row.1, h.row.2.imp_right fun ⟨g, cap, cur, h1, h2, h3⟩ => ⟨g, cap, cur, h1, Nat.le_trans hB h2, h3⟩⟩, fun x hx => own_base hB (h.hds x hx), h.ap⟩
theorem held_set8 {w : World} {B R : Nat} {v : Value} {l : List RI} (h : Held w B v l) (hR : R < B) (v0 v1 v2 v3 v4 v5 v6 v7 : Value) :
    Held ((((((((w.setCell ⟨R, 0, none⟩ v0).setCell ⟨R, 1, none⟩ v1).setCell ⟨R, 2, none⟩ v2).setCell ⟨R, 3, none⟩ v3).setCell ⟨R, 4, none⟩ v4).setCell ⟨R, 5, none⟩ v5).setCell ⟨R, 6, none⟩ v6).setCell ⟨R, 7, none⟩ v7) B v l := h.kept fun g _ hx => set8_far (by
  rcases hx with hx | ⟨x, hx, hg⟩
  · have := (World.ownsRow.lt h.row g hx).1; omega
  · have := (World.ownsRow.lt (h.hds x hx) g hg).1; omega) _ _ _ _ _ _ _ _
/-- What whole answers. -/
def WhPost (R : Except Nat (Fs × ByteArray)) (w : World) (e : Ending) (w' : World) : Prop :=
  Below w.heap.size w w' ∧ match R with
    | .error x => e = .returned (.tuple #[noHd, .slice none 0 0, .int .i64 x])
    | .ok y => ∃ v k acc, e = .returned (.tuple #[hdV y.1, v, .int .i64 0]) ∧ crun y.2 y.1.first y.1.cnt = .ok (acc.map RI.r, k) ∧ Held w' w.heap.size v acc
set_option maxHeartbeats 4000000 in
set_option maxRecDepth 20000 in
theorem xwhole_any (s : ByteArray) (frame plain : Int) (w : World) (hs : s.size ≤ 1048576) :
    Calls Tryz.prog 38 #[.string s, .int .i64 frame, .int .i64 plain] w (WhPost (opn s frame plain) w) := by
  have CC := hid (fun w => xcounted_any frame plain w)
  have cp := fun w => xpeek_any s w (by omega)
  have N0 := Bx1.new w #[.int .i64 0, .int .i64 0, .bool false, .int .i64 0, .int .i64 0, .int .i64 0, .int .i64 0, .int .i32 0] 35
  have hm1 := wth_in frame 58 16777216 (by omega)
  have hm2 := wth_in plain 7 16777216 (by omega)
  obtain ⟨R, hRd⟩ : ∃ R, opn s frame plain = R := ⟨_, rfl⟩
  rw [hRd]
  have HR0 := hid hRd
  unfold opn at hRd
  by_cases h0 : pke s = 0
  · rw [if_neg (fun h => h h0)] at hRd
    rw [if_pos h0, h0] at cp
    obtain ⟨hz, hR⟩ := pke_zero h0
    have hf := fsOf_ok (s := s) hz
    have hsum : (fsOf s).sum = num s 13 4 := rfl
    have CS4 := hid (fun w => xnum_any s 13 4 w (by omega) (by omega) (by omega))
    have hb13 : num s 13 4 < 4294967296 := num_lt4 (by omega)
    rw [← hsum] at CS4 hb13
    clear hsum h0
    generalize fsOf s = F at *
    have CP := hid cp
    clear cp
    unfold hdV at CP
    generalize wth frame 58 16777216 = FR at *
    generalize wth plain 7 16777216 = PL at *
    have l1 := hR.l1
    have l2 := hR.l2
    obtain ⟨LN, hLN⟩ : ∃ LN : Nat, 12 + F.len = LN := ⟨_, rfl⟩
    rw [hLN] at CP
    unfold whe at hRd
    rw [hLN] at hRd
    have HR := hid hRd
    clear hRd HR0
    go_enter Tryz.func38, Tryz.ntmps38
    go_wp2_with fail
    refine (CC.out _).mono ?_
    rintro e w1 ⟨rfl, rfl⟩
    go_wp2_with fail
    refine (CP.out _).mono ?_
    rintro e w2 ⟨rfl, b2⟩
    have X2 : WB w w2.heap.size #[.int .i64 F.base, .int .i64 LN, .bool (decide (F.st = 1)), .int .i64 F.cnt, .int .i64 F.first, .int .i64 F.grt, .int .i64 F.prod, .int .i32 F.seq] (w2.alloc (.cells #[.int .i64 F.base, .int .i64 LN, .bool (decide (F.st = 1)), .int .i64 F.cnt, .int .i64 F.first, .int .i64 F.grt, .int .i64 F.prod, .int .i32 F.seq] 35)) := ⟨(N0.call b2).alloc _, heap_new _ _⟩
    have hLI : (LN : Int) ≤ 16777216 := by omega
    have hL51 : (51 : Int) ≤ LN := by omega
    clear b2 N0 CC CP
    obtain ⟨W2, hW2⟩ : ∃ x, w2.alloc (.cells #[.int .i64 F.base, .int .i64 LN, .bool (decide (F.st = 1)), .int .i64 F.cnt, .int .i64 F.first, .int .i64 F.grt, .int .i64 F.prod, .int .i32 F.seq] 35) = x := ⟨_, rfl⟩
    rw [hW2] at X2
    obtain ⟨h0, h1, h2, h3, h4, h5, h6, h7⟩ := cells8 X2.h
    obtain ⟨r0, r1, r2, r3, r4, r5, r6, r7⟩ := cells8 X2.p.p
    obtain ⟨z0, z1, z2, z3, z4, z5, z6, z7⟩ := froz8 X2.p.p
    by_cases c1 : FR < (LN : Nat)
    · have hRe : R = .error 66 := by rw [← HR.out, if_pos c1, if_pos (by decide)]
      subst hRe
      clear HR
      go_wp2_with fail
      have P := put8' X2.p (.int .i64 0) (.int .i64 0) (.bool false) (.int .i64 0) (.int .i64 0) (.int .i64 0) (.int .i64 0) (.int .i32 0)
      clear r0 r1 r2 r3 r4 r5 r6 r7 z0 z1 z2 z3 z4 z5 z6 z7
      obtain ⟨e0, e1, e2, e3, e4, e5, e6, e7⟩ := cells8 P.p
      exact bodyPost_ret (v := .tuple #[.agg #[.int .i64 0, .int .i64 0, .bool false, .int .i64 0, .int .i64 0, .int .i64 0, .int .i64 0, .int .i32 0], .slice none 0 0, .int .i64 66]) (by simp [results, Tryz.results38, go_sem, e0, e1, e2, e3, e4, e5, e6, e7]) rfl ⟨P.b, rfl⟩
    · rw [if_neg c1] at HR
      by_cases c2 : s.size < LN
      · have hRe : R = .error 20 := by rw [← HR.out, if_pos c2, if_pos (by decide)]
        subst hRe
        clear HR
        have c2I : (s.size : Int) < LN := by omega
        go_wp2_with fail
        have P := put8' X2.p (.int .i64 0) (.int .i64 0) (.bool false) (.int .i64 0) (.int .i64 0) (.int .i64 0) (.int .i64 0) (.int .i32 0)
        clear r0 r1 r2 r3 r4 r5 r6 r7 z0 z1 z2 z3 z4 z5 z6 z7
        obtain ⟨e0, e1, e2, e3, e4, e5, e6, e7⟩ := cells8 P.p
        exact bodyPost_ret (v := .tuple #[.agg #[.int .i64 0, .int .i64 0, .bool false, .int .i64 0, .int .i64 0, .int .i64 0, .int .i64 0, .int .i32 0], .slice none 0 0, .int .i64 20]) (by simp [results, Tryz.results38, go_sem, e0, e1, e2, e3, e4, e5, e6, e7]) rfl ⟨P.b, rfl⟩
      · rw [if_neg c2] at HR
        have c2I : ¬ (s.size : Int) < LN := by omega
        have hLs : (LN : Int) ≤ s.size := by omega
        have CU := hid (fun w => K.rsum_any (s.extract 17 LN) w (by rw [ByteArray.size_extract]; omega))
        have hcr : K.M.more 0 (s.extract 17 LN).data.toList = crcOf (s.extract 17 LN) := rfl
        rw [hcr] at CU
        clear hcr
        have hb13I : (F.sum : Int) ≤ 4294967295 := by omega
        by_cases c3 : crcOf (s.extract 17 LN) = F.sum
        · have ez : (if crcOf (s.extract 17 LN) ≠ F.sum then 24 else 0 : Nat) = 0 := if_neg (fun h => h c3)
          rw [ez, if_neg (fun h => h rfl)] at HR
          clear ez
          have hzF : (s.extract 0 LN).size = LN := by rw [ByteArray.size_extract]; omega
          have heF : (s.extract 0 LN).extract 51 (s.extract 0 LN).size = s.extract 51 LN := by rw [hzF, ByteArray.extract_extract]; congr 1 <;> omega
          have CR := hid (fun w => xrecords_any (s.extract 0 LN) F PL w hf hR (by omega) (by omega) hm2.2)
          unfold RcPost rec6 hdV at CR
          rw [heF, hLN] at CR
          rw [c3] at CU
          have X2d := X2.drew
          generalize hE0 : s.extract 0 LN = E0 at *
          clear hzF heF hf hR c3
          cases hb : bod (s.extract 51 LN) F.st PL with
          | error x =>
            rw [hb] at CR HR
            have hx := bod_pos hb
            have hRe : R = .error x := HR.out.symm
            subst hRe
            clear HR
            have hxI : ¬ (x : Int) = 0 := by omega
            dsimp only at CR
            clear hb
            go_wp2_with (first | (go_at_call 33; refine (CU.out _).mono ?_; rintro e w3 ⟨rfl, rfl⟩) | (go_at_call 36; refine (CS4.out _).mono ?_; rintro e w3 ⟨rfl, rfl⟩))
            clear h0 h1 h2 h3 h4 h5 h6 h7 r0 r1 r2 r3 r4 r5 r6 r7 z0 z1 z2 z3 z4 z5 z6 z7
            go_region_held3 (fun y => y.cell? ⟨w2.heap.size, 0, none⟩ = some (.int .i64 F.base) ∧ y.cell? ⟨w2.heap.size, 1, none⟩ = some (.int .i64 LN) ∧ y.cell? ⟨w2.heap.size, 2, none⟩ = some (.bool (decide (F.st = 1))) ∧ y.cell? ⟨w2.heap.size, 3, none⟩ = some (.int .i64 F.cnt) ∧ y.cell? ⟨w2.heap.size, 4, none⟩ = some (.int .i64 F.first) ∧ y.cell? ⟨w2.heap.size, 5, none⟩ = some (.int .i64 F.grt) ∧ y.cell? ⟨w2.heap.size, 6, none⟩ = some (.int .i64 F.prod) ∧ y.cell? ⟨w2.heap.size, 7, none⟩ = some (.int .i32 F.seq)) (first | with_reducible exact cells8 X2.h | with_reducible exact cells8 X2d.h | with_reducible exact cells8 X3.h) ((go_at_call 73; with_reducible refine (CR.out _).mono ?_; rintro e w3 ⟨b3, v3, rfl, h3⟩; have X3 : WB w w2.heap.size #[.int .i64 F.base, .int .i64 LN, .bool (decide (F.st = 1)), .int .i64 F.cnt, .int .i64 F.first, .int .i64 F.grt, .int .i64 F.prod, .int .i32 F.seq] w3 := (by first | exact X2d.call b3 | exact X2.call b3)))
            all_goals obtain ⟨h0', h1', h2', h3', h4', h5', h6', h7'⟩ := cells8 X3.h
            all_goals obtain ⟨r0, r1, r2, r3, r4, r5, r6, r7⟩ := cells8 X3.p.p
            all_goals obtain ⟨z0, z1, z2, z3, z4, z5, z6, z7⟩ := froz8 X3.p.p
            all_goals go_wp2_with fail
            have P := put8' X3.p (.int .i64 0) (.int .i64 0) (.bool false) (.int .i64 0) (.int .i64 0) (.int .i64 0) (.int .i64 0) (.int .i32 0)
            clear r0 r1 r2 r3 r4 r5 r6 r7 z0 z1 z2 z3 z4 z5 z6 z7
            obtain ⟨e0, e1, e2, e3, e4, e5, e6, e7⟩ := cells8 P.p
            exact bodyPost_ret (v := .tuple #[.agg #[.int .i64 0, .int .i64 0, .bool false, .int .i64 0, .int .i64 0, .int .i64 0, .int .i64 0, .int .i32 0], .slice none 0 0, .int .i64 x]) (by simp [results, Tryz.results38, go_sem, e0, e1, e2, e3, e4, e5, e6, e7]) rfl ⟨P.b, rfl⟩
          | ok b =>
            rw [hb] at CR HR
            dsimp only at CR HR
            clear hb
            by_cases hc : cbe b F = 0
            · rw [if_neg (fun h => h hc)] at HR
              have hRe : R = .ok (F, b) := HR.out.symm
              subst hRe
              rw [hc] at CR
              clear HR
              go_wp2_with (first | (go_at_call 33; refine (CU.out _).mono ?_; rintro e w3 ⟨rfl, rfl⟩) | (go_at_call 36; refine (CS4.out _).mono ?_; rintro e w3 ⟨rfl, rfl⟩))
              clear h0 h1 h2 h3 h4 h5 h6 h7 r0 r1 r2 r3 r4 r5 r6 r7 z0 z1 z2 z3 z4 z5 z6 z7
              go_region_held3 (fun y => y.cell? ⟨w2.heap.size, 0, none⟩ = some (.int .i64 F.base) ∧ y.cell? ⟨w2.heap.size, 1, none⟩ = some (.int .i64 LN) ∧ y.cell? ⟨w2.heap.size, 2, none⟩ = some (.bool (decide (F.st = 1))) ∧ y.cell? ⟨w2.heap.size, 3, none⟩ = some (.int .i64 F.cnt) ∧ y.cell? ⟨w2.heap.size, 4, none⟩ = some (.int .i64 F.first) ∧ y.cell? ⟨w2.heap.size, 5, none⟩ = some (.int .i64 F.grt) ∧ y.cell? ⟨w2.heap.size, 6, none⟩ = some (.int .i64 F.prod) ∧ y.cell? ⟨w2.heap.size, 7, none⟩ = some (.int .i32 F.seq)) (first | with_reducible exact cells8 X2.h | with_reducible exact cells8 X2d.h | with_reducible exact cells8 X3.h) ((go_at_call 73; with_reducible refine (CR.out _).mono ?_; rintro e w3 ⟨b3, v3, rfl, h3⟩; have X3 : WB w w2.heap.size #[.int .i64 F.base, .int .i64 LN, .bool (decide (F.st = 1)), .int .i64 F.cnt, .int .i64 F.first, .int .i64 F.grt, .int .i64 F.prod, .int .i32 F.seq] w3 := (by first | exact X2d.call b3 | exact X2.call b3)))
              all_goals obtain ⟨h0', h1', h2', h3', h4', h5', h6', h7'⟩ := cells8 X3.h
              all_goals obtain ⟨r0, r1, r2, r3, r4, r5, r6, r7⟩ := cells8 X3.p.p
              all_goals obtain ⟨z0, z1, z2, z3, z4, z5, z6, z7⟩ := froz8 X3.p.p
              all_goals go_wp2_with fail
              all_goals
                obtain ⟨b', kk, acc, hbe, hrun, hH⟩ := h3 trivial
                cases hbe
                have hHs := held_set8 hH (lt_of_heap X2.p.p) (.int .i64 F.base) (.int .i64 LN) (.bool (decide (F.st = 1))) (.int .i64 F.cnt) (.int .i64 F.first) (.int .i64 F.grt) (.int .i64 F.prod) (.int .i32 F.seq)
                have P := put8' X3.p (.int .i64 F.base) (.int .i64 LN) (.bool (decide (F.st = 1))) (.int .i64 F.cnt) (.int .i64 F.first) (.int .i64 F.grt) (.int .i64 F.prod) (.int .i32 F.seq)
                clear r0 r1 r2 r3 r4 r5 r6 r7 z0 z1 z2 z3 z4 z5 z6 z7
                obtain ⟨e0, e1, e2, e3, e4, e5, e6, e7⟩ := cells8 P.p
                exact bodyPost_ret (v := .tuple #[.agg #[.int .i64 F.base, .int .i64 LN, .bool (decide (F.st = 1)), .int .i64 F.cnt, .int .i64 F.first, .int .i64 F.grt, .int .i64 F.prod, .int .i32 F.seq], v3, .int .i64 0]) (by simp [results, Tryz.results38, go_sem, e0, e1, e2, e3, e4, e5, e6, e7]) rfl ⟨P.b, v3, kk, acc, by unfold hdV; rw [hLN], hrun, held_low hHs X2.p.b.size⟩
            · rw [if_pos hc] at HR
              have hRe : R = .error (cbe b F) := HR.out.symm
              subst hRe
              clear HR
              have hcI : ¬ ((cbe b F : Nat) : Int) = 0 := by omega
              generalize cbe b F = CX at *
              go_wp2_with (first | (go_at_call 33; refine (CU.out _).mono ?_; rintro e w3 ⟨rfl, rfl⟩) | (go_at_call 36; refine (CS4.out _).mono ?_; rintro e w3 ⟨rfl, rfl⟩))
              clear h0 h1 h2 h3 h4 h5 h6 h7 r0 r1 r2 r3 r4 r5 r6 r7 z0 z1 z2 z3 z4 z5 z6 z7
              go_region_held3 (fun y => y.cell? ⟨w2.heap.size, 0, none⟩ = some (.int .i64 F.base) ∧ y.cell? ⟨w2.heap.size, 1, none⟩ = some (.int .i64 LN) ∧ y.cell? ⟨w2.heap.size, 2, none⟩ = some (.bool (decide (F.st = 1))) ∧ y.cell? ⟨w2.heap.size, 3, none⟩ = some (.int .i64 F.cnt) ∧ y.cell? ⟨w2.heap.size, 4, none⟩ = some (.int .i64 F.first) ∧ y.cell? ⟨w2.heap.size, 5, none⟩ = some (.int .i64 F.grt) ∧ y.cell? ⟨w2.heap.size, 6, none⟩ = some (.int .i64 F.prod) ∧ y.cell? ⟨w2.heap.size, 7, none⟩ = some (.int .i32 F.seq)) (first | with_reducible exact cells8 X2.h | with_reducible exact cells8 X2d.h | with_reducible exact cells8 X3.h) ((go_at_call 73; with_reducible refine (CR.out _).mono ?_; rintro e w3 ⟨b3, v3, rfl, h3⟩; have X3 : WB w w2.heap.size #[.int .i64 F.base, .int .i64 LN, .bool (decide (F.st = 1)), .int .i64 F.cnt, .int .i64 F.first, .int .i64 F.grt, .int .i64 F.prod, .int .i32 F.seq] w3 := (by first | exact X2d.call b3 | exact X2.call b3)))
              all_goals obtain ⟨h0', h1', h2', h3', h4', h5', h6', h7'⟩ := cells8 X3.h
              all_goals obtain ⟨r0, r1, r2, r3, r4, r5, r6, r7⟩ := cells8 X3.p.p
              all_goals obtain ⟨z0, z1, z2, z3, z4, z5, z6, z7⟩ := froz8 X3.p.p
              all_goals go_wp2_with fail
              have P := put8' X3.p (.int .i64 0) (.int .i64 0) (.bool false) (.int .i64 0) (.int .i64 0) (.int .i64 0) (.int .i64 0) (.int .i32 0)
              clear r0 r1 r2 r3 r4 r5 r6 r7 z0 z1 z2 z3 z4 z5 z6 z7
              obtain ⟨e0, e1, e2, e3, e4, e5, e6, e7⟩ := cells8 P.p
              exact bodyPost_ret (v := .tuple #[.agg #[.int .i64 0, .int .i64 0, .bool false, .int .i64 0, .int .i64 0, .int .i64 0, .int .i64 0, .int .i32 0], .slice none 0 0, .int .i64 CX]) (by simp [results, Tryz.results38, go_sem, e0, e1, e2, e3, e4, e5, e6, e7]) rfl ⟨P.b, rfl⟩
        · have ez : (if crcOf (s.extract 17 LN) ≠ F.sum then 24 else 0 : Nat) = 24 := if_pos c3
          have hRe : R = .error 24 := by rw [← HR.out, ez, if_pos (by decide)]
          clear ez
          subst hRe
          clear HR
          have c3I : ¬ (crcOf (s.extract 17 LN) : Int) = F.sum := by omega
          generalize crcOf (s.extract 17 LN) = CX at *
          go_wp2_with (first | (go_at_call 33; refine (CU.out _).mono ?_; rintro e w3 ⟨rfl, rfl⟩) | (go_at_call 36; refine (CS4.out _).mono ?_; rintro e w3 ⟨rfl, rfl⟩))
          have P := put8' X2.p (.int .i64 0) (.int .i64 0) (.bool false) (.int .i64 0) (.int .i64 0) (.int .i64 0) (.int .i64 0) (.int .i32 0)
          clear r0 r1 r2 r3 r4 r5 r6 r7 z0 z1 z2 z3 z4 z5 z6 z7
          obtain ⟨e0, e1, e2, e3, e4, e5, e6, e7⟩ := cells8 P.p
          exact bodyPost_ret (v := .tuple #[.agg #[.int .i64 0, .int .i64 0, .bool false, .int .i64 0, .int .i64 0, .int .i64 0, .int .i64 0, .int .i32 0], .slice none 0 0, .int .i64 24]) (by simp [results, Tryz.results38, go_sem, e0, e1, e2, e3, e4, e5, e6, e7]) rfl ⟨P.b, rfl⟩
  · rw [if_pos h0] at hRd
    clear HR0
    rw [if_neg h0] at cp
    have hpI : ¬ ((pke s : Nat) : Int) = 0 := by omega
    generalize pke s = PK at *
    subst hRd
    have CP := hid cp
    clear cp
    unfold noHd at CP
    go_enter Tryz.func38, Tryz.ntmps38
    go_wp2_with fail
    refine (CC.out _).mono ?_
    rintro e w1 ⟨rfl, rfl⟩
    go_wp2_with fail
    refine (CP.out _).mono ?_
    rintro e w2 ⟨rfl, b2⟩
    have N2 := (N0.call b2).alloc (.cells #[.int .i64 0, .int .i64 0, .bool false, .int .i64 0, .int .i64 0, .int .i64 0, .int .i64 0, .int .i32 0] 35)
    obtain ⟨r0, r1, r2, r3, r4, r5, r6, r7⟩ := cells8 N2.p
    obtain ⟨z0, z1, z2, z3, z4, z5, z6, z7⟩ := froz8 N2.p
    clear b2 N0
    go_wp2_with fail
    have P := put8' N2 (.int .i64 0) (.int .i64 0) (.bool false) (.int .i64 0) (.int .i64 0) (.int .i64 0) (.int .i64 0) (.int .i32 0)
    clear r0 r1 r2 r3 r4 r5 r6 r7 z0 z1 z2 z3 z4 z5 z6 z7
    obtain ⟨e0, e1, e2, e3, e4, e5, e6, e7⟩ := cells8 P.p
    exact bodyPost_ret (v := .tuple #[.agg #[.int .i64 0, .int .i64 0, .bool false, .int .i64 0, .int .i64 0, .int .i64 0, .int .i64 0, .int .i32 0], .slice none 0 0, .int .i64 PK]) (by simp [results, Tryz.results38, go_sem, e0, e1, e2, e3, e4, e5, e6, e7]) rfl ⟨P.b, rfl⟩
set_option maxHeartbeats 2000000 in
set_option maxRecDepth 20000 in
/-- Check answers as the program's does. -/
theorem xcheck_any (s : ByteArray) (frame plain : Int) (w : World) (hs : s.size ≤ 1048576) :
    Calls Tryz.prog 15 #[.string s, .int .i64 frame, .int .i64 plain] w fun e w' => e = .returned (match opn s frame plain with | .error x => .tuple #[noHd, .int .i64 x] | .ok y => .tuple #[hdV y.1, .int .i64 0]) ∧ Below w.heap.size w w' := by
  have cw := fun w => xwhole_any s frame plain w hs
  have N0 := Bx1.new w #[.int .i64 0, .int .i64 0, .bool false, .int .i64 0, .int .i64 0, .int .i64 0, .int .i64 0, .int .i32 0] 35
  unfold WhPost at cw
  cases ho : opn s frame plain with
  | error x =>
    rw [ho] at cw
    unfold noHd at *
    dsimp only at *
    have CW := hid cw
    clear cw ho
    go_enter Tryz.func15, Tryz.ntmps15
    go_wp2_with fail
    refine (CW.out _).mono ?_
    rintro e w1 ⟨b1, rfl⟩
    have N1 := (N0.call b1).alloc (.cells #[.int .i64 0, .int .i64 0, .bool false, .int .i64 0, .int .i64 0, .int .i64 0, .int .i64 0, .int .i32 0] 35)
    obtain ⟨r0, r1, r2, r3, r4, r5, r6, r7⟩ := cells8 N1.p
    obtain ⟨z0, z1, z2, z3, z4, z5, z6, z7⟩ := froz8 N1.p
    go_wp2_with fail
    have P := put8' N1 (.int .i64 0) (.int .i64 0) (.bool false) (.int .i64 0) (.int .i64 0) (.int .i64 0) (.int .i64 0) (.int .i32 0)
    clear r0 r1 r2 r3 r4 r5 r6 r7 z0 z1 z2 z3 z4 z5 z6 z7
    obtain ⟨e0, e1, e2, e3, e4, e5, e6, e7⟩ := cells8 P.p
    exact bodyPost_ret (v := .tuple #[.agg #[.int .i64 0, .int .i64 0, .bool false, .int .i64 0, .int .i64 0, .int .i64 0, .int .i64 0, .int .i32 0], .int .i64 x]) (by simp [results, Tryz.results15, go_sem, e0, e1, e2, e3, e4, e5, e6, e7]) rfl ⟨rfl, P.b⟩
  | ok y =>
    obtain ⟨F, bb⟩ := y
    rw [ho] at cw
    unfold hdV at *
    dsimp only at *
    have CW := hid cw
    clear cw ho
    generalize ((12 + F.len : Nat) : Int) = LN at *
    go_enter Tryz.func15, Tryz.ntmps15
    go_wp2_with fail
    refine (CW.out _).mono ?_
    rintro e w1 ⟨b1, v, kk, acc, rfl, -, -⟩
    have N1 := (N0.call b1).alloc (.cells #[.int .i64 F.base, .int .i64 LN, .bool (decide (F.st = 1)), .int .i64 F.cnt, .int .i64 F.first, .int .i64 F.grt, .int .i64 F.prod, .int .i32 F.seq] 35)
    obtain ⟨r0, r1, r2, r3, r4, r5, r6, r7⟩ := cells8 N1.p
    obtain ⟨z0, z1, z2, z3, z4, z5, z6, z7⟩ := froz8 N1.p
    go_wp2_with fail
    have P := put8' N1 (.int .i64 F.base) (.int .i64 LN) (.bool (decide (F.st = 1))) (.int .i64 F.cnt) (.int .i64 F.first) (.int .i64 F.grt) (.int .i64 F.prod) (.int .i32 F.seq)
    clear r0 r1 r2 r3 r4 r5 r6 r7 z0 z1 z2 z3 z4 z5 z6 z7
    obtain ⟨e0, e1, e2, e3, e4, e5, e6, e7⟩ := cells8 P.p
    exact bodyPost_ret (v := .tuple #[.agg #[.int .i64 F.base, .int .i64 LN, .bool (decide (F.st = 1)), .int .i64 F.cnt, .int .i64 F.first, .int .i64 F.grt, .int .i64 F.prod, .int .i32 F.seq], .int .i64 0]) (by simp [results, Tryz.results15, go_sem, e0, e1, e2, e3, e4, e5, e6, e7]) rfl ⟨rfl, P.b⟩
end Go.Proofs.YtihokphamgkkcaaGreat
