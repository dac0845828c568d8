/- Texts of the proof, put together: X6n, X6p. -/
import Derived.Test.YtihokphamgkkcaaGreatMB1
namespace Go.Proofs.YtihokphamgkkcaaGreat
open Go.RowKit
theorem be_stepS (s : ByteArray) (a n j : Nat) (hj : j < n) (hs : a + n ≤ s.size) (h8 : j < 8) :
    bits BinOp.or IntKind.u64 (IntKind.u64.wrap ((be ((bl (s.extract a (a + n))).take j) : Int) * 256)) (IntKind.u64.wrap ((s[a + j]'(by omega)).toNat : Int)) = ((be ((bl (s.extract a (a + n))).take (j + 1)) : Nat) : Int) := by
  have hz : (s.extract a (a + n)).size = n := by simp [ByteArray.size_extract]; omega
  have hg : (s.extract a (a + n))[j]'(by omega) = s[a + j]'(by omega) := ByteArray.getElem_extract _
  have := be_step (s.extract a (a + n)) j (by omega) h8
  rw [hg] at this
  exact this
set_option maxHeartbeats 1000000 in
set_option maxRecDepth 20000 in
theorem xnum_any (s : ByteArray) (a n : Nat) (w : World) (h : a + n ≤ s.size) (hs : s.size ≤ 9223372036854775807) (hn : n ≤ 8) :
    Calls Tryz.prog 36 #[.string s, .int .i64 a, .int .i64 n] w fun e w' => e = .returned (.int .u64 (num s a n)) ∧ w' = w := by
  unfold num
  have HE : Hid ((bl (s.extract a (a + n))).take n = bl (s.extract a (a + n))) := List.take_of_length_le (by rw [bl_len, ByteArray.size_extract]; omega)
  have HST := hid (fun j hj => be_stepS s a n j hj h)
  generalize bl (s.extract a (a + n)) = T at *
  obtain ⟨K, hK⟩ : ∃ K, a + n = K := ⟨_, rfl⟩
  have HKK := hid hK
  have hKI : (a : Int) + (n : Int) = (K : Int) := by omega
  clear hK
  go_enter Tryz.func36, Tryz.ntmps36
  go_wp2_with fail
  go_loop [7, 8] (fun v i => ∃ j : Nat, j ≤ n ∧ i = .int .i64 (a + j : Nat) ∧ v = .int .u64 (be (T.take j))) (fun _ i => K - (intOf i).toNat)
  case atStart => exact ⟨0, by omega, rfl, rfl⟩
  case round =>
    obtain ⟨j, hj, rfl, rfl⟩ := hrel
    by_cases hlt : j < n
    · have HS := hid (HST.out j hlt (by omega))
      obtain ⟨I, hI⟩ : ∃ I, a + j = I := ⟨_, rfl⟩
      have HI := hid hI
      have HS2 : Hid (∀ (hI : I < s.size), bits BinOp.or IntKind.u64 (IntKind.u64.wrap ((be (T.take j) : Int) * 256)) (IntKind.u64.wrap ((s[I]'hI).toNat : Int)) = ((be (T.take (j + 1)) : Nat) : Int)) := by
        subst hI
        exact fun _ => HS.out
      have hIs : I < s.size := by omega
      have hIK : (I : Int) < K := by omega
      rw [hI]
      clear HS HST hI
      go_wp2
      go_round
      case rel => exact ⟨j + 1, by omega, congrArg (Value.int .i64) (by have := HI.out; omega), congrArg (Value.int .u64) (HS2.out hIs)⟩
      case measure => simp [intOf]; omega
    · have hjn : j = n := by omega
      subst hjn
      obtain ⟨I, hI⟩ : ∃ I, a + j = I := ⟨_, rfl⟩
      have hIK : ¬ (I : Int) < K := by omega
      rw [hI]
      clear hI
      go_wp2
      go_ret
      exact ⟨by rw [HE.out]; rfl, rfl⟩
end Go.Proofs.YtihokphamgkkcaaGreat
namespace Go.Proofs.YtihokphamgkkcaaGreat
open Go.RowKit
set_option maxHeartbeats 1000000 in
set_option maxRecDepth 20000 in
theorem xcounted_any (fr pl : Int) (w : World) : Calls Tryz.prog 72 #[.int .i64 fr, .int .i64 pl] w fun e w' => e = .returned (.tuple #[.int .i64 (wth fr 58 16777216), .int .i64 (wth pl 7 16777216)]) ∧ w' = w := by
  unfold wth
  go_enter Tryz.func72, Tryz.ntmps72
  go_wp2
  all_goals go_ret2
  all_goals refine ⟨?_, rfl⟩
  all_goals
    show Ending.returned (.tuple #[.int .i64 _, .int .i64 _]) = Ending.returned (.tuple #[.int .i64 _, .int .i64 _])
    congr 5 <;> (try congr 1) <;> omega
theorem xnumbered_any (p q : Int) (w : World) : Calls Tryz.prog 28 #[.int .i64 p, .int .i32 q] w fun e w' => e = .returned (.bool (isPr p q)) ∧ w' = w := by
  unfold isPr
  by_cases h1 : p = -1
  · by_cases h2 : q = -1
    · rw [decide_eq_true (Or.inl ⟨h1, h2⟩)]
      subst h1 h2
      go_enter Tryz.func28, Tryz.ntmps28
      go_wp2
      go_ret
      exact ⟨rfl, rfl⟩
    · rw [decide_eq_false (by omega)]
      subst h1
      go_enter Tryz.func28, Tryz.ntmps28
      go_wp2
      go_ret
      exact ⟨by simp [h2], rfl⟩
  · by_cases h2 : 0 ≤ p
    · by_cases h3 : 0 ≤ q
      · rw [decide_eq_true (Or.inr ⟨h2, h3⟩)]
        go_enter Tryz.func28, Tryz.ntmps28
        go_wp2
        go_ret
        exact ⟨by simp, rfl⟩
      · rw [decide_eq_false (by omega)]
        go_enter Tryz.func28, Tryz.ntmps28
        go_wp2
        go_ret
        exact ⟨by simp, rfl⟩
    · rw [decide_eq_false (by omega)]
      go_enter Tryz.func28, Tryz.ntmps28
      go_wp2
      go_ret
      exact ⟨by simp, rfl⟩
theorem num1 {s : ByteArray} {k : Nat} (h : k < s.size) : num s k 1 = (s[k]'h).toNat := by
  unfold num
  have hl : k < (bl s).length := by rw [bl_len]; exact h
  have e : bl (s.extract k (k + 1)) = [(s[k]'h).toNat] := by
    rw [bl_ext, List.drop_eq_getElem_cons hl, show k + 1 - k = 0 + 1 by omega, List.take_succ_cons, List.take_zero]
    congr 1
    simp [bl]
    rfl
  rw [e]
  simp [be]
theorem pke_iff {s : ByteArray} (h : ¬ s.size < 51) (P : Prop) [Decidable P] (hP : Right (fsOf s) ↔ P) : pke s = if P then 0 else 28 := by
  cases hr : rgt (fsOf s) with
  | true => rw [pke_ok h hr, if_pos (hP.1 (rgt_iff.1 hr))]
  | false => rw [pke_no h hr, if_neg (fun hp => by rw [rgt_iff.2 (hP.2 hp)] at hr; cases hr)]
set_option maxHeartbeats 4000000 in
set_option maxRecDepth 20000 in
theorem xpeek_any (s : ByteArray) (w : World) (hs : s.size ≤ 9223372036854775807) :
    Calls Tryz.prog 13 #[.string s] w fun e w' => e = .returned (.tuple #[if pke s = 0 then hdV (fsOf s) else noHd, .int .i64 (pke s)]) ∧ Below w.heap.size w w' := by
  unfold noHd hdV
  by_cases h : s.size < 51
  · rw [pke_short h, if_neg (by decide)]
    have d1 : decide ((s.size : Int) < 51) = true := decide_eq_true (by omega)
    clear h
    go_enter Tryz.func13, Tryz.ntmps13
    go_wp2_with fail
    exact bodyPost_ret (v := .tuple #[.agg #[.int .i64 0, .int .i64 0, .bool false, .int .i64 0, .int .i64 0, .int .i64 0, .int .i64 0, .int .i32 0], .int .i64 20]) (by simp [results, Tryz.results13, go_sem]) rfl ⟨rfl, (Below.refl _ _).alloc (Nat.le_refl _) _⟩
  · have d1 : decide ((s.size : Int) < 51) = false := decide_eq_false (by omega)
    have c0 := fun w => xnum_any s 0 8 w (by omega) hs (by omega)
    have c8 := fun w => xnum_any s 8 4 w (by omega) hs (by omega)
    have c13 := fun w => xnum_any s 17 2 w (by omega) hs (by omega)
    have c19 := fun w => xnum_any s 19 4 w (by omega) hs (by omega)
    have c23 := fun w => xnum_any s 23 8 w (by omega) hs (by omega)
    have c31 := fun w => xnum_any s 31 8 w (by omega) hs (by omega)
    have c39 := fun w => xnum_any s 39 8 w (by omega) hs (by omega)
    have c47 := fun w => xnum_any s 47 4 w (by omega) hs (by omega)
    have C0 := hid c0
    have C8 := hid c8
    have C17 := hid c13
    have C19 := hid c19
    have C23 := hid c23
    have C31 := hid c31
    have C39 := hid c39
    have C47 := hid c47
    have hb8 : num s 8 4 < 4294967296 := num_lt4 (by omega)
    have hb19 : num s 19 4 < 4294967296 := num_lt4 (by omega)
    have hb17 : num s 17 2 < 65536 := num_lt2 (by omega)
    have hb47 : num s 47 4 < 4294967296 := num_lt4 (by omega)
    clear c0 c8 c13 c19 c23 c31 c39 c47
    have h12 : (12 : Nat) < s.size := by omega
    have hm := num1 h12
    have HP := hid (pke_iff h (num s 12 1 = 71 ∧ num s 17 2 ≤ 1 ∧ 1 ≤ num s 19 4 ∧ num s 19 4 ≤ 65536 ∧ 0 ≤ wrap64 ((num s 0 8 : Nat) : Int) ∧ wrap64 ((num s 0 8 : Nat) : Int) < 4611686018427387904 ∧ wrap64 ((num s 0 8 : Nat) : Int) ≤ 4611686018427387904 - (num s 19 4 : Nat) ∧ wrap64 ((num s 23 8 : Nat) : Int) ≤ wrap64 ((num s 31 8 : Nat) : Int) ∧ isPr (wrap64 ((num s 39 8 : Nat) : Int)) (wrap32 ((num s 47 4 : Nat) : Int)) = true ∧ 46 ≤ num s 8 4 ∧ num s 8 4 ≤ 16777204) ⟨fun R => ⟨R.mark, R.st, R.c1, R.c2, R.b.1, R.b.2, R.o, R.t, R.p, R.l1, R.l2⟩, fun ⟨a1, a2, a3, a4, a5, a6, a7, a8, a9, a10, a11⟩ => ⟨a1, a2, a3, a4, ⟨a5, a6⟩, a7, a8, a9, a10, a11⟩⟩)
    unfold fsOf
    dsimp only
    rw [hm] at HP
    obtain ⟨M, hM⟩ : ∃ M, (s[12]'h12).toNat = M := ⟨_, rfl⟩
    rw [hM] at HP
    have hx0 := wrap64_in ((num s 0 8 : Nat) : Int)
    have hMl : M < 256 := by rw [← hM]; exact UInt8.toNat_lt _
    clear hm h
    generalize hX0 : wrap64 ((num s 0 8 : Nat) : Int) = X0 at *
    generalize hX4 : wrap64 ((num s 23 8 : Nat) : Int) = X4 at *
    generalize hX5 : wrap64 ((num s 31 8 : Nat) : Int) = X5 at *
    generalize hX6 : wrap64 ((num s 39 8 : Nat) : Int) = X6 at *
    generalize hX7 : wrap32 ((num s 47 4 : Nat) : Int) = X7 at *
    generalize num s 0 8 = n0 at *
    generalize num s 8 4 = n8 at *
    generalize num s 17 2 = n17 at *
    generalize num s 19 4 = n19 at *
    generalize num s 23 8 = n23 at *
    generalize num s 31 8 = n31 at *
    generalize num s 39 8 = n39 at *
    generalize num s 47 4 = n47 at *
    have i8 : (n8 : Int) ≤ 4294967295 := by omega
    have i19 : (n19 : Int) ≤ 4294967295 := by omega
    have i17 : (n17 : Int) ≤ 65535 := by omega
    have i47 : (n47 : Int) ≤ 4294967295 := by omega
    obtain ⟨PK, hPK⟩ : ∃ PK, pke s = PK := ⟨_, rfl⟩
    rw [hPK] at HP ⊢
    clear hPK
    have CN := hid (fun w => xnumbered_any X6 X7 w)
    have iM : (M : Int) ≤ 255 := by omega
    go_enter Tryz.func13, Tryz.ntmps13
    go_wp2_with fail
    refine (C0.out _).mono ?_
    rintro e w1 ⟨rfl, rfl⟩
    go_wp2_with fail
    refine (C8.out _).mono ?_
    rintro e w1 ⟨rfl, rfl⟩
    go_wp2_with fail
    refine (C17.out _).mono ?_
    rintro e w1 ⟨rfl, rfl⟩
    go_wp2_with fail
    refine (C19.out _).mono ?_
    rintro e w1 ⟨rfl, rfl⟩
    go_wp2_with fail
    refine (C23.out _).mono ?_
    rintro e w1 ⟨rfl, rfl⟩
    go_wp2_with fail
    refine (C31.out _).mono ?_
    rintro e w1 ⟨rfl, rfl⟩
    go_wp2_with fail
    refine (C39.out _).mono ?_
    rintro e w1 ⟨rfl, rfl⟩
    go_wp2_with fail
    refine (C47.out _).mono ?_
    rintro e w1 ⟨rfl, rfl⟩
    by_cases h0 : M = 71
    · have y0 : (M : Int) = 71 := by omega
      by_cases h1 : n17 ≤ 1
      · have y1 : ¬ (1 : Int) < n17 := by omega
        have z1 : decide ((1 : Int) < n17) = false := decide_eq_false y1
        by_cases h2 : 1 ≤ n19
        · have y2 : ¬ (n19 : Int) < 1 := by omega
          have z2 : decide ((n19 : Int) < 1) = false := decide_eq_false y2
          by_cases h3 : n19 ≤ 65536
          · have y3 : ¬ (65536 : Int) < n19 := by omega
            have z3 : decide ((65536 : Int) < n19) = false := decide_eq_false y3
            by_cases h4 : 0 ≤ X0
            · have y4 : ¬ X0 < 0 := by omega
              have z4 : decide (X0 < 0) = false := decide_eq_false y4
              by_cases h5 : X0 < 4611686018427387904
              · have y5 : ¬ (4611686018427387904 : Int) ≤ X0 := by omega
                have z5 : decide ((4611686018427387904 : Int) ≤ X0) = false := decide_eq_false y5
                by_cases h6 : X0 ≤ 4611686018427387904 - (n19 : Nat)
                · have y6 : ¬ (4611686018427387904 : Int) ≤ X0 + n19 - 1 := by omega
                  have z6 : decide ((4611686018427387904 : Int) ≤ X0 + n19 - 1) = false := decide_eq_false y6
                  by_cases h7 : X4 ≤ X5
                  · have y7 : ¬ X5 < X4 := by omega
                    have z7 : decide (X5 < X4) = false := decide_eq_false y7
                    by_cases h8 : isPr X6 X7 = true
                    · rw [h8] at CN
                      by_cases h9 : 46 ≤ n8
                      · have y9 : ¬ (12 : Int) + n8 < 58 := by omega
                        have z9 : decide ((12 : Int) + n8 < 58) = false := decide_eq_false y9
                        by_cases h10 : n8 ≤ 16777204
                        · have y10 : ¬ (16777216 : Int) < 12 + n8 := by omega
                          have z10 : decide ((16777216 : Int) < 12 + n8) = false := decide_eq_false y10
                          have hPK : PK = 0 := by rw [HP.out, if_pos ⟨h0, h1, h2, h3, h4, h5, h6, h7, h8, h9, h10⟩]
                          subst hPK
                          clear HP
                          go_wp2_with (first | (go_at_call 36; refine (C17.out _).mono ?_; rintro e w1 ⟨rfl, rfl⟩) | (go_at_call 28; refine (CN.out _).mono ?_; rintro e w1 ⟨rfl, rfl⟩))
                          have hbq : ((n17 : Int) == 1) = decide (n17 = 1) := by
                            by_cases hq : n17 = 1
                            · subst hq; rfl
                            · rw [decide_eq_false hq, beq_eq_false_iff_ne]; omega
                          rw [hbq]
                          exact bodyPost_ret (v := .tuple #[.agg #[.int .i64 X0, .int .i64 (12 + n8), .bool (decide (n17 = 1)), .int .i64 n19, .int .i64 X4, .int .i64 X5, .int .i64 X6, .int .i32 X7], .int .i64 0]) (by simp [results, Tryz.results13, go_sem]) rfl ⟨rfl, ((Below.refl _ _).alloc (Nat.le_refl _) _).alloc (by simp) _⟩
                        · have y10 : (16777216 : Int) < 12 + n8 := by omega
                          have z10 : decide ((16777216 : Int) < 12 + n8) = true := decide_eq_true y10
                          have hPK : PK = 28 := by rw [HP.out, if_neg (fun hh => h10 hh.2.2.2.2.2.2.2.2.2.2)]
                          subst hPK
                          clear HP
                          go_wp2_with (first | (go_at_call 36; refine (C17.out _).mono ?_; rintro e w1 ⟨rfl, rfl⟩) | (go_at_call 28; refine (CN.out _).mono ?_; rintro e w1 ⟨rfl, rfl⟩))
                          exact bodyPost_ret (v := .tuple #[.agg #[.int .i64 0, .int .i64 0, .bool false, .int .i64 0, .int .i64 0, .int .i64 0, .int .i64 0, .int .i32 0], .int .i64 28]) (by simp [results, Tryz.results13, go_sem]) rfl ⟨rfl, ((Below.refl _ _).alloc (Nat.le_refl _) _).alloc (by simp) _⟩
                      · have y9 : (12 : Int) + n8 < 58 := by omega
                        have z9 : decide ((12 : Int) + n8 < 58) = true := decide_eq_true y9
                        have hPK : PK = 28 := by rw [HP.out, if_neg (fun hh => h9 hh.2.2.2.2.2.2.2.2.2.1)]
                        subst hPK
                        clear HP
                        go_wp2_with (first | (go_at_call 36; refine (C17.out _).mono ?_; rintro e w1 ⟨rfl, rfl⟩) | (go_at_call 28; refine (CN.out _).mono ?_; rintro e w1 ⟨rfl, rfl⟩))
                        exact bodyPost_ret (v := .tuple #[.agg #[.int .i64 0, .int .i64 0, .bool false, .int .i64 0, .int .i64 0, .int .i64 0, .int .i64 0, .int .i32 0], .int .i64 28]) (by simp [results, Tryz.results13, go_sem]) rfl ⟨rfl, ((Below.refl _ _).alloc (Nat.le_refl _) _).alloc (by simp) _⟩
                    · have h8f : isPr X6 X7 = false := by simpa using h8
                      rw [h8f] at CN
                      have hPK : PK = 28 := by rw [HP.out, if_neg (fun hh => h8 hh.2.2.2.2.2.2.2.2.1)]
                      subst hPK
                      clear HP
                      go_wp2_with (first | (go_at_call 36; refine (C17.out _).mono ?_; rintro e w1 ⟨rfl, rfl⟩) | (go_at_call 28; refine (CN.out _).mono ?_; rintro e w1 ⟨rfl, rfl⟩))
                      exact bodyPost_ret (v := .tuple #[.agg #[.int .i64 0, .int .i64 0, .bool false, .int .i64 0, .int .i64 0, .int .i64 0, .int .i64 0, .int .i32 0], .int .i64 28]) (by simp [results, Tryz.results13, go_sem]) rfl ⟨rfl, ((Below.refl _ _).alloc (Nat.le_refl _) _).alloc (by simp) _⟩
                  · have y7 : X5 < X4 := by omega
                    have z7 : decide (X5 < X4) = true := decide_eq_true y7
                    have hPK : PK = 28 := by rw [HP.out, if_neg (fun hh => h7 hh.2.2.2.2.2.2.2.1)]
                    subst hPK
                    clear HP
                    go_wp2_with (first | (go_at_call 36; refine (C17.out _).mono ?_; rintro e w1 ⟨rfl, rfl⟩) | (go_at_call 28; refine (CN.out _).mono ?_; rintro e w1 ⟨rfl, rfl⟩))
                    exact bodyPost_ret (v := .tuple #[.agg #[.int .i64 0, .int .i64 0, .bool false, .int .i64 0, .int .i64 0, .int .i64 0, .int .i64 0, .int .i32 0], .int .i64 28]) (by simp [results, Tryz.results13, go_sem]) rfl ⟨rfl, ((Below.refl _ _).alloc (Nat.le_refl _) _).alloc (by simp) _⟩
                · have y6 : (4611686018427387904 : Int) ≤ X0 + n19 - 1 := by omega
                  have z6 : decide ((4611686018427387904 : Int) ≤ X0 + n19 - 1) = true := decide_eq_true y6
                  have hPK : PK = 28 := by rw [HP.out, if_neg (fun hh => h6 hh.2.2.2.2.2.2.1)]
                  subst hPK
                  clear HP
                  go_wp2_with (first | (go_at_call 36; refine (C17.out _).mono ?_; rintro e w1 ⟨rfl, rfl⟩) | (go_at_call 28; refine (CN.out _).mono ?_; rintro e w1 ⟨rfl, rfl⟩))
                  exact bodyPost_ret (v := .tuple #[.agg #[.int .i64 0, .int .i64 0, .bool false, .int .i64 0, .int .i64 0, .int .i64 0, .int .i64 0, .int .i32 0], .int .i64 28]) (by simp [results, Tryz.results13, go_sem]) rfl ⟨rfl, ((Below.refl _ _).alloc (Nat.le_refl _) _).alloc (by simp) _⟩
              · have y5 : (4611686018427387904 : Int) ≤ X0 := by omega
                have z5 : decide ((4611686018427387904 : Int) ≤ X0) = true := decide_eq_true y5
                have hPK : PK = 28 := by rw [HP.out, if_neg (fun hh => h5 hh.2.2.2.2.2.1)]
                subst hPK
                clear HP
                go_wp2_with (first | (go_at_call 36; refine (C17.out _).mono ?_; rintro e w1 ⟨rfl, rfl⟩) | (go_at_call 28; refine (CN.out _).mono ?_; rintro e w1 ⟨rfl, rfl⟩))
                exact bodyPost_ret (v := .tuple #[.agg #[.int .i64 0, .int .i64 0, .bool false, .int .i64 0, .int .i64 0, .int .i64 0, .int .i64 0, .int .i32 0], .int .i64 28]) (by simp [results, Tryz.results13, go_sem]) rfl ⟨rfl, ((Below.refl _ _).alloc (Nat.le_refl _) _).alloc (by simp) _⟩
            · have y4 : X0 < 0 := by omega
              have z4 : decide (X0 < 0) = true := decide_eq_true y4
              have hPK : PK = 28 := by rw [HP.out, if_neg (fun hh => h4 hh.2.2.2.2.1)]
              subst hPK
              clear HP
              go_wp2_with (first | (go_at_call 36; refine (C17.out _).mono ?_; rintro e w1 ⟨rfl, rfl⟩) | (go_at_call 28; refine (CN.out _).mono ?_; rintro e w1 ⟨rfl, rfl⟩))
              exact bodyPost_ret (v := .tuple #[.agg #[.int .i64 0, .int .i64 0, .bool false, .int .i64 0, .int .i64 0, .int .i64 0, .int .i64 0, .int .i32 0], .int .i64 28]) (by simp [results, Tryz.results13, go_sem]) rfl ⟨rfl, ((Below.refl _ _).alloc (Nat.le_refl _) _).alloc (by simp) _⟩
          · have y3 : (65536 : Int) < n19 := by omega
            have z3 : decide ((65536 : Int) < n19) = true := decide_eq_true y3
            have hPK : PK = 28 := by rw [HP.out, if_neg (fun hh => h3 hh.2.2.2.1)]
            subst hPK
            clear HP
            go_wp2_with (first | (go_at_call 36; refine (C17.out _).mono ?_; rintro e w1 ⟨rfl, rfl⟩) | (go_at_call 28; refine (CN.out _).mono ?_; rintro e w1 ⟨rfl, rfl⟩))
            exact bodyPost_ret (v := .tuple #[.agg #[.int .i64 0, .int .i64 0, .bool false, .int .i64 0, .int .i64 0, .int .i64 0, .int .i64 0, .int .i32 0], .int .i64 28]) (by simp [results, Tryz.results13, go_sem]) rfl ⟨rfl, ((Below.refl _ _).alloc (Nat.le_refl _) _).alloc (by simp) _⟩
        · have y2 : (n19 : Int) < 1 := by omega
          have z2 : decide ((n19 : Int) < 1) = true := decide_eq_true y2
          have hPK : PK = 28 := by rw [HP.out, if_neg (fun hh => h2 hh.2.2.1)]
          subst hPK
          clear HP
          go_wp2_with (first | (go_at_call 36; refine (C17.out _).mono ?_; rintro e w1 ⟨rfl, rfl⟩) | (go_at_call 28; refine (CN.out _).mono ?_; rintro e w1 ⟨rfl, rfl⟩))
          exact bodyPost_ret (v := .tuple #[.agg #[.int .i64 0, .int .i64 0, .bool false, .int .i64 0, .int .i64 0, .int .i64 0, .int .i64 0, .int .i32 0], .int .i64 28]) (by simp [results, Tryz.results13, go_sem]) rfl ⟨rfl, ((Below.refl _ _).alloc (Nat.le_refl _) _).alloc (by simp) _⟩
      · have y1 : (1 : Int) < n17 := by omega
        have z1 : decide ((1 : Int) < n17) = true := decide_eq_true y1
        have hPK : PK = 28 := by rw [HP.out, if_neg (fun hh => h1 hh.2.1)]
        subst hPK
        clear HP
        go_wp2_with (first | (go_at_call 36; refine (C17.out _).mono ?_; rintro e w1 ⟨rfl, rfl⟩) | (go_at_call 28; refine (CN.out _).mono ?_; rintro e w1 ⟨rfl, rfl⟩))
        exact bodyPost_ret (v := .tuple #[.agg #[.int .i64 0, .int .i64 0, .bool false, .int .i64 0, .int .i64 0, .int .i64 0, .int .i64 0, .int .i32 0], .int .i64 28]) (by simp [results, Tryz.results13, go_sem]) rfl ⟨rfl, ((Below.refl _ _).alloc (Nat.le_refl _) _).alloc (by simp) _⟩
    · have y0 : ¬ (M : Int) = 71 := by omega
      have hPK : PK = 28 := by rw [HP.out, if_neg (fun hh => h0 hh.1)]
      subst hPK
      clear HP
      go_wp2_with (first | (go_at_call 36; refine (C17.out _).mono ?_; rintro e w1 ⟨rfl, rfl⟩) | (go_at_call 28; refine (CN.out _).mono ?_; rintro e w1 ⟨rfl, rfl⟩))
      exact bodyPost_ret (v := .tuple #[.agg #[.int .i64 0, .int .i64 0, .bool false, .int .i64 0, .int .i64 0, .int .i64 0, .int .i64 0, .int .i32 0], .int .i64 28]) (by simp [results, Tryz.results13, go_sem]) rfl ⟨rfl, ((Below.refl _ _).alloc (Nat.le_refl _) _).alloc (by simp) _⟩
end Go.Proofs.YtihokphamgkkcaaGreat
