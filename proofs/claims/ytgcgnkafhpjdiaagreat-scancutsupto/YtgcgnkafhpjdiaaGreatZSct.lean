/- Texts of the proof, put together: Sct. -/
import Derived.Test.YtgcgnkafhpjdiaaGreatMSd
namespace Go.Proofs.YtgcgnkafhpjdiaaGreat
open Go.RowKit
theorem all_L (s : ByteArray) (base frame plain : Int) (hs : s.size ≤ 104857600) (w : World) :
    Calls Tryz.prog 11 #[.string s, .int .i64 base, .int .i64 frame, .int .i64 plain] w fun e w' => ∃ a cap, e = .returned (.tuple #[.slice a (frs (tr s base frame plain)).length cap, .int .i64 (enG 0 (tr s base frame plain)), .int .i64 (wyG 0 (tr s base frame plain))]) ∧ Fds w' a (frs (tr s base frame plain)) ∧ (frs (tr s base frame plain)).length ≤ cap ∧ Below w.heap.size w w' := by
  have hl := tr_le s base frame plain
  refine (all_any s base frame plain (by omega) (by omega) w).mono ?_
  rintro e w' ⟨v, rfl, hO, hb⟩
  obtain ⟨a, cap, rfl, V, hc⟩ := OwF.fds hO
  exact ⟨a, cap, rfl, V, hc, hb⟩
/-- The question's box. -/
structure AB (w : World) (B : Nat) (s : ByteArray) (base frame plain : Int) (y : World) : Prop where
  b : Below w.heap.size w y
  f : y.heap[B]? = some (.cells #[.string s, .int .i64 base, .int .i64 frame, .int .i64 plain] 23 (0, 0))
theorem AB.call {w : World} {B : Nat} {s : ByteArray} {base frame plain : Int} {y y' : World} (h : AB w B s base frame plain y) (k : Below y.heap.size y y') : AB w B s base frame plain y' := ⟨h.b.trans (k.mono h.b.size), keep h.f k⟩
theorem AB.drew {w : World} {B : Nat} {s : ByteArray} {base frame plain : Int} {y : World} (h : AB w B s base frame plain y) : AB w B s base frame plain y.drew := h.call ⟨rfl, rfl, rfl, Nat.le_refl _, fun _ _ => rfl⟩
theorem drew1 (w : World) : Below w.heap.size w w.drew := ⟨rfl, rfl, rfl, Nat.le_refl _, fun _ _ => rfl⟩
theorem ext_all (s : ByteArray) : s.extract 0 s.size = s := ByteArray.extract_zero_size
set_option maxHeartbeats 8000000 in
set_option maxRecDepth 20000 in
theorem cuts_walk (s : ByteArray) (base frame plain at' : Int) (w : World) (hs : s.size ≤ 1048576) :
    Calls Tryz.prog 8 #[.agg #[.string s, .int .i64 base, .int .i64 frame, .int .i64 plain], .int .i64 at'] w fun e w' => e = .returned (.bool true) ∧ Below w.heap.size w w' := by
  have N0 : AB w w.heap.size s base frame plain (w.alloc (.cells #[.string s, .int .i64 base, .int .i64 frame, .int .i64 plain] 23)) := ⟨(Below.refl _ _).alloc (Nat.le_refl _) _, heap_new _ _⟩
  have CW := hid (fun w => awake_any w)
  have CA := hid (fun w => all_L s base frame plain (by omega) w)
  have CC : Hid (∀ (c : Nat) w, c ≤ s.size → Calls Tryz.prog 11 #[.string (s.extract 0 c), .int .i64 base, .int .i64 frame, .int .i64 plain] w fun e w' => ∃ a cap, e = .returned (.tuple #[.slice a (frs (tr (s.extract 0 c) base frame plain)).length cap, .int .i64 (enG 0 (tr (s.extract 0 c) base frame plain)), .int .i64 (wyG 0 (tr (s.extract 0 c) base frame plain))]) ∧ Fds w' a (frs (tr (s.extract 0 c) base frame plain)) ∧ (frs (tr (s.extract 0 c) base frame plain)).length ≤ cap ∧ Below w.heap.size w w') := fun c w hc => all_L _ base frame plain (by rw [ByteArray.size_extract]; omega) w
  have HTC : Hid (∀ (c n : Nat), c ≤ s.size → n ≤ (frs (tr s base frame plain)).length → (∀ i, i < n → fen ((frs (tr s base frame plain)).getD i dfd) ≤ c) → (n < (frs (tr s base frame plain)).length → c < fen ((frs (tr s base frame plain)).getD n dfd)) → frs (tr (s.extract 0 c) base frame plain) = (frs (tr s base frame plain)).take n ∧ enG 0 (tr (s.extract 0 c) base frame plain) = enA 0 (frs (tr s base frame plain)) n ∧ (wyG 0 (tr (s.extract 0 c) base frame plain) = 0 ↔ enA 0 (frs (tr s base frame plain)) n = c)) := fun c n h1 h2 h3 h4 => tr_cut h1 h2 h3 h4
  have HIN : Hid (∀ i, i < (frs (tr s base frame plain)).length → fen ((frs (tr s base frame plain)).getD i dfd) ≤ s.size) := fun i hi => (tr_in (fdD_mem hi)).2
  have hLn : (frs (tr s base frame plain)).length ≤ 1048577 := by
    have h1 := tr_le s base frame plain
    have h2 := frs_le (tr s base frame plain)
    omega
  go_enter Tryz.func8, Tryz.ntmps8
  go_wp2_with fail
  refine (CW.out _).mono ?_
  rintro e w1 ⟨rfl, b1⟩
  have N1 := N0.call b1
  clear b1 N0 CW
  obtain ⟨k0, k1, k2, k3⟩ := cells4 N1.f
  by_cases h1 : at' < 0
  · go_wp2_with fail
    obtain ⟨c, hc⟩ : ∃ c, s.size = c := ⟨_, rfl⟩
    have HLE : Hid (c ≤ s.size) := by show _ ≤ _; omega
    rw [hc]
    clear hc
    refine (CA.out _).mono ?_
    rintro e w2 ⟨a1, cap1, rfl, V1, hcap1, b2⟩
    have N2 := N1.call b2
    have HV1 := hid V1
    have HCC := hid (fun w => CC.out c w HLE.out)
    have HT := hid (fun n => HTC.out c n HLE.out)
    clear b2 V1 CC HTC CA k0 k1 k2 k3 N1
    generalize frs (tr s base frame plain) = L at *
    have N2d := N2.drew
    have hcI : (c : Int) ≤ s.size := by have := HLE.out; omega
    have hc0 : (0 : Int) ≤ (c : Int) := by omega
    have N2b := N2.b.size
    generalize w.heap.size = B at *
    go_wp2_with fail
    go_region_held3 (fun y => y.cell? ⟨B, 0, none⟩ = some (.string s) ∧ y.cell? ⟨B, 1, none⟩ = some (.int .i64 base) ∧ y.cell? ⟨B, 2, none⟩ = some (.int .i64 frame) ∧ y.cell? ⟨B, 3, none⟩ = some (.int .i64 plain)) (first | with_reducible exact cells4 N2.f | with_reducible exact cells4 N2d.f | with_reducible exact cells4 N3.f) ((go_at_call 11; with_reducible refine (HCC.out _).mono ?_; rintro e w3 ⟨a2, cap2, rfl, V2, hcap2, b3⟩; have N3 := N2d.call b3))
    have HV2 := hid V2
    have HV3 := hid ((HV1.out.below (drew1 w2)).below b3)
    have HB3 := hid N3.b
    clear V2 b3 N2 N2d HCC N3 HV1
    obtain ⟨R2, hR2⟩ : ∃ R2, frs (tr (s.extract 0 c) base frame plain) = R2 := ⟨_, rfl⟩
    obtain ⟨EN, hEN⟩ : ∃ EN, enG 0 (tr (s.extract 0 c) base frame plain) = EN := ⟨_, rfl⟩
    obtain ⟨WY, hWY⟩ : ∃ WY, wyG 0 (tr (s.extract 0 c) base frame plain) = WY := ⟨_, rfl⟩
    rw [hR2, hEN, hWY]
    rw [hR2] at HV2 hcap2
    have HT2 : Hid (∀ n, n ≤ L.length → (∀ i, i < n → fen (L.getD i dfd) ≤ c) → (n < L.length → c < fen (L.getD n dfd)) → R2 = L.take n ∧ EN = enA 0 L n ∧ (WY = 0 ↔ enA 0 L n = c)) := fun n h1 h2 h3 => by rw [← hR2, ← hEN, ← hWY]; exact HT.out n h1 h2 h3
    clear HT hR2 hEN hWY
    generalize tr s base frame plain = TR at *
    obtain ⟨N2, hN2⟩ : ∃ N2, R2.length = N2 := ⟨_, rfl⟩
    have HN2 := hid hN2
    rw [hN2]
    clear hN2
    have hsI : (s.size : Int) ≤ 1048576 := by omega
    go_wp2_with fail
    go_loopg [11, 12] L.length (fun k v11 v12 wr => ∃ n : Nat, n + k = L.length ∧ v11 = .int .i64 n ∧ v12 = .int .i64 (enA 0 L n : Nat) ∧ Hid (∀ i, i < n → fen (L.getD i dfd) ≤ c) ∧ Hid (Below w3.heap.size w3 wr))
    case atStart => exact ⟨0, by omega, rfl, rfl, fun i hi => absurd hi (by omega), Below.refl _ _⟩
    case round =>
      obtain ⟨n, hk, rfl, rfl, HA, HW⟩ := hrel
      by_cases hlt : n < L.length
      · obtain ⟨k, rfl⟩ : ∃ k, gk = k + 1 := ⟨gk - 1, by omega⟩
        rcases HV3.out.below HW.out with e | ⟨b, off, rfl, hb, hcc⟩
        · rw [e] at hlt; cases hlt
        have hq := hcc n hlt
        have q1 := hq.2.1
        have q8 := hq.2.2.2.2.2.2.2.2
        have hf := HIN.out n hlt
        have HFN : Hid (enA 0 L (n + 1) = fen (L.getD n dfd)) := rfl
        unfold fen at hf
        have HFE : Hid (fen (L.getD n dfd) = (L.getD n dfd).2 + (12 + (L.getD n dfd).1.len)) := rfl
        obtain ⟨P8, hP8⟩ : ∃ P8, (L.getD n dfd).2 = P8 := ⟨_, rfl⟩
        obtain ⟨P1, hP1⟩ : ∃ P1, 12 + (L.getD n dfd).1.len = P1 := ⟨_, rfl⟩
        rw [hP8, hP1] at hf HFE
        rw [hP8] at q8
        rw [hP1] at q1
        have hnI : (n : Int) < L.length := by omega
        have hn0 : (0 : Int) ≤ (n : Int) := by omega
        have hsum : (P8 : Int) + (P1 : Int) ≤ 1048576 := by omega
        clear hq hcc hP8 hP1
        by_cases hcut : P8 + P1 ≤ c
        · have hcutI : (P8 : Int) + (P1 : Int) ≤ c := by omega
          have HN1 : Hid (∀ i, i < n + 1 → fen (L.getD i dfd) ≤ c) := fun i hi => by
            rcases Nat.lt_or_ge i n with h5 | h5
            · exact HA.out i h5
            · have : i = n := by omega
              subst this
              rw [HFE.out]
              exact hcut
          go_wp2_with fail
          go_quiet (fail)
          go_wp2_with fail
          go_quiet (fail)
          go_wp2_with fail
          go_roundg k
          case measure => omega
          case rel => exact ⟨n + 1, by omega, by go_num, congrArg (Value.int .i64) (by rw [HFN.out, HFE.out]; omega), HN1.out, HW.out.trans ((bel_drewN _ _).mono HW.out.size)⟩
        · have hcutI : ¬ (P8 : Int) + (P1 : Int) ≤ c := by omega
          have hcutD : decide ((P8 : Int) + (P1 : Int) ≤ c) = false := decide_eq_false hcutI
          obtain ⟨r1, r2, r3⟩ := HT2.out n (by omega) HA.out (fun h => by rw [HFE.out]; omega)
          have HVW := hid (HV3.out.below HW.out)
          have HVX := hid (HV2.out.below HW.out)
          have hN : N2 = n := by rw [← HN2.out, r1, List.length_take]; omega
          subst hN
          subst r2
          have CK : Hid (∀ y, Below wr.heap.size wr y → Calls Tryz.prog 26 #[.slice a2 N2 cap2, .slice (some ⟨b, off, none⟩) N2 cap1] y fun e w' => e = .returned (.bool true) ∧ Below y.heap.size y w') := fun y hy => by
            have := alike_yes a2 (some ⟨b, off, none⟩) cap2 cap1 (L.take N2) y (by rw [List.length_take]; omega) (by rw [← r1]; exact HVX.out.below hy) ((HVW.out.take N2).below hy)
            rw [show (L.take N2).length = N2 from by rw [List.length_take]; omega] at this
            exact this
          have HBW := hid (HB3.out.trans (HW.out.mono HB3.out.size))
          have hN2c : (N2 : Int) ≤ cap1 := by omega
          have hN20 : (0 : Int) ≤ (N2 : Int) := by omega
          clear r1 HT2 HN2 HV2 HV3 HVX HVW
          generalize enA 0 L N2 = EA at *
          by_cases hw : WY = 0
          · have hEA := r3.1 hw
            subst hw hEA
            clear r3
            go_wp2_with fail
            go_quiet (fail)
            go_wp2_with (go_at_call 26; refine (CK.out _ (bel_drewN _ _)).mono ?_; rintro e w5 ⟨rfl, b5⟩)
            go_ret
            exact ⟨rfl, HBW.out.trans (((bel_drewN _ _).trans b5).mono HBW.out.size)⟩
          · have hEA : ¬ EA = c := fun h => hw (r3.2 h)
            have hw' : ¬ (WY : Int) = 0 := by omega
            have hEA' : ¬ (EA : Int) = c := by omega
            have hwB : ((WY : Int) == 0) = false := by simp; omega
            have hEB : ((EA : Int) == (c : Int)) = false := by simp; omega
            clear r3 hw hEA
            go_wp2_with fail
            go_quiet (fail)
            go_wp2_with (go_at_call 26; refine (CK.out _ (bel_drewN _ _)).mono ?_; rintro e w5 ⟨rfl, b5⟩)
            go_ret
            exact ⟨rfl, HBW.out.trans (((bel_drewN _ _).trans b5).mono HBW.out.size)⟩
      · have hltI : ¬ (n : Int) < L.length := by omega
        have hltD : decide ((n : Int) < L.length) = false := decide_eq_false hltI
        obtain ⟨r1, r2, r3⟩ := HT2.out n (by omega) HA.out (fun h => absurd h hlt)
        have HVW := hid (HV3.out.below HW.out)
        have HVX := hid (HV2.out.below HW.out)
        have hN : N2 = n := by rw [← HN2.out, r1, List.length_take]; omega
        subst hN
        subst r2
        have CK : Hid (∀ y, Below wr.heap.size wr y → Calls Tryz.prog 26 #[.slice a2 N2 cap2, .slice a1 N2 cap1] y fun e w' => e = .returned (.bool true) ∧ Below y.heap.size y w') := fun y hy => by
          have := alike_yes a2 a1 cap2 cap1 (L.take N2) y (by rw [List.length_take]; omega) (by rw [← r1]; exact HVX.out.below hy) ((HVW.out.take N2).below hy)
          rw [show (L.take N2).length = N2 from by rw [List.length_take]; omega] at this
          exact this
        have HBW := hid (HB3.out.trans (HW.out.mono HB3.out.size))
        have hN2c : (N2 : Int) ≤ cap1 := by omega
        have hN20 : (0 : Int) ≤ (N2 : Int) := by omega
        clear r1 HT2 HN2 HV2 HV3 HVX HVW
        generalize enA 0 L N2 = EA at *
        by_cases hw : WY = 0
        · have hEA := r3.1 hw
          subst hw hEA
          clear r3
          go_wp2_with fail
          go_quiet (fail)
          go_wp2_with (go_at_call 26; refine (CK.out _ (bel_drewN _ _)).mono ?_; rintro e w5 ⟨rfl, b5⟩)
          go_ret
          exact ⟨rfl, HBW.out.trans (((bel_drewN _ _).trans b5).mono HBW.out.size)⟩
        · have hEA : ¬ EA = c := fun h => hw (r3.2 h)
          have hw' : ¬ (WY : Int) = 0 := by omega
          have hEA' : ¬ (EA : Int) = c := by omega
          have hwB : ((WY : Int) == 0) = false := by simp; omega
          have hEB : ((EA : Int) == (c : Int)) = false := by simp; omega
          clear r3 hw hEA
          go_wp2_with fail
          go_quiet (fail)
          go_wp2_with (go_at_call 26; refine (CK.out _ (bel_drewN _ _)).mono ?_; rintro e w5 ⟨rfl, b5⟩)
          go_ret
          exact ⟨rfl, HBW.out.trans (((bel_drewN _ _).trans b5).mono HBW.out.size)⟩
  · by_cases h2 : (s.size : Int) < at'
    · go_wp2_with fail
      obtain ⟨c, hc⟩ : ∃ c, s.size = c := ⟨_, rfl⟩
      have HLE : Hid (c ≤ s.size) := by show _ ≤ _; omega
      rw [hc]
      clear hc
      refine (CA.out _).mono ?_
      rintro e w2 ⟨a1, cap1, rfl, V1, hcap1, b2⟩
      have N2 := N1.call b2
      have HV1 := hid V1
      have HCC := hid (fun w => CC.out c w HLE.out)
      have HT := hid (fun n => HTC.out c n HLE.out)
      clear b2 V1 CC HTC CA k0 k1 k2 k3 N1
      generalize frs (tr s base frame plain) = L at *
      have N2d := N2.drew
      have hcI : (c : Int) ≤ s.size := by have := HLE.out; omega
      have hc0 : (0 : Int) ≤ (c : Int) := by omega
      have N2b := N2.b.size
      generalize w.heap.size = B at *
      go_wp2_with fail
      go_region_held3 (fun y => y.cell? ⟨B, 0, none⟩ = some (.string s) ∧ y.cell? ⟨B, 1, none⟩ = some (.int .i64 base) ∧ y.cell? ⟨B, 2, none⟩ = some (.int .i64 frame) ∧ y.cell? ⟨B, 3, none⟩ = some (.int .i64 plain)) (first | with_reducible exact cells4 N2.f | with_reducible exact cells4 N2d.f | with_reducible exact cells4 N3.f) ((go_at_call 11; with_reducible refine (HCC.out _).mono ?_; rintro e w3 ⟨a2, cap2, rfl, V2, hcap2, b3⟩; have N3 := N2d.call b3))
      have HV2 := hid V2
      have HV3 := hid ((HV1.out.below (drew1 w2)).below b3)
      have HB3 := hid N3.b
      clear V2 b3 N2 N2d HCC N3 HV1
      obtain ⟨R2, hR2⟩ : ∃ R2, frs (tr (s.extract 0 c) base frame plain) = R2 := ⟨_, rfl⟩
      obtain ⟨EN, hEN⟩ : ∃ EN, enG 0 (tr (s.extract 0 c) base frame plain) = EN := ⟨_, rfl⟩
      obtain ⟨WY, hWY⟩ : ∃ WY, wyG 0 (tr (s.extract 0 c) base frame plain) = WY := ⟨_, rfl⟩
      rw [hR2, hEN, hWY]
      rw [hR2] at HV2 hcap2
      have HT2 : Hid (∀ n, n ≤ L.length → (∀ i, i < n → fen (L.getD i dfd) ≤ c) → (n < L.length → c < fen (L.getD n dfd)) → R2 = L.take n ∧ EN = enA 0 L n ∧ (WY = 0 ↔ enA 0 L n = c)) := fun n h1 h2 h3 => by rw [← hR2, ← hEN, ← hWY]; exact HT.out n h1 h2 h3
      clear HT hR2 hEN hWY
      generalize tr s base frame plain = TR at *
      obtain ⟨N2, hN2⟩ : ∃ N2, R2.length = N2 := ⟨_, rfl⟩
      have HN2 := hid hN2
      rw [hN2]
      clear hN2
      have hsI : (s.size : Int) ≤ 1048576 := by omega
      go_wp2_with fail
      go_loopg [11, 12] L.length (fun k v11 v12 wr => ∃ n : Nat, n + k = L.length ∧ v11 = .int .i64 n ∧ v12 = .int .i64 (enA 0 L n : Nat) ∧ Hid (∀ i, i < n → fen (L.getD i dfd) ≤ c) ∧ Hid (Below w3.heap.size w3 wr))
      case atStart => exact ⟨0, by omega, rfl, rfl, fun i hi => absurd hi (by omega), Below.refl _ _⟩
      case round =>
        obtain ⟨n, hk, rfl, rfl, HA, HW⟩ := hrel
        by_cases hlt : n < L.length
        · obtain ⟨k, rfl⟩ : ∃ k, gk = k + 1 := ⟨gk - 1, by omega⟩
          rcases HV3.out.below HW.out with e | ⟨b, off, rfl, hb, hcc⟩
          · rw [e] at hlt; cases hlt
          have hq := hcc n hlt
          have q1 := hq.2.1
          have q8 := hq.2.2.2.2.2.2.2.2
          have hf := HIN.out n hlt
          have HFN : Hid (enA 0 L (n + 1) = fen (L.getD n dfd)) := rfl
          unfold fen at hf
          have HFE : Hid (fen (L.getD n dfd) = (L.getD n dfd).2 + (12 + (L.getD n dfd).1.len)) := rfl
          obtain ⟨P8, hP8⟩ : ∃ P8, (L.getD n dfd).2 = P8 := ⟨_, rfl⟩
          obtain ⟨P1, hP1⟩ : ∃ P1, 12 + (L.getD n dfd).1.len = P1 := ⟨_, rfl⟩
          rw [hP8, hP1] at hf HFE
          rw [hP8] at q8
          rw [hP1] at q1
          have hnI : (n : Int) < L.length := by omega
          have hn0 : (0 : Int) ≤ (n : Int) := by omega
          have hsum : (P8 : Int) + (P1 : Int) ≤ 1048576 := by omega
          clear hq hcc hP8 hP1
          by_cases hcut : P8 + P1 ≤ c
          · have hcutI : (P8 : Int) + (P1 : Int) ≤ c := by omega
            have HN1 : Hid (∀ i, i < n + 1 → fen (L.getD i dfd) ≤ c) := fun i hi => by
              rcases Nat.lt_or_ge i n with h5 | h5
              · exact HA.out i h5
              · have : i = n := by omega
                subst this
                rw [HFE.out]
                exact hcut
            go_wp2_with fail
            go_quiet (fail)
            go_wp2_with fail
            go_quiet (fail)
            go_wp2_with fail
            go_roundg k
            case measure => omega
            case rel => exact ⟨n + 1, by omega, by go_num, congrArg (Value.int .i64) (by rw [HFN.out, HFE.out]; omega), HN1.out, HW.out.trans ((bel_drewN _ _).mono HW.out.size)⟩
          · have hcutI : ¬ (P8 : Int) + (P1 : Int) ≤ c := by omega
            have hcutD : decide ((P8 : Int) + (P1 : Int) ≤ c) = false := decide_eq_false hcutI
            obtain ⟨r1, r2, r3⟩ := HT2.out n (by omega) HA.out (fun h => by rw [HFE.out]; omega)
            have HVW := hid (HV3.out.below HW.out)
            have HVX := hid (HV2.out.below HW.out)
            have hN : N2 = n := by rw [← HN2.out, r1, List.length_take]; omega
            subst hN
            subst r2
            have CK : Hid (∀ y, Below wr.heap.size wr y → Calls Tryz.prog 26 #[.slice a2 N2 cap2, .slice (some ⟨b, off, none⟩) N2 cap1] y fun e w' => e = .returned (.bool true) ∧ Below y.heap.size y w') := fun y hy => by
              have := alike_yes a2 (some ⟨b, off, none⟩) cap2 cap1 (L.take N2) y (by rw [List.length_take]; omega) (by rw [← r1]; exact HVX.out.below hy) ((HVW.out.take N2).below hy)
              rw [show (L.take N2).length = N2 from by rw [List.length_take]; omega] at this
              exact this
            have HBW := hid (HB3.out.trans (HW.out.mono HB3.out.size))
            have hN2c : (N2 : Int) ≤ cap1 := by omega
            have hN20 : (0 : Int) ≤ (N2 : Int) := by omega
            clear r1 HT2 HN2 HV2 HV3 HVX HVW
            generalize enA 0 L N2 = EA at *
            by_cases hw : WY = 0
            · have hEA := r3.1 hw
              subst hw hEA
              clear r3
              go_wp2_with fail
              go_quiet (fail)
              go_wp2_with (go_at_call 26; refine (CK.out _ (bel_drewN _ _)).mono ?_; rintro e w5 ⟨rfl, b5⟩)
              go_ret
              exact ⟨rfl, HBW.out.trans (((bel_drewN _ _).trans b5).mono HBW.out.size)⟩
            · have hEA : ¬ EA = c := fun h => hw (r3.2 h)
              have hw' : ¬ (WY : Int) = 0 := by omega
              have hEA' : ¬ (EA : Int) = c := by omega
              have hwB : ((WY : Int) == 0) = false := by simp; omega
              have hEB : ((EA : Int) == (c : Int)) = false := by simp; omega
              clear r3 hw hEA
              go_wp2_with fail
              go_quiet (fail)
              go_wp2_with (go_at_call 26; refine (CK.out _ (bel_drewN _ _)).mono ?_; rintro e w5 ⟨rfl, b5⟩)
              go_ret
              exact ⟨rfl, HBW.out.trans (((bel_drewN _ _).trans b5).mono HBW.out.size)⟩
        · have hltI : ¬ (n : Int) < L.length := by omega
          have hltD : decide ((n : Int) < L.length) = false := decide_eq_false hltI
          obtain ⟨r1, r2, r3⟩ := HT2.out n (by omega) HA.out (fun h => absurd h hlt)
          have HVW := hid (HV3.out.below HW.out)
          have HVX := hid (HV2.out.below HW.out)
          have hN : N2 = n := by rw [← HN2.out, r1, List.length_take]; omega
          subst hN
          subst r2
          have CK : Hid (∀ y, Below wr.heap.size wr y → Calls Tryz.prog 26 #[.slice a2 N2 cap2, .slice a1 N2 cap1] y fun e w' => e = .returned (.bool true) ∧ Below y.heap.size y w') := fun y hy => by
            have := alike_yes a2 a1 cap2 cap1 (L.take N2) y (by rw [List.length_take]; omega) (by rw [← r1]; exact HVX.out.below hy) ((HVW.out.take N2).below hy)
            rw [show (L.take N2).length = N2 from by rw [List.length_take]; omega] at this
            exact this
          have HBW := hid (HB3.out.trans (HW.out.mono HB3.out.size))
          have hN2c : (N2 : Int) ≤ cap1 := by omega
          have hN20 : (0 : Int) ≤ (N2 : Int) := by omega
          clear r1 HT2 HN2 HV2 HV3 HVX HVW
          generalize enA 0 L N2 = EA at *
          by_cases hw : WY = 0
          · have hEA := r3.1 hw
            subst hw hEA
            clear r3
            go_wp2_with fail
            go_quiet (fail)
            go_wp2_with (go_at_call 26; refine (CK.out _ (bel_drewN _ _)).mono ?_; rintro e w5 ⟨rfl, b5⟩)
            go_ret
            exact ⟨rfl, HBW.out.trans (((bel_drewN _ _).trans b5).mono HBW.out.size)⟩
          · have hEA : ¬ EA = c := fun h => hw (r3.2 h)
            have hw' : ¬ (WY : Int) = 0 := by omega
            have hEA' : ¬ (EA : Int) = c := by omega
            have hwB : ((WY : Int) == 0) = false := by simp; omega
            have hEB : ((EA : Int) == (c : Int)) = false := by simp; omega
            clear r3 hw hEA
            go_wp2_with fail
            go_quiet (fail)
            go_wp2_with (go_at_call 26; refine (CK.out _ (bel_drewN _ _)).mono ?_; rintro e w5 ⟨rfl, b5⟩)
            go_ret
            exact ⟨rfl, HBW.out.trans (((bel_drewN _ _).trans b5).mono HBW.out.size)⟩
    · obtain ⟨c, rfl⟩ : ∃ c : Nat, at' = c := ⟨at'.toNat, by omega⟩
      have HLE : Hid (c ≤ s.size) := by show _ ≤ _; omega
      go_wp2_with fail
      refine (CA.out _).mono ?_
      rintro e w2 ⟨a1, cap1, rfl, V1, hcap1, b2⟩
      have N2 := N1.call b2
      have HV1 := hid V1
      have HCC := hid (fun w => CC.out c w HLE.out)
      have HT := hid (fun n => HTC.out c n HLE.out)
      clear b2 V1 CC HTC CA k0 k1 k2 k3 N1
      generalize frs (tr s base frame plain) = L at *
      have N2d := N2.drew
      have hcI : (c : Int) ≤ s.size := by have := HLE.out; omega
      have hc0 : (0 : Int) ≤ (c : Int) := by omega
      have N2b := N2.b.size
      generalize w.heap.size = B at *
      go_wp2_with fail
      go_region_held3 (fun y => y.cell? ⟨B, 0, none⟩ = some (.string s) ∧ y.cell? ⟨B, 1, none⟩ = some (.int .i64 base) ∧ y.cell? ⟨B, 2, none⟩ = some (.int .i64 frame) ∧ y.cell? ⟨B, 3, none⟩ = some (.int .i64 plain)) (first | with_reducible exact cells4 N2.f | with_reducible exact cells4 N2d.f | with_reducible exact cells4 N3.f) ((go_at_call 11; with_reducible refine (HCC.out _).mono ?_; rintro e w3 ⟨a2, cap2, rfl, V2, hcap2, b3⟩; have N3 := N2d.call b3))
      have HV2 := hid V2
      have HV3 := hid ((HV1.out.below (drew1 w2)).below b3)
      have HB3 := hid N3.b
      clear V2 b3 N2 N2d HCC N3 HV1
      obtain ⟨R2, hR2⟩ : ∃ R2, frs (tr (s.extract 0 c) base frame plain) = R2 := ⟨_, rfl⟩
      obtain ⟨EN, hEN⟩ : ∃ EN, enG 0 (tr (s.extract 0 c) base frame plain) = EN := ⟨_, rfl⟩
      obtain ⟨WY, hWY⟩ : ∃ WY, wyG 0 (tr (s.extract 0 c) base frame plain) = WY := ⟨_, rfl⟩
      rw [hR2, hEN, hWY]
      rw [hR2] at HV2 hcap2
      have HT2 : Hid (∀ n, n ≤ L.length → (∀ i, i < n → fen (L.getD i dfd) ≤ c) → (n < L.length → c < fen (L.getD n dfd)) → R2 = L.take n ∧ EN = enA 0 L n ∧ (WY = 0 ↔ enA 0 L n = c)) := fun n h1 h2 h3 => by rw [← hR2, ← hEN, ← hWY]; exact HT.out n h1 h2 h3
      clear HT hR2 hEN hWY
      generalize tr s base frame plain = TR at *
      obtain ⟨N2, hN2⟩ : ∃ N2, R2.length = N2 := ⟨_, rfl⟩
      have HN2 := hid hN2
      rw [hN2]
      clear hN2
      have hsI : (s.size : Int) ≤ 1048576 := by omega
      go_wp2_with fail
      go_loopg [11, 12] L.length (fun k v11 v12 wr => ∃ n : Nat, n + k = L.length ∧ v11 = .int .i64 n ∧ v12 = .int .i64 (enA 0 L n : Nat) ∧ Hid (∀ i, i < n → fen (L.getD i dfd) ≤ c) ∧ Hid (Below w3.heap.size w3 wr))
      case atStart => exact ⟨0, by omega, rfl, rfl, fun i hi => absurd hi (by omega), Below.refl _ _⟩
      case round =>
        obtain ⟨n, hk, rfl, rfl, HA, HW⟩ := hrel
        by_cases hlt : n < L.length
        · obtain ⟨k, rfl⟩ : ∃ k, gk = k + 1 := ⟨gk - 1, by omega⟩
          rcases HV3.out.below HW.out with e | ⟨b, off, rfl, hb, hcc⟩
          · rw [e] at hlt; cases hlt
          have hq := hcc n hlt
          have q1 := hq.2.1
          have q8 := hq.2.2.2.2.2.2.2.2
          have hf := HIN.out n hlt
          have HFN : Hid (enA 0 L (n + 1) = fen (L.getD n dfd)) := rfl
          unfold fen at hf
          have HFE : Hid (fen (L.getD n dfd) = (L.getD n dfd).2 + (12 + (L.getD n dfd).1.len)) := rfl
          obtain ⟨P8, hP8⟩ : ∃ P8, (L.getD n dfd).2 = P8 := ⟨_, rfl⟩
          obtain ⟨P1, hP1⟩ : ∃ P1, 12 + (L.getD n dfd).1.len = P1 := ⟨_, rfl⟩
          rw [hP8, hP1] at hf HFE
          rw [hP8] at q8
          rw [hP1] at q1
          have hnI : (n : Int) < L.length := by omega
          have hn0 : (0 : Int) ≤ (n : Int) := by omega
          have hsum : (P8 : Int) + (P1 : Int) ≤ 1048576 := by omega
          clear hq hcc hP8 hP1
          by_cases hcut : P8 + P1 ≤ c
          · have hcutI : (P8 : Int) + (P1 : Int) ≤ c := by omega
            have HN1 : Hid (∀ i, i < n + 1 → fen (L.getD i dfd) ≤ c) := fun i hi => by
              rcases Nat.lt_or_ge i n with h5 | h5
              · exact HA.out i h5
              · have : i = n := by omega
                subst this
                rw [HFE.out]
                exact hcut
            go_wp2_with fail
            go_quiet (fail)
            go_wp2_with fail
            go_quiet (fail)
            go_wp2_with fail
            go_roundg k
            case measure => omega
            case rel => exact ⟨n + 1, by omega, by go_num, congrArg (Value.int .i64) (by rw [HFN.out, HFE.out]; omega), HN1.out, HW.out.trans ((bel_drewN _ _).mono HW.out.size)⟩
          · have hcutI : ¬ (P8 : Int) + (P1 : Int) ≤ c := by omega
            have hcutD : decide ((P8 : Int) + (P1 : Int) ≤ c) = false := decide_eq_false hcutI
            obtain ⟨r1, r2, r3⟩ := HT2.out n (by omega) HA.out (fun h => by rw [HFE.out]; omega)
            have HVW := hid (HV3.out.below HW.out)
            have HVX := hid (HV2.out.below HW.out)
            have hN : N2 = n := by rw [← HN2.out, r1, List.length_take]; omega
            subst hN
            subst r2
            have CK : Hid (∀ y, Below wr.heap.size wr y → Calls Tryz.prog 26 #[.slice a2 N2 cap2, .slice (some ⟨b, off, none⟩) N2 cap1] y fun e w' => e = .returned (.bool true) ∧ Below y.heap.size y w') := fun y hy => by
              have := alike_yes a2 (some ⟨b, off, none⟩) cap2 cap1 (L.take N2) y (by rw [List.length_take]; omega) (by rw [← r1]; exact HVX.out.below hy) ((HVW.out.take N2).below hy)
              rw [show (L.take N2).length = N2 from by rw [List.length_take]; omega] at this
              exact this
            have HBW := hid (HB3.out.trans (HW.out.mono HB3.out.size))
            have hN2c : (N2 : Int) ≤ cap1 := by omega
            have hN20 : (0 : Int) ≤ (N2 : Int) := by omega
            clear r1 HT2 HN2 HV2 HV3 HVX HVW
            generalize enA 0 L N2 = EA at *
            by_cases hw : WY = 0
            · have hEA := r3.1 hw
              subst hw hEA
              clear r3
              go_wp2_with fail
              go_quiet (fail)
              go_wp2_with (go_at_call 26; refine (CK.out _ (bel_drewN _ _)).mono ?_; rintro e w5 ⟨rfl, b5⟩)
              go_ret
              exact ⟨rfl, HBW.out.trans (((bel_drewN _ _).trans b5).mono HBW.out.size)⟩
            · have hEA : ¬ EA = c := fun h => hw (r3.2 h)
              have hw' : ¬ (WY : Int) = 0 := by omega
              have hEA' : ¬ (EA : Int) = c := by omega
              have hwB : ((WY : Int) == 0) = false := by simp; omega
              have hEB : ((EA : Int) == (c : Int)) = false := by simp; omega
              clear r3 hw hEA
              go_wp2_with fail
              go_quiet (fail)
              go_wp2_with (go_at_call 26; refine (CK.out _ (bel_drewN _ _)).mono ?_; rintro e w5 ⟨rfl, b5⟩)
              go_ret
              exact ⟨rfl, HBW.out.trans (((bel_drewN _ _).trans b5).mono HBW.out.size)⟩
        · have hltI : ¬ (n : Int) < L.length := by omega
          have hltD : decide ((n : Int) < L.length) = false := decide_eq_false hltI
          obtain ⟨r1, r2, r3⟩ := HT2.out n (by omega) HA.out (fun h => absurd h hlt)
          have HVW := hid (HV3.out.below HW.out)
          have HVX := hid (HV2.out.below HW.out)
          have hN : N2 = n := by rw [← HN2.out, r1, List.length_take]; omega
          subst hN
          subst r2
          have CK : Hid (∀ y, Below wr.heap.size wr y → Calls Tryz.prog 26 #[.slice a2 N2 cap2, .slice a1 N2 cap1] y fun e w' => e = .returned (.bool true) ∧ Below y.heap.size y w') := fun y hy => by
            have := alike_yes a2 a1 cap2 cap1 (L.take N2) y (by rw [List.length_take]; omega) (by rw [← r1]; exact HVX.out.below hy) ((HVW.out.take N2).below hy)
            rw [show (L.take N2).length = N2 from by rw [List.length_take]; omega] at this
            exact this
          have HBW := hid (HB3.out.trans (HW.out.mono HB3.out.size))
          have hN2c : (N2 : Int) ≤ cap1 := by omega
          have hN20 : (0 : Int) ≤ (N2 : Int) := by omega
          clear r1 HT2 HN2 HV2 HV3 HVX HVW
          generalize enA 0 L N2 = EA at *
          by_cases hw : WY = 0
          · have hEA := r3.1 hw
            subst hw hEA
            clear r3
            go_wp2_with fail
            go_quiet (fail)
            go_wp2_with (go_at_call 26; refine (CK.out _ (bel_drewN _ _)).mono ?_; rintro e w5 ⟨rfl, b5⟩)
            go_ret
            exact ⟨rfl, HBW.out.trans (((bel_drewN _ _).trans b5).mono HBW.out.size)⟩
          · have hEA : ¬ EA = c := fun h => hw (r3.2 h)
            have hw' : ¬ (WY : Int) = 0 := by omega
            have hEA' : ¬ (EA : Int) = c := by omega
            have hwB : ((WY : Int) == 0) = false := by simp; omega
            have hEB : ((EA : Int) == (c : Int)) = false := by simp; omega
            clear r3 hw hEA
            go_wp2_with fail
            go_quiet (fail)
            go_wp2_with (go_at_call 26; refine (CK.out _ (bel_drewN _ _)).mono ?_; rintro e w5 ⟨rfl, b5⟩)
            go_ret
            exact ⟨rfl, HBW.out.trans (((bel_drewN _ _).trans b5).mono HBW.out.size)⟩
end Go.Proofs.YtgcgnkafhpjdiaaGreat
