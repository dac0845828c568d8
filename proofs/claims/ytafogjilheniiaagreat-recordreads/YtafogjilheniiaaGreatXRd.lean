/- The document's reader of a record: its time and number. -/
import Derived.Test.YtafogjilheniiaaGreatRX5
import Derived.Test.YtafogjilheniiaaGreatRdr5
namespace Go.Proofs.YtafogjilheniiaaGreat
open Go.RowKit
theorem tq_left {p : ByteArray} {k : Nat} (hs : p.size ≤ 9223372036854775807) : tq ((p.size : Int) - k) p k 0 = tq MX p k 0 := by
  by_cases h : rde (tl p k) = 0
  · by_cases h1 : k + rdn (tl p k) + rdv (tl p k) ≤ p.size
    · rw [tq_ok h ⟨Or.inl (by omega), h1⟩, tq_ok h ⟨Or.inl (by unfold MX; omega), h1⟩]
    · rw [tq_long h (fun x => h1 x.2), tq_long h (fun x => h1 x.2)]
  · rw [tq_bad h, tq_bad h]
theorem oq_left {p : ByteArray} {k : Nat} (hs : p.size ≤ 9223372036854775807) : oq ((p.size : Int) - k) p k 0 = oq MX p k 0 := by
  by_cases h : rde (tl p k) = 0
  · by_cases hz : M.uz (rdv (tl p k)) = -1
    · rw [oq_null h hz, oq_null h hz]
    · by_cases h1 : 0 ≤ M.uz (rdv (tl p k)) ∧ k + rdn (tl p k) + (M.uz (rdv (tl p k))).toNat ≤ p.size
      · obtain ⟨n, hn⟩ : ∃ n : Nat, M.uz (rdv (tl p k)) = n := ⟨_, (Int.toNat_of_nonneg h1.1).symm⟩
        have h2 := h1.2
        rw [hn, Int.toNat_natCast] at h2
        rw [oq_ok h hn (Or.inl (by omega)) h2, oq_ok h hn (Or.inl (by unfold MX; omega)) h2]
      · rw [oq_long h hz (fun x => h1 ⟨x.1, x.2.2⟩), oq_long h hz (fun x => h1 ⟨x.1, x.2.2⟩)]
  · rw [oq_bad h, oq_bad h]
theorem rmore_ok (t f : Int) (w : World) (h : I64 (t + f)) : Calls Tryz.prog 56 #[.int .i64 t, .int .i64 f] w fun e w' => e = .returned (.tuple #[.int .i64 (t + f), .bool true]) ∧ w' = w := by
  have hx : IntKind.i64.wrap (t + f) = t + f := wrap_in h.1 h.2
  obtain ⟨h1, h2⟩ := h
  by_cases h : f < 0
  · have e1 : t + f < t := by omega
    go_enter Tryz.func56, Tryz.ntmps56
    go_wp2
    go_ret2
    exact ⟨rfl, rfl⟩
  · have e1 : ¬ t + f < t := by omega
    go_enter Tryz.func56, Tryz.ntmps56
    go_wp2
    go_ret2
    exact ⟨rfl, rfl⟩
theorem rmore_no (t f : Int) (w : World) (ht : I64 t) (hf : I64 f) (h : ¬ I64 (t + f)) : Calls Tryz.prog 56 #[.int .i64 t, .int .i64 f] w fun e w' => e = .returned (.tuple #[.int .i64 (wrap64 (t + f)), .bool false]) ∧ w' = w := by
  unfold I64 at *
  by_cases h0 : f < 0
  · have e1 : ¬ wrap64 (t + f) < t := by unfold wrap64; omega
    have e2 : (f == 0) = false := by rw [beq_eq_false_iff_ne]; omega
    go_enter Tryz.func56, Tryz.ntmps56
    go_wp2
    go_ret2
    exact ⟨rfl, rfl⟩
  · have e1 : wrap64 (t + f) < t := by unfold wrap64; omega
    have e2 : (f == 0) = false := by rw [beq_eq_false_iff_ne]; omega
    go_enter Tryz.func56, Tryz.ntmps56
    go_wp2
    go_ret2
    exact ⟨rfl, rfl⟩
/-- What times answers. -/
def tm (p : ByteArray) (first : Int) (n : Nat) : Except Nat (Int × Nat) := match fx 1 p 0 0 with
  | (a, k1, e1) => if e1 ≠ 0 then .error e1 else if a ≠ 0 then .error 26 else match vq p k1 0 with
    | (d, k2, e2) => if e2 ≠ 0 then .error e2 else if ¬ I64 (first + d) then .error 27 else match uq p k2 0 with
      | (c, k3, e3) => if e3 ≠ 0 then .error e3 else if c ≠ n then .error 27 else .ok (first + d, k3)
theorem r1_tm (p : ByteArray) (first : Int) (n : Nat) : r1 p first n = match tm p first n with
    | .error e => .error e
    | .ok y => r4 p y.1 y.2 := by
  unfold r1 tm
  obtain ⟨a, k1, e1, hA⟩ : ∃ a k1 e1, fx 1 p 0 0 = (a, k1, e1) := ⟨_, _, _, rfl⟩
  rw [hA]
  dsimp only
  by_cases h1 : e1 = 0
  · rw [if_neg (show ¬ (e1 ≠ 0) by simpa using h1), if_neg (show ¬ (e1 ≠ 0) by simpa using h1)]
    by_cases h2 : a = 0
    · rw [if_neg (show ¬ (a ≠ 0) by simpa using h2), if_neg (show ¬ (a ≠ 0) by simpa using h2)]
      unfold r2
      obtain ⟨d, k2, e2, hB⟩ : ∃ d k2 e2, vq p k1 0 = (d, k2, e2) := ⟨_, _, _, rfl⟩
      rw [hB]
      dsimp only
      by_cases h3 : e2 = 0
      · rw [if_neg (show ¬ (e2 ≠ 0) by simpa using h3), if_neg (show ¬ (e2 ≠ 0) by simpa using h3)]
        by_cases h4 : I64 (first + d)
        · rw [if_neg (show ¬ (¬ I64 (first + d)) by simpa using h4), if_neg (show ¬ (¬ I64 (first + d)) by simpa using h4)]
          unfold r3
          obtain ⟨c, k3, e3, hC⟩ : ∃ c k3 e3, uq p k2 0 = (c, k3, e3) := ⟨_, _, _, rfl⟩
          rw [hC]
          dsimp only
          by_cases h5 : e3 = 0
          · rw [if_neg (show ¬ (e3 ≠ 0) by simpa using h5), if_neg (show ¬ (e3 ≠ 0) by simpa using h5)]
            by_cases h6 : c = n
            · rw [if_neg (show ¬ (c ≠ n) by simpa using h6), if_neg (show ¬ (c ≠ n) by simpa using h6)]
            · rw [if_pos (show c ≠ n from h6), if_pos (show c ≠ n from h6)]
          · rw [if_pos (show e3 ≠ 0 from h5), if_pos (show e3 ≠ 0 from h5)]
        · rw [if_pos (show ¬ I64 (first + d) from h4), if_pos (show ¬ I64 (first + d) from h4)]
      · rw [if_pos (show e2 ≠ 0 from h3), if_pos (show e2 ≠ 0 from h3)]
    · rw [if_pos (show a ≠ 0 from h2), if_pos (show a ≠ 0 from h2)]
  · rw [if_pos (show e1 ≠ 0 from h1), if_pos (show e1 ≠ 0 from h1)]
def TPost (b : Nat) (p : ByteArray) (R : Except Nat (Int × Nat)) (w : World) (r : Ending) (w' : World) : Prop :=
  Ch (fun i => i = b) w w' ∧ match R with
    | .error x => r = .returned (.tuple #[.int .i64 0, .int .i64 x]) ∧ x ≠ 0
    | .ok y => r = .returned (.tuple #[.int .i64 y.1, .int .i64 0]) ∧ RX w' b p y.2 0 ∧ y.2 ≤ p.size ∧ I64 y.1
set_option maxHeartbeats 1000000 in
set_option maxRecDepth 20000 in
theorem xtimes_any (b : Nat) (p : ByteArray) (first : Int) (N : Nat) (w : World) (h : RX w b p 0 0) (hs : p.size ≤ 9223372036854775807) (hf : I64 first) (hN : N < 65536) :
    Calls Tryz.prog 26 #[.pointer (some ⟨b, 0, none⟩), .int .i64 first, .int .i64 N] w (TPost b p (tm p first N) w) := by
  generalize HT : tm p first N = T
  unfold tm at HT
  obtain ⟨a, k1, e1, hA⟩ : ∃ a k1 e1, fx 1 p 0 0 = (a, k1, e1) := ⟨_, _, _, rfl⟩
  have c1 := xu8_any b p 0 0 w h (Nat.zero_le _) hs
  have hk1 := fx_le (n := 1) (e := 0) (Nat.zero_le p.size)
  rw [hA] at c1 hk1 HT
  dsimp only at c1 hk1 HT
  have C1 := hid c1
  have hw : IntKind.u64.wrap (N : Int) = N := by rw [IntKind.wrap_u64]; omega
  clear c1 hA h
  by_cases h1 : e1 = 0
  · subst h1
    rw [if_neg (by simp)] at HT
    by_cases h2 : a = 0
    · subst h2
      rw [if_neg (by simp)] at HT
      obtain ⟨d, k2, e2, hB⟩ : ∃ d k2 e2, vq p k1 0 = (d, k2, e2) := ⟨_, _, _, rfl⟩
      have c2 := fun x h => xvarint_any b p k1 0 x h hk1 hs
      have hk2 := vq_le (e := 0) hk1
      have hd := vq_bd (s := p) (k := k1) (e := 0)
      simp only [hB] at c2
      rw [hB] at hk2 HT hd
      dsimp only at hk2 HT hd
      have C2 := hid c2
      clear c2 hB
      by_cases h3 : e2 = 0
      · subst h3
        rw [if_neg (by simp)] at HT
        by_cases h4 : I64 (first + d)
        · rw [if_neg (by simpa using h4)] at HT
          obtain ⟨c, k3, e3, hC⟩ : ∃ c k3 e3, uq p k2 0 = (c, k3, e3) := ⟨_, _, _, rfl⟩
          have c3 := fun x h => xuvarint_any b p k2 0 x h hk2 hs
          have hk3 := uq_le (e := 0) hk2
          simp only [hC] at c3
          rw [hC] at hk3 HT
          dsimp only at hk3 HT
          have C3 := hid c3
          have CM := hid (fun x => rmore_ok first d x h4)
          have H4 := hid h4
          have HK3 := hid hk3
          clear c3 hC hk3 h4 hk2 hd hk1 hs hf
          by_cases h5 : e3 = 0
          · subst h5
            rw [if_neg (by simp)] at HT
            by_cases h6 : c = N
            · subst h6
              rw [if_neg (by simp)] at HT
              subst HT
              skip
              go_enter Tryz.func26, Tryz.ntmps26
              go_wp2_with fail
              refine C1.out.mono ?_
              rintro r w1 ⟨rfl, h1, hc1⟩
              have HC1 := hid hc1
              have H1 := hid h1
              clear hc1 h1
              go_wp2_with fail
              refine (C2.out _ H1.out).mono ?_
              rintro r w2 ⟨rfl, h2, hc2⟩
              have HC2 := hid (HC1.out.trans hc2)
              have H2 := hid h2
              clear hc2 h2
              go_wp2_with (go_at_call 56; refine (CM.out _).mono ?_; rintro e w' ⟨rfl, rfl⟩)
              refine (C3.out _ H2.out).mono ?_
              rintro r w3 ⟨rfl, h3, hc3⟩
              have HC3 := hid (HC2.out.trans hc3)
              have H3 := hid h3
              clear hc3 h3
              go_wp2_with fail
              go_ret2
              exact ⟨HC3.out, rfl, H3.out, HK3.out, H4.out⟩
            · rw [if_pos h6] at HT
              subst HT
              have hne : ((c : Int) != (N : Int)) = true := by rw [bne_iff_ne]; omega
              clear h6
              go_enter Tryz.func26, Tryz.ntmps26
              go_wp2_with fail
              refine C1.out.mono ?_
              rintro r w1 ⟨rfl, h1, hc1⟩
              have HC1 := hid hc1
              have H1 := hid h1
              clear hc1 h1
              go_wp2_with fail
              refine (C2.out _ H1.out).mono ?_
              rintro r w2 ⟨rfl, h2, hc2⟩
              have HC2 := hid (HC1.out.trans hc2)
              have H2 := hid h2
              clear hc2 h2
              go_wp2_with (go_at_call 56; refine (CM.out _).mono ?_; rintro e w' ⟨rfl, rfl⟩)
              refine (C3.out _ H2.out).mono ?_
              rintro r w3 ⟨rfl, h3, hc3⟩
              have HC3 := hid (HC2.out.trans hc3)
              have H3 := hid h3
              clear hc3 h3
              go_wp2_with fail
              go_ret2
              exact ⟨HC3.out, rfl, by decide⟩
          · rw [if_pos h5] at HT
            subst HT
            have hne : ((e3 : Int) != 0) = true := by rw [bne_iff_ne]; omega
            have HX := hid h5
            clear h5
            go_enter Tryz.func26, Tryz.ntmps26
            go_wp2_with fail
            refine C1.out.mono ?_
            rintro r w1 ⟨rfl, h1, hc1⟩
            have HC1 := hid hc1
            have H1 := hid h1
            clear hc1 h1
            go_wp2_with fail
            refine (C2.out _ H1.out).mono ?_
            rintro r w2 ⟨rfl, h2, hc2⟩
            have HC2 := hid (HC1.out.trans hc2)
            have H2 := hid h2
            clear hc2 h2
            go_wp2_with (go_at_call 56; refine (CM.out _).mono ?_; rintro e w' ⟨rfl, rfl⟩)
            refine (C3.out _ H2.out).mono ?_
            rintro r w3 ⟨rfl, h3, hc3⟩
            have HC3 := hid (HC2.out.trans hc3)
            have H3 := hid h3
            clear hc3 h3
            go_wp2_with fail
            go_ret2
            exact ⟨HC3.out, rfl, HX.out⟩
        · rw [if_pos h4] at HT
          subst HT
          have CM := hid (fun x => rmore_no first d x hf hd h4)
          clear h4 hd hk1 hk2 hs hf
          go_enter Tryz.func26, Tryz.ntmps26
          go_wp2_with fail
          refine C1.out.mono ?_
          rintro r w1 ⟨rfl, h1, hc1⟩
          have HC1 := hid hc1
          have H1 := hid h1
          clear hc1 h1
          go_wp2_with fail
          refine (C2.out _ H1.out).mono ?_
          rintro r w2 ⟨rfl, h2, hc2⟩
          have HC2 := hid (HC1.out.trans hc2)
          have H2 := hid h2
          clear hc2 h2
          go_wp2_with (go_at_call 56; refine (CM.out _).mono ?_; rintro e w' ⟨rfl, rfl⟩)
          go_ret2
          exact ⟨HC2.out, rfl, by decide⟩
      · rw [if_pos h3] at HT
        subst HT
        have hne : ((e2 : Int) != 0) = true := by rw [bne_iff_ne]; omega
        have HX := hid h3
        clear h3 hd hk1 hk2 hs hf
        go_enter Tryz.func26, Tryz.ntmps26
        go_wp2_with fail
        refine C1.out.mono ?_
        rintro r w1 ⟨rfl, h1, hc1⟩
        have HC1 := hid hc1
        have H1 := hid h1
        clear hc1 h1
        go_wp2_with fail
        refine (C2.out _ H1.out).mono ?_
        rintro r w2 ⟨rfl, h2, hc2⟩
        have HC2 := hid (HC1.out.trans hc2)
        have H2 := hid h2
        clear hc2 h2
        go_wp2_with fail
        go_ret2
        exact ⟨HC2.out, rfl, HX.out⟩
    · rw [if_pos h2] at HT
      subst HT
      have hne : ((a : Int) != 0) = true := by rw [bne_iff_ne]; omega
      clear h2 hk1 hs hf
      go_enter Tryz.func26, Tryz.ntmps26
      go_wp2_with fail
      refine C1.out.mono ?_
      rintro r w1 ⟨rfl, h1, hc1⟩
      go_wp2_with fail
      go_ret2
      exact ⟨hc1, rfl, by decide⟩
  · rw [if_pos h1] at HT
    subst HT
    have hne : ((e1 : Int) != 0) = true := by rw [bne_iff_ne]; omega
    have HX := hid h1
    clear h1 hk1 hs hf
    go_enter Tryz.func26, Tryz.ntmps26
    go_wp2_with fail
    refine C1.out.mono ?_
    rintro r w1 ⟨rfl, h1, hc1⟩
    go_wp2_with fail
    go_ret2
    exact ⟨hc1, rfl, HX.out⟩
end Go.Proofs.YtafogjilheniiaaGreat
