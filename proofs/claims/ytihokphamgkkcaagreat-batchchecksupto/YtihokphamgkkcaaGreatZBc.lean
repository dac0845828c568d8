/- Texts of the proof, put together: Bse, Bfx, Xcl, Xdc, Bpq, Bsf, Bcs, Bcw. -/
import Derived.Test.YtihokphamgkkcaaGreatMB6
import Derived.Test.YtihokphamgkkcaaGreatMSX
import Derived.Deep.LoopGhost
import Derived.Deep.RegionHeld3
import Derived.Test.YtihokphamgkkcaaGreatMX6
import Derived.Test.YtihokphamgkkcaaGreatMB7
namespace Go.Proofs.YtihokphamgkkcaaGreat
open Go.RowKit
/-- Two rows of records say the same. -/
def SamL (l m : List RI) : Prop := l.length = m.length ∧ ∀ j, j < l.length → SamR (l.getD j dri).r (m.getD j dri).r
noncomputable def samL (l m : List RI) : Bool := @decide (SamL l m) (Classical.propDecidable _)
theorem samL_yes {l m : List RI} (h : SamL l m) : samL l m = true := @decide_eq_true _ (Classical.propDecidable _) h
theorem samL_no {l m : List RI} (h : ¬ SamL l m) : samL l m = false := @decide_eq_false _ (Classical.propDecidable _) h
/-- Two batches say the same. -/
def SamB (a b : Bt) : Prop := a.base = b.base ∧ a.pk = b.pk ∧ a.prod = b.prod ∧ a.seq = b.seq ∧ SamL a.l b.l
noncomputable def samB (a b : Bt) : Bool := @decide (SamB a b) (Classical.propDecidable _)
theorem samB_yes {a b : Bt} (h : SamB a b) : samB a b = true := @decide_eq_true _ (Classical.propDecidable _) h
theorem samB_no {a b : Bt} (h : ¬ SamB a b) : samB a b = false := @decide_eq_false _ (Classical.propDecidable _) h
theorem hq_symm {x y : Hdr} (h : hq x y) : hq y x := ⟨h.1.symm, h.2.1.symm, h.2.2.symm⟩
theorem SamR.symm {r s : Rec} (h : SamR r s) : SamR s r := ⟨h.1.symm, ⟨h.2.1.1.symm, h.2.1.2.symm⟩, ⟨h.2.2.1.1.symm, h.2.2.1.2.symm⟩, h.2.2.2.1.symm, fun j hj => hq_symm (h.2.2.2.2 j (by rw [h.2.2.2.1]; exact hj))⟩
theorem SamR.refl (r : Rec) : SamR r r := ⟨rfl, ⟨rfl, rfl⟩, ⟨rfl, rfl⟩, rfl, fun _ _ => ⟨rfl, rfl, rfl⟩⟩
theorem SamL.symm {l m : List RI} (h : SamL l m) : SamL m l := ⟨h.1.symm, fun j hj => (h.2 j (by rw [h.1]; exact hj)).symm⟩
theorem SamL.refl (l : List RI) : SamL l l := ⟨rfl, fun _ _ => SamR.refl _⟩
theorem SamB.symm {a b : Bt} (h : SamB a b) : SamB b a := ⟨h.1.symm, h.2.1.symm, h.2.2.1.symm, h.2.2.2.1.symm, h.2.2.2.2.symm⟩
theorem SamB.refl (a : Bt) : SamB a a := ⟨rfl, rfl, rfl, rfl, SamL.refl _⟩
theorem samB_comm (a b : Bt) : samB a b = samB b a := by
  by_cases h : SamB a b
  · rw [samB_yes h, samB_yes h.symm]
  · rw [samB_no h, samB_no (fun k => h k.symm)]
theorem samL_nil {m : List RI} (h : ([] : List RI).length = m.length) : samL [] m = true := samL_yes ⟨h, fun _ hj => absurd hj (Nat.not_lt_zero _)⟩
set_option maxHeartbeats 2000000 in
set_option maxRecDepth 20000 in
theorem eqf_any (l m : List RI) (a1 a2 : Option Addr) (cap1 cap2 : Nat) (w : World) (V1 : Rcs w a1 l) (V2 : Rcs w a2 m) (hL : l.length ≤ 9223372036854775807) (hz : ∀ x ∈ l, x.r.hs.length ≤ 9223372036854775807) :
    Calls Tryz.prog 42 #[.slice a1 l.length cap1, .slice a2 m.length cap2, .func (.func 43) #[] #[]] w fun e w' => e = .returned (.bool (samL l m)) ∧ Below w.heap.size w w' := by
  by_cases hlm : l.length = m.length
  case neg =>
    have hI : ¬ (l.length : Int) = m.length := by omega
    have hB : ((l.length : Int) != (m.length : Int)) = true := by rw [bne_iff_ne]; exact hI
    rw [samL_no (fun h => hlm h.1)]
    go_enter Tryz.func42, Tryz.ntmps42
    go_wp2_with fail
    go_ret
    exact ⟨rfl, Below.refl _ _⟩
  rw [← hlm]
  rcases id V1.2 with h | ⟨b1, o1, rfl, hb1, c1⟩
  · subst h
    rw [samL_nil hlm]
    go_enter Tryz.func42, Tryz.ntmps42
    go_wp2_with fail
    go_loopg [17] 0 (fun _ i wr => i = .int .i64 0 ∧ wr = w)
    case atStart => exact ⟨rfl, rfl⟩
    case round =>
      obtain ⟨rfl, rfl⟩ := hrel
      go_wp2_with fail
      go_ret
      exact ⟨rfl, Below.refl _ _⟩
  rcases id V2.2 with h | ⟨b2, o2, rfl, hb2, c2⟩
  · have hl0 : l = [] := List.eq_nil_of_length_eq_zero (by rw [hlm, h]; rfl)
    subst hl0
    rw [samL_nil hlm]
    go_enter Tryz.func42, Tryz.ntmps42
    go_wp2_with fail
    go_loopg [17] 0 (fun _ i wr => i = .int .i64 0 ∧ wr = w)
    case atStart => exact ⟨rfl, rfl⟩
    case round =>
      obtain ⟨rfl, rfl⟩ := hrel
      go_wp2_with fail
      go_ret
      exact ⟨rfl, Below.refl _ _⟩
  obtain ⟨D, hD⟩ : ∃ D, samL l m = D := ⟨_, rfl⟩
  have HD := hid hD
  have HLM := hid hlm
  rw [hD]
  clear hD hlm
  go_enter Tryz.func42, Tryz.ntmps42
  go_wp2_with fail
  go_loopg [17] l.length (fun k i wr => ∃ j : Nat, j + k = l.length ∧ i = .int .i64 j ∧ Hid (∀ p, p < j → SamR (l.getD p dri).r (m.getD p dri).r) ∧ Hid (Below w.heap.size w wr))
  case atStart => exact ⟨0, by omega, rfl, fun p hp => absurd hp (Nat.not_lt_zero _), Below.refl _ _⟩
  case round =>
    obtain ⟨j, hk, rfl, HP, HB⟩ := hrel
    by_cases hlt : j < l.length
    · obtain ⟨k, rfl⟩ : ∃ k, gk = k + 1 := ⟨gk - 1, by omega⟩
      obtain ⟨p0, p1, p2, p3, p4, p5⟩ := (c1 j hlt).below hb1 HB.out
      have HBA := fun o => HB.out.alloc HB.out.size o
      have SQ := fun o => (c2 j (by have := HLM.out; omega)).below hb2 (HBA o)
      have CE : Hid (∀ x, Below w.heap.size w x → Calls Tryz.prog 43 _ x _) := fun x hx => same_any (l.getD j dri).r (m.getD j dri).r (l.getD j dri).a (m.getD j dri).a (l.getD j dri).cap (m.getD j dri).cap x ((V1.1 _ (riD_mem hlt)).below hx) ((V2.1 _ (riD_mem (by have := HLM.out; omega))).below hx) (hz _ (riD_mem hlt))
      have i1 : (0 : Int) ≤ (j : Int) := by omega
      have i2 : (j : Int) < l.length := by omega
      have hj63 : j < 9223372036854775807 := by omega
      have HY : Hid (SamR (l.getD j dri).r (m.getD j dri).r → ∀ p, p < j + 1 → SamR (l.getD p dri).r (m.getD p dri).r) := fun hs p hp => by
        rcases Nat.lt_or_ge p j with h5 | h5
        · exact HP.out p h5
        · have : p = j := by omega
          rw [this]; exact hs
      have HX : Hid (¬ SamR (l.getD j dri).r (m.getD j dri).r → D = false) := fun hs => by rw [← HD.out]; exact samL_no (fun h => hs (h.2 j hlt))
      generalize l.getD j dri = x at *
      generalize m.getD j dri = y at *
      obtain ⟨xr, xa, xc⟩ := x
      obtain ⟨yr, ya, yc⟩ := y
      dsimp only at *
      obtain ⟨q0, q1, q2, q3, q4, q5⟩ := SQ (.cells #[.int .i64 xr.t, .bool xr.kh, .string xr.kd, .bool xr.vh, .string xr.vd, .slice xa xr.hs.length xc] 49)
      have HB2 := hid (((HBA (.cells #[.int .i64 xr.t, .bool xr.kh, .string xr.kd, .bool xr.vh, .string xr.vd, .slice xa xr.hs.length xc] 49)).alloc (HBA _).size (.cells #[.int .i64 yr.t, .bool yr.kh, .string yr.kd, .bool yr.vh, .string yr.vd, .slice ya yr.hs.length yc] 49)))
      clear SQ HBA
      dsimp only at q0 q1 q2 q3 q4 q5
      by_cases hsm : SamR xr yr
      · have e1 := sameB_yes hsm
        rw [e1] at CE
        have HYY := hid (HY.out hsm)
        clear HX HY hsm e1
        go_wp2_with fail
        refine (CE.out _ HB2.out).mono ?_
        rintro e w3 ⟨rfl, b3⟩
        have HB3 := hid (HB2.out.trans (b3.mono HB2.out.size))
        clear b3
        go_wp2_with fail
        go_roundg k
        case measure => omega
        case rel => exact ⟨j + 1, by omega, by go_num, HYY, HB3.out⟩
      · have e1 := sameB_no hsm
        rw [e1] at CE
        have e2 := HX.out hsm
        subst e2
        clear HX HY hsm e1
        go_wp2_with fail
        refine (CE.out _ HB2.out).mono ?_
        rintro e w3 ⟨rfl, b3⟩
        have HB3 := hid (HB2.out.trans (b3.mono HB2.out.size))
        clear b3
        go_wp2_with fail
        go_ret
        exact ⟨rfl, HB3.out⟩
    · have hj : j = l.length := by omega
      subst hj
      have hDt : D = true := by rw [← HD.out]; exact samL_yes ⟨HLM.out, HP.out⟩
      subst hDt
      go_wp2_with fail
      go_ret
      exact ⟨rfl, HB.out⟩
set_option maxHeartbeats 2000000 in
set_option maxRecDepth 20000 in
theorem xsr_any (l m : List RI) (a1 a2 : Option Addr) (cap1 cap2 : Nat) (w : World) (V1 : Rcs w a1 l) (V2 : Rcs w a2 m) (hL : l.length ≤ 9223372036854775807) (hz : ∀ x ∈ l, x.r.hs.length ≤ 9223372036854775807) :
    Calls Tryz.prog 40 #[.slice a1 l.length cap1, .slice a2 m.length cap2] w fun e w' => e = .returned (.bool (samL l m)) ∧ Below w.heap.size w w' := by
  by_cases hlm : l.length = m.length
  case neg =>
    have hI : ¬ (l.length : Int) = m.length := by omega
    have hB : ((l.length : Int) != (m.length : Int)) = true := by rw [bne_iff_ne]; exact hI
    rw [samL_no (fun h => hlm h.1)]
    go_enter Tryz.func40, Tryz.ntmps40
    go_wp2_with fail
    go_ret
    exact ⟨rfl, Below.refl _ _⟩
  rw [← hlm]
  rcases id V1.2 with h | ⟨b1, o1, rfl, hb1, c1⟩
  · subst h
    rw [samL_nil hlm]
    go_enter Tryz.func40, Tryz.ntmps40
    go_wp2_with fail
    go_loopg [5] 0 (fun _ i wr => i = .int .i64 0 ∧ wr = w)
    case atStart => exact ⟨rfl, rfl⟩
    case round =>
      obtain ⟨rfl, rfl⟩ := hrel
      go_wp2_with fail
      go_ret
      exact ⟨rfl, Below.refl _ _⟩
  rcases id V2.2 with h | ⟨b2, o2, rfl, hb2, c2⟩
  · have hl0 : l = [] := List.eq_nil_of_length_eq_zero (by rw [hlm, h]; rfl)
    subst hl0
    rw [samL_nil hlm]
    go_enter Tryz.func40, Tryz.ntmps40
    go_wp2_with fail
    go_loopg [5] 0 (fun _ i wr => i = .int .i64 0 ∧ wr = w)
    case atStart => exact ⟨rfl, rfl⟩
    case round =>
      obtain ⟨rfl, rfl⟩ := hrel
      go_wp2_with fail
      go_ret
      exact ⟨rfl, Below.refl _ _⟩
  obtain ⟨D, hD⟩ : ∃ D, samL l m = D := ⟨_, rfl⟩
  have HD := hid hD
  have HLM := hid hlm
  rw [hD]
  clear hD hlm
  go_enter Tryz.func40, Tryz.ntmps40
  go_wp2_with fail
  go_loopg [5] l.length (fun k i wr => ∃ j : Nat, j + k = l.length ∧ i = .int .i64 j ∧ Hid (∀ p, p < j → SamR (l.getD p dri).r (m.getD p dri).r) ∧ Hid (Below w.heap.size w wr))
  case atStart => exact ⟨0, by omega, rfl, fun p hp => absurd hp (Nat.not_lt_zero _), Below.refl _ _⟩
  case round =>
    obtain ⟨j, hk, rfl, HP, HB⟩ := hrel
    by_cases hlt : j < l.length
    · obtain ⟨k, rfl⟩ : ∃ k, gk = k + 1 := ⟨gk - 1, by omega⟩
      have SP := fun z (hz : Below w.heap.size w z) => (c1 j hlt).below hb1 hz
      have SQ := fun z (hz : Below w.heap.size w z) => (c2 j (by have := HLM.out; omega)).below hb2 hz
      have CE : Hid (∀ x, Below w.heap.size w x → Calls Tryz.prog 78 _ x fun e w' => e = .returned (.bool (sameB (l.getD j dri).r (m.getD j dri).r)) ∧ Below w.heap.size w w') := fun x hx => (xsame_any (l.getD j dri).r (m.getD j dri).r (l.getD j dri).a (m.getD j dri).a (l.getD j dri).cap (m.getD j dri).cap x ((V1.1 _ (riD_mem hlt)).below hx) ((V2.1 _ (riD_mem (by have := HLM.out; omega))).below hx) (hz _ (riD_mem hlt))).mono fun e w' h => ⟨h.1, hx.trans (h.2.mono hx.size)⟩
      have i1 : (0 : Int) ≤ (j : Int) := by omega
      have i2 : (j : Int) < l.length := by omega
      have hj63 : j < 9223372036854775807 := by omega
      have HY : Hid (SamR (l.getD j dri).r (m.getD j dri).r → ∀ p, p < j + 1 → SamR (l.getD p dri).r (m.getD p dri).r) := fun hs p hp => by
        rcases Nat.lt_or_ge p j with h5 | h5
        · exact HP.out p h5
        · have : p = j := by omega
          rw [this]; exact hs
      have HX : Hid (¬ SamR (l.getD j dri).r (m.getD j dri).r → D = false) := fun hs => by rw [← HD.out]; exact samL_no (fun h => hs (h.2 j hlt))
      generalize l.getD j dri = x at *
      generalize m.getD j dri = y at *
      obtain ⟨xr, xa, xc⟩ := x
      obtain ⟨yr, ya, yc⟩ := y
      dsimp only at *
      have HS : Hid (∀ z, Below w.heap.size w z → (fun z => ((z.cell? ⟨b1, o1 + j * 6, none⟩ = some (.int .i64 xr.t) ∧ z.cell? ⟨b1, o1 + j * 6 + 1, none⟩ = some (.bool xr.kh) ∧ z.cell? ⟨b1, o1 + j * 6 + 2, none⟩ = some (.string xr.kd) ∧ z.cell? ⟨b1, o1 + j * 6 + 3, none⟩ = some (.bool xr.vh) ∧ z.cell? ⟨b1, o1 + j * 6 + 4, none⟩ = some (.string xr.vd) ∧ z.cell? ⟨b1, o1 + j * 6 + 5, none⟩ = some (.slice xa xr.hs.length xc)) ∧ (z.cell? ⟨b2, o2 + j * 6, none⟩ = some (.int .i64 yr.t) ∧ z.cell? ⟨b2, o2 + j * 6 + 1, none⟩ = some (.bool yr.kh) ∧ z.cell? ⟨b2, o2 + j * 6 + 2, none⟩ = some (.string yr.kd) ∧ z.cell? ⟨b2, o2 + j * 6 + 3, none⟩ = some (.bool yr.vh) ∧ z.cell? ⟨b2, o2 + j * 6 + 4, none⟩ = some (.string yr.vd) ∧ z.cell? ⟨b2, o2 + j * 6 + 5, none⟩ = some (.slice ya yr.hs.length yc))) ∧ Below w.heap.size w z) z) := fun z hz => ⟨⟨SP z hz, SQ z hz⟩, hz⟩
      have hB9 := HB.out
      clear SP SQ
      by_cases hsm : SamR xr yr
      · have e1 := sameB_yes hsm
        rw [e1] at CE
        have HYY := hid (HY.out hsm)
        clear HX HY hsm e1
        go_wp2_with fail
        go_region_held3 (fun z => ((z.cell? ⟨b1, o1 + j * 6, none⟩ = some (.int .i64 xr.t) ∧ z.cell? ⟨b1, o1 + j * 6 + 1, none⟩ = some (.bool xr.kh) ∧ z.cell? ⟨b1, o1 + j * 6 + 2, none⟩ = some (.string xr.kd) ∧ z.cell? ⟨b1, o1 + j * 6 + 3, none⟩ = some (.bool xr.vh) ∧ z.cell? ⟨b1, o1 + j * 6 + 4, none⟩ = some (.string xr.vd) ∧ z.cell? ⟨b1, o1 + j * 6 + 5, none⟩ = some (.slice xa xr.hs.length xc)) ∧ (z.cell? ⟨b2, o2 + j * 6, none⟩ = some (.int .i64 yr.t) ∧ z.cell? ⟨b2, o2 + j * 6 + 1, none⟩ = some (.bool yr.kh) ∧ z.cell? ⟨b2, o2 + j * 6 + 2, none⟩ = some (.string yr.kd) ∧ z.cell? ⟨b2, o2 + j * 6 + 3, none⟩ = some (.bool yr.vh) ∧ z.cell? ⟨b2, o2 + j * 6 + 4, none⟩ = some (.string yr.vd) ∧ z.cell? ⟨b2, o2 + j * 6 + 5, none⟩ = some (.slice ya yr.hs.length yc))) ∧ Below w.heap.size w z) (first | with_reducible exact HS.out _ (by assumption) | with_reducible exact HS.out _ (Below.drew (by assumption))) (first | (go_at_call 78; refine (CE.out _ ?_).mono ?_; (first | assumption | exact Below.drew (by assumption)); rintro e w' ⟨rfl, hbel⟩))
        all_goals
          rename_i hH3
          have HB3 := hid hH3.2
          clear hH3
          go_wp2_with fail
          go_roundg k
          case measure => omega
          case rel => exact ⟨j + 1, by omega, by go_num, HYY, HB3.out⟩
      · have e1 := sameB_no hsm
        rw [e1] at CE
        have e2 := HX.out hsm
        subst e2
        clear HX HY hsm e1
        go_wp2_with fail
        go_region_held3 (fun z => ((z.cell? ⟨b1, o1 + j * 6, none⟩ = some (.int .i64 xr.t) ∧ z.cell? ⟨b1, o1 + j * 6 + 1, none⟩ = some (.bool xr.kh) ∧ z.cell? ⟨b1, o1 + j * 6 + 2, none⟩ = some (.string xr.kd) ∧ z.cell? ⟨b1, o1 + j * 6 + 3, none⟩ = some (.bool xr.vh) ∧ z.cell? ⟨b1, o1 + j * 6 + 4, none⟩ = some (.string xr.vd) ∧ z.cell? ⟨b1, o1 + j * 6 + 5, none⟩ = some (.slice xa xr.hs.length xc)) ∧ (z.cell? ⟨b2, o2 + j * 6, none⟩ = some (.int .i64 yr.t) ∧ z.cell? ⟨b2, o2 + j * 6 + 1, none⟩ = some (.bool yr.kh) ∧ z.cell? ⟨b2, o2 + j * 6 + 2, none⟩ = some (.string yr.kd) ∧ z.cell? ⟨b2, o2 + j * 6 + 3, none⟩ = some (.bool yr.vh) ∧ z.cell? ⟨b2, o2 + j * 6 + 4, none⟩ = some (.string yr.vd) ∧ z.cell? ⟨b2, o2 + j * 6 + 5, none⟩ = some (.slice ya yr.hs.length yc))) ∧ Below w.heap.size w z) (first | with_reducible exact HS.out _ (by assumption) | with_reducible exact HS.out _ (Below.drew (by assumption))) (first | (go_at_call 78; refine (CE.out _ ?_).mono ?_; (first | assumption | exact Below.drew (by assumption)); rintro e w' ⟨rfl, hbel⟩))
        all_goals
          rename_i hH3
          have HB3 := hid hH3.2
          clear hH3
          go_wp2_with fail
          go_ret
          exact ⟨rfl, HB3.out⟩
    · have hj : j = l.length := by omega
      subst hj
      have hDt : D = true := by rw [← HD.out]; exact samL_yes ⟨HLM.out, HP.out⟩
      subst hDt
      go_wp2_with fail
      go_ret
      exact ⟨rfl, HB.out⟩
end Go.Proofs.YtihokphamgkkcaaGreat
namespace Go.Proofs.YtihokphamgkkcaaGreat
open Go.RowKit
theorem nb_be6 : ∀ (n : Nat) (l : List Nat), l.length = n → (∀ b ∈ l, b < 256) → nb n (be l) = l
  | 0, l, h, _ => by rw [List.eq_nil_of_length_eq_zero h]; rfl
  | n + 1, l, h, hb => by
    rcases List.eq_nil_or_concat l with rfl | ⟨l', b, rfl⟩
    · simp at h
    · have h' : l'.length = n := by simpa using h
      have hb1 := hb b (by simp)
      rw [List.concat_eq_append] at hb ⊢
      rw [be_snoc, nb]
      have e1 : (be l' * 256 + b) / 256 = be l' := by omega
      have e2 : (be l' * 256 + b) % 256 = b := by omega
      rw [e1, e2, nb_be6 n l' h' (fun c hc => hb c (by simp [hc]))]
theorem nb_num {s : ByteArray} {k n : Nat} (h : k + n ≤ s.size) : nb n (num s k n) = ((bl s).drop k).take n := by
  unfold num
  rw [nb_be6 n _ (by rw [bl_len, ByteArray.size_extract]; omega) (bl_byte _), bl_ext, show k + n - k = n by omega]
theorem u64_wrap {v : Nat} (h : v < 18446744073709551616) : u64 (wrap64 (v : Int)) = v := by unfold u64 wrap64; omega
theorem u32_wrap {v : Nat} (h : v < 4294967296) : u32 (wrap32 (v : Int)) = v := by unfold u32 wrap32; omega
theorem take_more {l : List Nat} (k n : Nat) : l.take k ++ (l.drop k).take n = l.take (k + n) := by rw [← List.take_add]
/-- A head is its numbers' bytes. -/
theorem head_bytes {s : ByteArray} (h : 51 ≤ s.size) : usm (fsOf s) ++ smd (fsOf s) = (bl s).take 51 := by
  unfold usm smd fsOf
  dsimp only
  rw [u64_wrap (num_lt8 (by omega)), u64_wrap (num_lt8 (by omega)), u64_wrap (num_lt8 (by omega)), u64_wrap (num_lt8 (by omega)), u32_wrap (num_lt4 (by omega))]
  rw [nb_num (by omega), nb_num (by omega), nb_num (by omega), nb_num (by omega), nb_num (by omega), nb_num (by omega), nb_num (by omega), nb_num (by omega), nb_num (by omega), nb_num (by omega)]
  rw [List.drop_zero, ← List.append_assoc, ← List.append_assoc, ← List.append_assoc, ← List.append_assoc, ← List.append_assoc, take_more, take_more, take_more, take_more, take_more, take_more, take_more, take_more, take_more]
/-- What is known of a frame that is taken. -/
structure Tkn (s : ByteArray) (f : Fs) (L : List Rec) (b : ByteArray) : Prop where
  fs : f = fsOf s
  r : Right f
  ok : FsOk f
  n : 12 + f.len ≤ s.size
  sum : crcOf (s.extract 17 (12 + f.len)) = f.sum
  rb : rbd b f.first f.cnt = .ok L
  gr : gr L = f.grt
  bz : b.size ≤ 16777216
theorem ite_pos {α : Type} {x e : Nat} {F : Except Nat α} (h : (if x ≠ 0 then .error x else F) = .error e) : e ≠ 0 ∨ F = .error e := by
  by_cases hx : x ≠ 0
  · rw [if_pos hx] at h
    injection h with h
    exact Or.inl (h ▸ hx)
  · rw [if_neg hx] at h
    exact Or.inr h
theorem pre_err {l : List Hdr} {x : Except Nat (List Hdr × Nat)} {e : Nat} (h : pre l x = .error e) : x = .error e := by
  cases x with
  | error y => exact h
  | ok y => obtain ⟨a, b⟩ := y; cases h
theorem hdq_pos {p : ByteArray} : ∀ {c k e : Nat}, hdq p c k = .error e → e ≠ 0
  | 0, k, e, h => by unfold hdq at h; cases h
  | c + 1, k, e, h => by
    unfold hdq at h
    rcases ite_pos h with h | h
    · exact h
    · rcases ite_pos h with h | h
      · exact h
      · exact hdq_pos (pre_err h)
theorem r7_pos {p : ByteArray} {t : Int} {kh vh : Bool} {kd vd : ByteArray} {c k e : Nat} (h : r7 p t kh kd vh vd c k = .error e) : e ≠ 0 := by
  unfold r7 at h
  split at h
  · rename_i hh; injection h with h; subst h; exact hdq_pos hh
  · split at h
    · injection h with h; omega
    · cases h
theorem r6_pos {p : ByteArray} {t : Int} {kh vh : Bool} {kd vd : ByteArray} {k e : Nat} (h : r6 p t kh kd vh vd k = .error e) : e ≠ 0 := by
  unfold r6 at h
  rcases ite_pos h with h | h
  · exact h
  · dsimp only at h
    split at h
    · injection h with h; omega
    · exact r7_pos h
theorem r5_pos {p : ByteArray} {t : Int} {kh : Bool} {kd : ByteArray} {k e : Nat} (h : r5 p t kh kd k = .error e) : e ≠ 0 := by
  unfold r5 at h
  rcases ite_pos h with h | h
  · exact h
  · exact r6_pos h
theorem r4_pos {p : ByteArray} {t : Int} {k e : Nat} (h : r4 p t k = .error e) : e ≠ 0 := by
  unfold r4 at h
  rcases ite_pos h with h | h
  · exact h
  · exact r5_pos h
theorem r3_pos {p : ByteArray} {t : Int} {n k e : Nat} (h : r3 p t n k = .error e) : e ≠ 0 := by
  unfold r3 at h
  rcases ite_pos h with h | h
  · exact h
  · dsimp only at h
    split at h
    · injection h with h; omega
    · exact r4_pos h
theorem r2_pos {p : ByteArray} {first : Int} {n k e : Nat} (h : r2 p first n k = .error e) : e ≠ 0 := by
  unfold r2 at h
  rcases ite_pos h with h | h
  · exact h
  · dsimp only at h
    split at h
    · injection h with h; omega
    · exact r3_pos h
theorem r1_pos {p : ByteArray} {first : Int} {n e : Nat} (h : r1 p first n = .error e) : e ≠ 0 := by
  unfold r1 at h
  rcases ite_pos h with h | h
  · exact h
  · dsimp only at h
    split at h
    · injection h with h; omega
    · exact r2_pos h
theorem nx2_pos {s : ByteArray} {k : Nat} {first : Int} {n L k1 e : Nat} (h : nx2 s k first n L k1 = .error e) : e ≠ 0 := by
  unfold nx2 at h
  split at h
  · injection h with h; omega
  · split at h
    · rename_i hh; injection h with h; subst h; exact r1_pos hh
    · split at h
      · injection h with h; omega
      · cases h
theorem nxt_pos {s : ByteArray} {k : Nat} {first : Int} {n e : Nat} (h : nxt s k first n = .error e) : e ≠ 0 := by
  unfold nxt at h
  rcases ite_pos h with h | h
  · exact h
  · exact nx2_pos h
theorem rd5_pos {s : ByteArray} {first n : Int} {e : Nat} (h : rd5 s first n = .error e) : e ≠ 0 := by
  unfold rd5 at h
  split at h
  · injection h with h; omega
  · exact nxt_pos h
theorem crunG_pos (rd : Nat → Nat → Except Nat (Rec × Nat)) (hp : ∀ k j e, rd k j = .error e → e ≠ 0) (j : Nat) : ∀ e, crunG rd j = .error e → e ≠ 0 := by
  induction j with
  | zero => intro e h; rw [crunG] at h; cases h
  | succ j ih =>
    intro e h
    rw [crunG_succ] at h
    cases hr : crunG rd j with
    | error x => rw [hr] at h; injection h with h; subst h; exact ih x hr
    | ok y =>
      obtain ⟨l, k⟩ := y
      rw [hr] at h
      dsimp only at h
      cases hn : rd k j with
      | error x => rw [hn] at h; injection h with h; subst h; exact hp k j x hn
      | ok z => rw [hn] at h; cases h
theorem crun_pos {s : ByteArray} {first : Int} : ∀ (j e : Nat), crun s first j = .error e → e ≠ 0 := by
  exact crunG_pos _ (fun _ _ _ h => rd5_pos h)
theorem taken {s : ByteArray} {frame plain : Int} {f : Fs} {b : ByteArray} (h : opn s frame plain = .ok (f, b)) : ∃ L, Tkn s f L b ∧ bod (s.extract 51 (12 + f.len)) f.st (wth plain 7 16777216) = .ok b := by
  obtain ⟨h1, h2, h3, h4, h5⟩ := opn_ok h
  have hz : ¬ s.size < 51 := by intro h; rw [pke_short h] at h1; cases h1
  have hr : rgt (fsOf s) = true := by
    cases hh : rgt (fsOf s) with
    | true => rfl
    | false => rw [pke_no hz hh] at h1; cases h1
  have R := rgt_iff.1 hr
  obtain ⟨w1, w2⟩ := whe_zero h3
  have hsum : crcOf (s.extract 17 (12 + (fsOf s).len)) = (fsOf s).sum := by
    unfold whe at h3
    rw [if_neg w1, if_neg w2] at h3
    split at h3
    · cases h3
    · rename_i h; exact Classical.not_not.1 h
  have hm2 := wth_in plain 7 16777216 (by omega)
  have hbz : b.size ≤ 16777216 := by
    have hb := h4
    unfold bod at hb
    split at hb
    · split at hb
      · cases hb
      · split at hb
        · cases hb
        · rename_i hn
          split at hb
          · cases hb
          · rename_i T hu
            cases hb
            rw [Lz.ba_size]
            have := un_len hu
            omega
    · split at hb
      · cases hb
      · injection hb with hb
        rw [← hb]
        omega
  obtain ⟨L, l1, l2⟩ := (cbe_iff ⟨R.c1, R.c2⟩ hbz (fun j e => crun_pos j e)).1 h5
  subst h2
  exact ⟨L, ⟨rfl, R, fsOf_ok (by omega), by omega, hsum, l1, l2, hbz⟩, h4⟩
end Go.Proofs.YtihokphamgkkcaaGreat
namespace Go.Proofs.YtihokphamgkkcaaGreat
open Go.RowKit
theorem bd_cl6 {h : Bool} {d : ByteArray} (hc : Cl h d) : bd h d = d := by
  cases h with
  | false => rw [hc rfl]; rfl
  | true => rfl
theorem df_mem {hs : List Hdr} {i : Nat} (hi : i < hs.length) : hs.getD i df ∈ hs := by
  rw [List.getD_eq_getElem?_getD, List.getElem?_eq_getElem hi, Option.getD_some]
  exact List.getElem_mem hi
theorem taken_good {s : ByteArray} {frame plain : Int} {f : Fs} {b : ByteArray} (h : opn s frame plain = .ok (f, b)) : ∃ L, dcd s frame plain = .ok (f, L) ∧ crun b f.first f.cnt = .ok (L, b.size) ∧ (∀ r ∈ L, ∃ first, Good first r) ∧ L.length = f.cnt ∧ f.cnt ≤ 65536 := by
  obtain ⟨L, ht, _⟩ := taken h
  have hr := ht.rb
  obtain ⟨c1, c2, c3, c4, c5⟩ := rbd_crun hr
  have hR := crun_run (by omega) c3.2 c1 (Or.inr c2)
  have hg := (run_ran (by omega) c3.2 hR.1).good
  refine ⟨L, ?_, c1, fun r hr => ⟨_, hg r hr⟩, c5, c3.2⟩
  unfold dcd
  rw [h]
  dsimp only
  rw [hr]
theorem taken_size {s : ByteArray} {frame plain : Int} {f : Fs} {b : ByteArray} (h : opn s frame plain = .ok (f, b)) : f.len ≤ 16777204 := by
  obtain ⟨_, ht, _⟩ := taken h
  exact ht.r.l2
set_option maxHeartbeats 4000000 in
set_option maxRecDepth 20000 in
theorem xcleanB_yes (base : Int) (pk : Bool) (prod seq : Int) (l : List RI) (a : Option Addr) (cap : Nat) (w : World) (V : Rcs w a l) (hL : l.length ≤ 65536) (hG : ∀ x ∈ l, ∃ first, Good first x.r) :
    Calls Tryz.prog 19 #[.agg #[.int .i64 base, .bool pk, .int .i64 prod, .int .i32 seq, .slice a l.length cap]] w fun e w' => e = .returned (.bool true) ∧ Below w.heap.size w w' := by
  have HVV := hid V
  have HG := hid hG
  have N0 := hid (Bx1.new w #[.int .i64 base, .bool pk, .int .i64 prod, .int .i32 seq, .slice a l.length cap] 24)
  rcases V.2 with h | ⟨b, off, rfl, hb, hc⟩
  · subst h
    clear V hG hL
    obtain ⟨k0, k1, k2, k3, k4⟩ := cells5 N0.out.p
    go_enter Tryz.func19, Tryz.ntmps19
    go_wp2_with fail
    clear k0 k1 k2 k3 k4
    go_loopg [3] 0 (fun _ i wr => i = .int .i64 0 ∧ Hid (Bx1 w #[.int .i64 base, .bool pk, .int .i64 prod, .int .i32 seq, .slice a ([] : List RI).length cap] 24 wr))
    case atStart => exact ⟨rfl, N0⟩
    case round =>
      obtain ⟨rfl, HN⟩ := hrel
      obtain ⟨k0, k1, k2, k3, k4⟩ := cells5 HN.out.p
      go_wp2_with fail
      go_ret
      exact ⟨rfl, HN.out.b⟩
  have HC := hid hc
  clear V hG hc
  go_enter Tryz.func19, Tryz.ntmps19
  go_wp2_with fail
  go_loopg [3] l.length (fun k i wr => ∃ j : Nat, j + k = l.length ∧ i = .int .i64 j ∧ Hid (Bx1 w #[.int .i64 base, .bool pk, .int .i64 prod, .int .i32 seq, .slice (some ⟨b, off, none⟩) l.length cap] 24 wr))
  case atStart => exact ⟨0, by omega, rfl, N0⟩
  case round =>
    obtain ⟨j, hk, rfl, HN⟩ := hrel
    obtain ⟨k0, k1, k2, k3, k4⟩ := cells5 HN.out.p
    by_cases hlt : j < l.length
    · obtain ⟨k, rfl⟩ : ∃ k, gk = k + 1 := ⟨gk - 1, by omega⟩
      obtain ⟨p0, p1, p2, p3, p4, p5⟩ := (HC.out j hlt).below hb HN.out.b
      have hH := (HVV.out.1 _ (riD_mem hlt)).below HN.out.b
      obtain ⟨first, gt, gd, gk1, gv, gn, gh⟩ := HG.out _ (riD_mem hlt)
      have CC := hid (xclean_yes (l.getD j dri).r.t (l.getD j dri).r.kh (l.getD j dri).r.vh (l.getD j dri).r.kd (l.getD j dri).r.vd (l.getD j dri).r.hs (l.getD j dri).a (l.getD j dri).cap wr hH (by omega) (bd_cl6 gk1) (bd_cl6 gv) (fun i hi => bd_cl6 (gh _ (df_mem hi))))
      have i1 : (0 : Int) ≤ (j : Int) := by omega
      have i2 : (j : Int) < l.length := by omega
      clear hH gt gd gk1 gv gn gh
      generalize l.getD j dri = x at *
      obtain ⟨⟨t, kh, kd, vh, vd, hs⟩, xa, xc⟩ := x
      dsimp only at p0 p1 p2 p3 p4 p5 CC
      go_wp2_with fail
      refine CC.out.mono ?_
      rintro e w3 ⟨rfl, b3⟩
      have HN3 := hid (HN.out.call b3)
      clear b3 p0 p1 p2 p3 p4 p5 k0 k1 k2 k3 k4 CC
      go_wp2_with fail
      go_roundg k
      case measure => omega
      case rel => exact ⟨j + 1, by omega, by go_num, HN3⟩
    · have i2 : ¬ (j : Int) < l.length := by omega
      go_wp2_with fail
      go_ret
      exact ⟨rfl, HN.out.b⟩
end Go.Proofs.YtihokphamgkkcaaGreat
namespace Go.Proofs.YtihokphamgkkcaaGreat
open Go.RowKit
/-- What the document's Decode leaves. -/
def XdPost (R : Except Nat (Fs × ByteArray)) (w : World) (e : Ending) (w' : World) : Prop :=
  Below w.heap.size w w' ∧ match R with
    | .error x => e = .returned (.tuple #[noBt, .int .i64 0, .int .i64 x])
    | .ok y => ∃ v k acc, e = .returned (.tuple #[.agg #[.int .i64 y.1.base, .bool (decide (y.1.st = 1)), .int .i64 y.1.prod, .int .i32 y.1.seq, v], .int .i64 (12 + y.1.len : Nat), .int .i64 0]) ∧ crun y.2 y.1.first y.1.cnt = .ok (acc.map RI.r, k) ∧ Held w' w.heap.size v acc
set_option maxHeartbeats 2000000 in
set_option maxRecDepth 20000 in
theorem xdecode_any (s : ByteArray) (frame plain : Int) (w : World) (hs : s.size ≤ 1048576) :
    Calls Tryz.prog 17 #[.string s, .int .i64 frame, .int .i64 plain] w (XdPost (opn s frame plain) w) := by
  have cw := fun w => xwhole_any s frame plain w hs
  unfold WhPost at cw
  unfold XdPost noBt
  cases ho : opn s frame plain with
  | error x =>
    have hx := opn_err ho
    have hxI : ¬ (x : Int) = 0 := by omega
    rw [ho] at cw
    unfold noHd at cw
    dsimp only at cw ⊢
    have CW := hid cw
    clear cw ho hx
    go_enter Tryz.func17, Tryz.ntmps17
    go_wp2_with fail
    refine (CW.out _).mono ?_
    rintro e w1 ⟨b1, rfl⟩
    have X1 := ((Bx1.new w #[.int .i64 0, .bool false, .int .i64 0, .int .i32 0, .slice none 0 0] 24).call b1).alloc (.cells #[.int .i64 0, .int .i64 0, .bool false, .int .i64 0, .int .i64 0, .int .i64 0, .int .i64 0, .int .i32 0] 35)
    obtain ⟨r0, r1, r2, r3, r4⟩ := cells5 X1.p
    obtain ⟨z0, z1, z2, z3, z4⟩ := froz5 X1.p
    clear b1
    go_wp2_with fail
    clear r0 r1 r2 r3 r4 z0 z1 z2 z3 z4
    have P := put5' X1 (.int .i64 0) (.bool false) (.int .i64 0) (.int .i32 0) (.slice none 0 0)
    generalize ((((((w1.alloc (.cells #[.int .i64 0, .int .i64 0, .bool false, .int .i64 0, .int .i64 0, .int .i64 0, .int .i64 0, .int .i32 0] 35)).setCell ⟨w.heap.size, 0, none⟩ (.int .i64 0)).setCell ⟨w.heap.size, 1, none⟩ (.bool false)).setCell ⟨w.heap.size, 2, none⟩ (.int .i64 0)).setCell ⟨w.heap.size, 3, none⟩ (.int .i32 0)).setCell ⟨w.heap.size, 4, none⟩ (.slice none 0 0)) = WF at *
    obtain ⟨e0, e1, e2, e3, e4⟩ := cells5 P.p
    exact bodyPost_ret (v := .tuple #[.agg #[.int .i64 0, .bool false, .int .i64 0, .int .i32 0, .slice none 0 0], .int .i64 0, .int .i64 x]) (by simp [results, Tryz.results17, go_sem, e0, e1, e2, e3, e4]) rfl ⟨P.b, rfl⟩
  | ok y =>
    obtain ⟨F, bb⟩ := y
    rw [ho] at cw
    unfold hdV at cw
    dsimp only at cw ⊢
    generalize ((12 + F.len : Nat) : Int) = LN at *
    generalize decide (F.st = 1) = PK at *
    have CW := hid cw
    clear cw ho
    go_enter Tryz.func17, Tryz.ntmps17
    go_wp2_with fail
    refine (CW.out _).mono ?_
    rintro e w1 ⟨b1', v, kk, acc, rfl, hcr, hH⟩
    have HB1 := hid b1'
    have HCR := hid hcr
    obtain ⟨va, vc, rfl, hV⟩ := hH.slice
    have X1 := ((Bx1.new w #[.int .i64 0, .bool false, .int .i64 0, .int .i32 0, .slice none 0 0] 24).call b1').alloc (.cells #[.int .i64 F.base, .int .i64 LN, .bool PK, .int .i64 F.cnt, .int .i64 F.first, .int .i64 F.grt, .int .i64 F.prod, .int .i32 F.seq] 35)
    have H1 : (w1.alloc (.cells #[.int .i64 F.base, .int .i64 LN, .bool PK, .int .i64 F.cnt, .int .i64 F.first, .int .i64 F.grt, .int .i64 F.prod, .int .i32 F.seq] 35)).heap[w1.heap.size]? = some (.cells #[.int .i64 F.base, .int .i64 LN, .bool PK, .int .i64 F.cnt, .int .i64 F.first, .int .i64 F.grt, .int .i64 F.prod, .int .i32 F.seq] 35 (0, 0)) := heap_new _ _
    have hH2 : Held (w1.alloc (.cells #[.int .i64 F.base, .int .i64 LN, .bool PK, .int .i64 F.cnt, .int .i64 F.first, .int .i64 F.grt, .int .i64 F.prod, .int .i32 F.seq] 35)) w.heap.size (.slice va acc.length vc) acc := (hH.kept (fun g hg _ => ((Below.refl _ w1).alloc (Nat.le_refl _) (.cells #[.int .i64 F.base, .int .i64 LN, .bool PK, .int .i64 F.cnt, .int .i64 F.first, .int .i64 F.grt, .int .i64 F.prod, .int .i32 F.seq] 35)).block g hg)).lower (by simp)
    have hne : w1.heap.size ≠ w.heap.size := by have := lt_of_heap ((Bx1.new w #[.int .i64 0, .bool false, .int .i64 0, .int .i32 0, .slice none 0 0] 24).call b1').p; omega
    obtain ⟨W1, hW1⟩ : ∃ x, (w1.alloc (.cells #[.int .i64 F.base, .int .i64 LN, .bool PK, .int .i64 F.cnt, .int .i64 F.first, .int .i64 F.grt, .int .i64 F.prod, .int .i32 F.seq] 35)) = x := ⟨_, rfl⟩
    rw [hW1] at X1 H1 hH2
    have HK := hid (held_put5 hH2 X1.p (by decide) (by decide) (.int .i64 F.base) (.bool PK) (.int .i64 F.prod) (.int .i32 F.seq) (.slice va acc.length vc))
    obtain ⟨r0, r1, r2, r3, r4⟩ := cells5 X1.p
    obtain ⟨z0, z1, z2, z3, z4⟩ := froz5 X1.p
    obtain ⟨h0, h1, h2, h3, h4, h5, h6, h7⟩ := cells8 H1
    clear hH hH2 hV hcr b1'
    go_wp2_with fail
    clear h0 h1 h2 h3 h4 h5 h6 h7
    go_region_held3 (fun x => x.cell? ⟨w1.heap.size, 0, none⟩ = some (.int .i64 F.base) ∧ x.cell? ⟨w1.heap.size, 1, none⟩ = some (.int .i64 LN) ∧ x.cell? ⟨w1.heap.size, 2, none⟩ = some (.bool PK) ∧ x.cell? ⟨w1.heap.size, 3, none⟩ = some (.int .i64 F.cnt) ∧ x.cell? ⟨w1.heap.size, 4, none⟩ = some (.int .i64 F.first) ∧ x.cell? ⟨w1.heap.size, 5, none⟩ = some (.int .i64 F.grt) ∧ x.cell? ⟨w1.heap.size, 6, none⟩ = some (.int .i64 F.prod) ∧ x.cell? ⟨w1.heap.size, 7, none⟩ = some (.int .i32 F.seq)) (first | with_reducible exact cells8 H1 | with_reducible exact cells8 (World.drew_heap H1) | with_reducible exact cells8 (store5f H1 hne) | with_reducible exact cells8 (World.drew_heap (store5f H1 hne))) ((fail))
    have P := put5' X1 (.int .i64 F.base) (.bool PK) (.int .i64 F.prod) (.int .i32 F.seq) (.slice va acc.length vc)
    have hK := HK.out
    clear r0 r1 r2 r3 r4 z0 z1 z2 z3 z4 HK H1 X1
    generalize (((((W1.setCell ⟨w.heap.size, 0, none⟩ (.int .i64 F.base)).setCell ⟨w.heap.size, 1, none⟩ (.bool PK)).setCell ⟨w.heap.size, 2, none⟩ (.int .i64 F.prod)).setCell ⟨w.heap.size, 3, none⟩ (.int .i32 F.seq)).setCell ⟨w.heap.size, 4, none⟩ (.slice va acc.length vc)) = WF at *
    have PD := P.drew
    have hKD : Held WF.drew w.heap.size (.slice va acc.length vc) acc := hK.kept (fun _ _ _ => rfl)
    clear P hK
    generalize WF.drew = WG at *
    obtain ⟨e0, e1, e2, e3, e4⟩ := cells5 PD.p
    go_wp2_with fail
    exact bodyPost_ret (v := .tuple #[.agg #[.int .i64 F.base, .bool PK, .int .i64 F.prod, .int .i32 F.seq, .slice va acc.length vc], .int .i64 LN, .int .i64 0]) (by simp [results, Tryz.results17, go_sem, e0, e1, e2, e3, e4]) rfl ⟨PD.b, .slice va acc.length vc, kk, acc, rfl, HCR.out, hKD⟩
end Go.Proofs.YtihokphamgkkcaaGreat
namespace Go.Proofs.YtihokphamgkkcaaGreat
open Go.RowKit
set_option maxHeartbeats 1000000 in
set_option maxRecDepth 20000 in
theorem peekH_no (s : ByteArray) (E : Nat) (w : World) (h0 : ¬ E = 0) (CP : Hid (∀ w, Calls Tryz.prog 34 #[.string s] w fun e w' => e = .returned (.tuple #[.agg #[.int .i64 0, .int .u32 0, .int .u8 0, .int .u32 0, .int .u16 0, .int .u32 0, .int .i64 0, .int .i64 0, .int .i64 0, .int .i32 0], .int .i64 E]) ∧ Below w.heap.size w w')) :
    Calls Tryz.prog 12 #[.string s] w fun e w' => e = .returned (.tuple #[.agg #[.int .i64 0, .int .i64 0, .bool false, .int .i64 0, .int .i64 0, .int .i64 0, .int .i64 0, .int .i32 0], .int .i64 E]) ∧ Below w.heap.size w w' := by
  have h0' : ¬ (E : Int) = 0 := by omega
  go_enter Tryz.func12, Tryz.ntmps12
  go_wp2_with fail
  refine (CP.out _).mono ?_
  rintro e w1 ⟨rfl, b1⟩
  have X1 := ((Bx1.new w #[.int .i64 0, .int .i64 0, .bool false, .int .i64 0, .int .i64 0, .int .i64 0, .int .i64 0, .int .i32 0] 35).call b1).alloc (.cells #[.int .i64 0, .int .u32 0, .int .u8 0, .int .u32 0, .int .u16 0, .int .u32 0, .int .i64 0, .int .i64 0, .int .i64 0, .int .i32 0] 59)
  obtain ⟨r0, r1, r2, r3, r4, r5, r6, r7⟩ := cells8 X1.p
  obtain ⟨z0, z1, z2, z3, z4, z5, z6, z7⟩ := froz8 X1.p
  clear b1
  go_wp2_with fail
  clear r0 r1 r2 r3 r4 r5 r6 r7 z0 z1 z2 z3 z4 z5 z6 z7
  have P := put8' X1 (.int .i64 0) (.int .i64 0) (.bool false) (.int .i64 0) (.int .i64 0) (.int .i64 0) (.int .i64 0) (.int .i32 0)
  generalize (((((((((w1.alloc (.cells #[.int .i64 0, .int .u32 0, .int .u8 0, .int .u32 0, .int .u16 0, .int .u32 0, .int .i64 0, .int .i64 0, .int .i64 0, .int .i32 0] 59)).setCell ⟨w.heap.size, 0, none⟩ (.int .i64 0)).setCell ⟨w.heap.size, 1, none⟩ (.int .i64 0)).setCell ⟨w.heap.size, 2, none⟩ (.bool false)).setCell ⟨w.heap.size, 3, none⟩ (.int .i64 0)).setCell ⟨w.heap.size, 4, none⟩ (.int .i64 0)).setCell ⟨w.heap.size, 5, none⟩ (.int .i64 0)).setCell ⟨w.heap.size, 6, none⟩ (.int .i64 0)).setCell ⟨w.heap.size, 7, none⟩ (.int .i32 0)) = WF at *
  obtain ⟨e0, e1, e2, e3, e4, e5, e6, e7⟩ := cells8 P.p
  exact bodyPost_ret (v := .tuple #[.agg #[.int .i64 0, .int .i64 0, .bool false, .int .i64 0, .int .i64 0, .int .i64 0, .int .i64 0, .int .i32 0], .int .i64 E]) (by simp [results, Tryz.results12, go_sem, e0, e1, e2, e3, e4, e5, e6, e7]) rfl ⟨rfl, P.b⟩
set_option maxHeartbeats 1000000 in
set_option maxRecDepth 20000 in
theorem peekH_yes (s : ByteArray) (c0 c6 c7 c8 c9 : Int) (c1 c2 c3 c4 c5 : Nat) (b0 b1 : Int) (b2 : Bool) (b3 b4 b5 b6 b7 : Int) (w : World)
    (CP : Hid (∀ w, Calls Tryz.prog 34 #[.string s] w fun e w' => e = .returned (.tuple #[.agg #[.int .i64 c0, .int .u32 c1, .int .u8 c2, .int .u32 c3, .int .u16 c4, .int .u32 c5, .int .i64 c6, .int .i64 c7, .int .i64 c8, .int .i32 c9], .int .i64 0]) ∧ Below w.heap.size w w'))
    (CH : Hid (∀ w, Calls Tryz.prog 35 #[.agg #[.int .i64 c0, .int .u32 c1, .int .u8 c2, .int .u32 c3, .int .u16 c4, .int .u32 c5, .int .i64 c6, .int .i64 c7, .int .i64 c8, .int .i32 c9]] w fun e w' => e = .returned (.agg #[.int .i64 b0, .int .i64 b1, .bool b2, .int .i64 b3, .int .i64 b4, .int .i64 b5, .int .i64 b6, .int .i32 b7]) ∧ Below w.heap.size w w')) :
    Calls Tryz.prog 12 #[.string s] w fun e w' => e = .returned (.tuple #[.agg #[.int .i64 b0, .int .i64 b1, .bool b2, .int .i64 b3, .int .i64 b4, .int .i64 b5, .int .i64 b6, .int .i32 b7], .int .i64 0]) ∧ Below w.heap.size w w' := by
  go_enter Tryz.func12, Tryz.ntmps12
  go_wp2_with fail
  refine (CP.out _).mono ?_
  rintro e w1 ⟨rfl, b1'⟩
  have X1 := ((Bx1.new w #[.int .i64 0, .int .i64 0, .bool false, .int .i64 0, .int .i64 0, .int .i64 0, .int .i64 0, .int .i32 0] 35).call b1').alloc (.cells #[.int .i64 c0, .int .u32 c1, .int .u8 c2, .int .u32 c3, .int .u16 c4, .int .u32 c5, .int .i64 c6, .int .i64 c7, .int .i64 c8, .int .i32 c9] 59)
  have F1 : (w1.alloc (.cells #[.int .i64 c0, .int .u32 c1, .int .u8 c2, .int .u32 c3, .int .u16 c4, .int .u32 c5, .int .i64 c6, .int .i64 c7, .int .i64 c8, .int .i32 c9] 59)).heap[w1.heap.size]? = some (.cells #[.int .i64 c0, .int .u32 c1, .int .u8 c2, .int .u32 c3, .int .u16 c4, .int .u32 c5, .int .i64 c6, .int .i64 c7, .int .i64 c8, .int .i32 c9] 59 (0, 0)) := heap_new _ _
  obtain ⟨W1, hW1⟩ : ∃ x, (w1.alloc (.cells #[.int .i64 c0, .int .u32 c1, .int .u8 c2, .int .u32 c3, .int .u16 c4, .int .u32 c5, .int .i64 c6, .int .i64 c7, .int .i64 c8, .int .i32 c9] 59)) = x := ⟨_, rfl⟩
  rw [hW1] at X1 F1
  obtain ⟨f0, f1, f2, f3, f4, f5, f6, f7, f8, f9⟩ := cells10 F1
  clear b1'
  go_wp2_with fail
  refine (CH.out _).mono ?_
  rintro e w2 ⟨rfl, b2'⟩
  have X2 := X1.call b2'
  clear f0 f1 f2 f3 f4 f5 f6 f7 f8 f9 b2' X1 F1
  obtain ⟨r0, r1, r2, r3, r4, r5, r6, r7⟩ := cells8 X2.p
  obtain ⟨z0, z1, z2, z3, z4, z5, z6, z7⟩ := froz8 X2.p
  go_wp2_with fail
  clear r0 r1 r2 r3 r4 r5 r6 r7 z0 z1 z2 z3 z4 z5 z6 z7
  have P := put8' X2 (.int .i64 b0) (.int .i64 b1) (.bool b2) (.int .i64 b3) (.int .i64 b4) (.int .i64 b5) (.int .i64 b6) (.int .i32 b7)
  generalize ((((((((w2.setCell ⟨w.heap.size, 0, none⟩ (.int .i64 b0)).setCell ⟨w.heap.size, 1, none⟩ (.int .i64 b1)).setCell ⟨w.heap.size, 2, none⟩ (.bool b2)).setCell ⟨w.heap.size, 3, none⟩ (.int .i64 b3)).setCell ⟨w.heap.size, 4, none⟩ (.int .i64 b4)).setCell ⟨w.heap.size, 5, none⟩ (.int .i64 b5)).setCell ⟨w.heap.size, 6, none⟩ (.int .i64 b6)).setCell ⟨w.heap.size, 7, none⟩ (.int .i32 b7)) = WF at *
  obtain ⟨e0, e1, e2, e3, e4, e5, e6, e7⟩ := cells8 P.p
  exact bodyPost_ret (v := .tuple #[.agg #[.int .i64 b0, .int .i64 b1, .bool b2, .int .i64 b3, .int .i64 b4, .int .i64 b5, .int .i64 b6, .int .i32 b7], .int .i64 0]) (by simp [results, Tryz.results12, go_sem, e0, e1, e2, e3, e4, e5, e6, e7]) rfl ⟨rfl, P.b⟩
/-- What Peek answers. -/
def PkV (s : ByteArray) : Value := if pke s = 0 then .tuple #[hdV (fsOf s), .int .i64 0] else .tuple #[noHd, .int .i64 (pke s)]
theorem peekH_any (s : ByteArray) (w : World) (hs : s.size ≤ 9223372036854775807) : Calls Tryz.prog 12 #[.string s] w fun e w' => e = .returned (PkV s) ∧ Below w.heap.size w w' := by
  have cp := fun w => peek_any s w hs
  unfold PeekP at cp
  unfold PkV
  by_cases h0 : pke s = 0
  · rw [if_pos h0] at cp ⊢
    have hz : ¬ s.size < 51 := by intro h; rw [pke_short h] at h0; cases h0
    have ch := fun w => b6head_any (fsOf s) w (fsOf_ok (by omega))
    unfold hdV fsV fsA at *
    exact peekH_yes s _ _ _ _ _ _ _ _ _ _ _ _ _ _ _ _ _ _ w (hid cp) (hid ch)
  · rw [if_neg h0] at cp ⊢
    exact peekH_no s _ w h0 (hid cp)
set_option maxHeartbeats 1000000 in
set_option maxRecDepth 20000 in
theorem size_any6 (b : Bt) (w : World) (V : Rcs w b.a b.l) (hT : ∀ x ∈ b.l, I64 x.r.t) (hM : ∀ x ∈ b.l, Mod x.r) (hL : b.l.length ≤ 9223372036854775807) :
    Calls Tryz.prog 10 #[btV b] w fun e w' => (∃ (E n : Nat) (T : ByteArray), e = .returned (.tuple #[.int .i64 n, .int .i64 E]) ∧ StoP b E T ∧ n = if E = 0 then 51 + T.size else 0) ∧ Below w.heap.size w w' := by
  have CS := hid (fun w V => store_any b w V hT hM hL)
  clear hT hM hL
  unfold btV btA at *
  go_enter Tryz.func10, Tryz.ntmps10
  go_wp2_with fail
  have N0 := Bx1.new w #[.int .i64 b.base, .bool b.pk, .int .i64 b.prod, .int .i32 b.seq, .slice b.a b.l.length b.cap] 24
  refine (CS.out _ (V.below N0.b)).mono ?_
  rintro e w1 ⟨⟨E, T, rfl, HS⟩, b1⟩
  have N1 := N0.call b1
  obtain ⟨z1, z2⟩ := sto_zero HS
  clear N0 b1 CS
  by_cases hE : E = 0
  · subst hE
    obtain ⟨hr, hn⟩ := z2 rfl
    have hn' : (T.size : Int) ≤ 16777165 := by omega
    have HP := hid HS
    clear z1 z2 HS hr
    go_wp2_with fail
    go_ret2
    exact ⟨⟨0, 51 + T.size, T, by simp, HP.out, by rw [if_pos rfl]⟩, N1.b⟩
  · have hE' : ¬ (E : Int) = 0 := by omega
    have HP := hid HS
    clear z1 z2 HS
    go_wp2_with fail
    go_ret2
    exact ⟨⟨E, 0, T, rfl, HP.out, by rw [if_neg hE]⟩, N1.b⟩
end Go.Proofs.YtihokphamgkkcaaGreat
namespace Go.Proofs.YtihokphamgkkcaaGreat
open Go.RowKit
set_option maxHeartbeats 2000000 in
set_option maxRecDepth 20000 in
theorem sameBt_any (a b : Bt) (w : World) (V1 : Rcs w a.a a.l) (V2 : Rcs w b.a b.l) (hL : a.l.length ≤ 9223372036854775807) (hz : ∀ x ∈ a.l, x.r.hs.length ≤ 9223372036854775807) :
    Calls Tryz.prog 20 #[btV a, btV b] w fun e w' => e = .returned (.bool (samB a b)) ∧ Below w.heap.size w w' := by
  obtain ⟨D, hD⟩ : ∃ D, samB a b = D := ⟨_, rfl⟩
  rw [hD]
  obtain ⟨base1, pk1, prod1, seq1, l1, a1, c1⟩ := a
  obtain ⟨base2, pk2, prod2, seq2, l2, a2, c2⟩ := b
  have ce := fun w V1 V2 => eqf_any l1 l2 a1 a2 c1 c2 w V1 V2 hL hz
  dsimp only at *
  unfold btV btA
  dsimp only
  have hb : Below w.heap.size w ((w.alloc (.cells #[.int .i64 base1, .bool pk1, .int .i64 prod1, .int .i32 seq1, .slice a1 l1.length c1] 24)).alloc (.cells #[.int .i64 base2, .bool pk2, .int .i64 prod2, .int .i32 seq2, .slice a2 l2.length c2] 24)) := ((Below.refl _ _).alloc (Nat.le_refl _) _).alloc (by simp) _
  by_cases e0 : base1 = base2
  case neg =>
    have hF : D = false := by rw [← hD]; exact samB_no (fun h => e0 h.1)
    subst hF
    have f1 : (base1 == base2) = false := beq_eq_false_iff_ne.2 e0
    clear ce V1 V2 hD
    go_enter Tryz.func20, Tryz.ntmps20
    go_wp2_with fail
    go_ret
    exact ⟨rfl, hb⟩
  subst e0
  by_cases e1 : pk1 = pk2
  case neg =>
    have hF : D = false := by rw [← hD]; exact samB_no (fun h => e1 h.2.1)
    subst hF
    have f1 : (pk1 == pk2) = false := beq_eq_false_iff_ne.2 e1
    clear ce V1 V2 hD
    clear e1
    cases pk1 <;> cases pk2
    all_goals first | (cases f1; done) | skip
    all_goals
      clear f1
      go_enter Tryz.func20, Tryz.ntmps20
      go_wp2_with fail
      go_ret
      exact ⟨rfl, hb⟩
  subst e1
  by_cases e2 : prod1 = prod2
  case neg =>
    have hF : D = false := by rw [← hD]; exact samB_no (fun h => e2 h.2.2.1)
    subst hF
    have f1 : (prod1 == prod2) = false := beq_eq_false_iff_ne.2 e2
    clear ce V1 V2 hD
    go_enter Tryz.func20, Tryz.ntmps20
    go_wp2_with fail
    go_ret
    exact ⟨rfl, hb⟩
  subst e2
  by_cases e3 : seq1 = seq2
  case neg =>
    have hF : D = false := by rw [← hD]; exact samB_no (fun h => e3 h.2.2.2.1)
    subst hF
    have f1 : (seq1 == seq2) = false := beq_eq_false_iff_ne.2 e3
    clear ce V1 V2 hD
    go_enter Tryz.func20, Tryz.ntmps20
    go_wp2_with fail
    go_ret
    exact ⟨rfl, hb⟩
  subst e3
  have hS : samL l1 l2 = D := by
    rw [← hD]
    by_cases h : SamL l1 l2
    · rw [samL_yes h]; exact (samB_yes (a := ⟨base1, pk1, prod1, seq1, l1, a1, c1⟩) (b := ⟨base1, pk1, prod1, seq1, l2, a2, c2⟩) ⟨rfl, rfl, rfl, rfl, h⟩).symm
    · rw [samL_no h]; exact (samB_no (a := ⟨base1, pk1, prod1, seq1, l1, a1, c1⟩) (b := ⟨base1, pk1, prod1, seq1, l2, a2, c2⟩) (fun k => h k.2.2.2.2)).symm
  rw [hS] at ce
  clear hS hD
  have CE := hid ce
  clear ce
  go_enter Tryz.func20, Tryz.ntmps20
  go_wp2_with fail
  refine (CE.out _ (V1.below hb) (V2.below hb)).mono ?_
  rintro e w3 ⟨rfl, b3⟩
  have HB3 := hid (hb.trans (b3.mono hb.size))
  clear b3 hb CE
  cases D
  all_goals
    go_wp2_with fail
    go_ret
    exact ⟨rfl, HB3.out⟩
set_option maxHeartbeats 2000000 in
set_option maxRecDepth 20000 in
theorem xsameBt_any (a b : Bt) (w : World) (V1 : Rcs w a.a a.l) (V2 : Rcs w b.a b.l) (hL : a.l.length ≤ 9223372036854775807) (hz : ∀ x ∈ a.l, x.r.hs.length ≤ 9223372036854775807) :
    Calls Tryz.prog 18 #[btV a, btV b] w fun e w' => e = .returned (.bool (samB a b)) ∧ Below w.heap.size w w' := by
  obtain ⟨D, hD⟩ : ∃ D, samB a b = D := ⟨_, rfl⟩
  rw [hD]
  obtain ⟨base1, pk1, prod1, seq1, l1, a1, c1⟩ := a
  obtain ⟨base2, pk2, prod2, seq2, l2, a2, c2⟩ := b
  have ce := fun w V1 V2 => xsr_any l1 l2 a1 a2 c1 c2 w V1 V2 hL hz
  dsimp only at *
  unfold btV btA
  dsimp only
  have hb : Below w.heap.size w ((w.alloc (.cells #[.int .i64 base1, .bool pk1, .int .i64 prod1, .int .i32 seq1, .slice a1 l1.length c1] 24)).alloc (.cells #[.int .i64 base2, .bool pk2, .int .i64 prod2, .int .i32 seq2, .slice a2 l2.length c2] 24)) := ((Below.refl _ _).alloc (Nat.le_refl _) _).alloc (by simp) _
  by_cases e0 : base1 = base2
  case neg =>
    have hF : D = false := by rw [← hD]; exact samB_no (fun h => e0 h.1)
    subst hF
    have f1 : (base1 == base2) = false := beq_eq_false_iff_ne.2 e0
    clear ce V1 V2 hD
    go_enter Tryz.func18, Tryz.ntmps18
    go_wp2_with fail
    go_ret
    exact ⟨rfl, hb⟩
  subst e0
  by_cases e1 : pk1 = pk2
  case neg =>
    have hF : D = false := by rw [← hD]; exact samB_no (fun h => e1 h.2.1)
    subst hF
    have f1 : (pk1 == pk2) = false := beq_eq_false_iff_ne.2 e1
    clear ce V1 V2 hD
    clear e1
    cases pk1 <;> cases pk2
    all_goals first | (cases f1; done) | skip
    all_goals
      clear f1
      go_enter Tryz.func18, Tryz.ntmps18
      go_wp2_with fail
      go_ret
      exact ⟨rfl, hb⟩
  subst e1
  by_cases e2 : prod1 = prod2
  case neg =>
    have hF : D = false := by rw [← hD]; exact samB_no (fun h => e2 h.2.2.1)
    subst hF
    have f1 : (prod1 == prod2) = false := beq_eq_false_iff_ne.2 e2
    clear ce V1 V2 hD
    go_enter Tryz.func18, Tryz.ntmps18
    go_wp2_with fail
    go_ret
    exact ⟨rfl, hb⟩
  subst e2
  by_cases e3 : seq1 = seq2
  case neg =>
    have hF : D = false := by rw [← hD]; exact samB_no (fun h => e3 h.2.2.2.1)
    subst hF
    have f1 : (seq1 == seq2) = false := beq_eq_false_iff_ne.2 e3
    clear ce V1 V2 hD
    go_enter Tryz.func18, Tryz.ntmps18
    go_wp2_with fail
    go_ret
    exact ⟨rfl, hb⟩
  subst e3
  have hS : samL l1 l2 = D := by
    rw [← hD]
    by_cases h : SamL l1 l2
    · rw [samL_yes h]; exact (samB_yes (a := ⟨base1, pk1, prod1, seq1, l1, a1, c1⟩) (b := ⟨base1, pk1, prod1, seq1, l2, a2, c2⟩) ⟨rfl, rfl, rfl, rfl, h⟩).symm
    · rw [samL_no h]; exact (samB_no (a := ⟨base1, pk1, prod1, seq1, l1, a1, c1⟩) (b := ⟨base1, pk1, prod1, seq1, l2, a2, c2⟩) (fun k => h k.2.2.2.2)).symm
  rw [hS] at ce
  clear hS hD
  have CE := hid ce
  clear ce
  go_enter Tryz.func18, Tryz.ntmps18
  go_wp2_with fail
  refine (CE.out _ (V1.below hb) (V2.below hb)).mono ?_
  rintro e w3 ⟨rfl, b3⟩
  have HB3 := hid (hb.trans (b3.mono hb.size))
  clear b3 hb CE
  cases D
  all_goals
    go_wp2_with fail
    go_ret
    exact ⟨rfl, HB3.out⟩
end Go.Proofs.YtihokphamgkkcaaGreat
namespace Go.Proofs.YtihokphamgkkcaaGreat
open Go.RowKit
theorem peeks_same (s : ByteArray) (hs : s.size ≤ 1048576) : ∃ (h0 h1 : Int) (h2 : Bool) (h3 h4 h5 h6 h7 : Int) (E : Nat), (∀ w, Calls Tryz.prog 12 #[.string s] w fun e w' => e = .returned (.tuple #[.agg #[.int .i64 h0, .int .i64 h1, .bool h2, .int .i64 h3, .int .i64 h4, .int .i64 h5, .int .i64 h6, .int .i32 h7], .int .i64 E]) ∧ Below w.heap.size w w') ∧ (∀ w, Calls Tryz.prog 13 #[.string s] w fun e w' => e = .returned (.tuple #[.agg #[.int .i64 h0, .int .i64 h1, .bool h2, .int .i64 h3, .int .i64 h4, .int .i64 h5, .int .i64 h6, .int .i32 h7], .int .i64 E]) ∧ Below w.heap.size w w') := by
  have c1 := fun w => peekH_any s w (by omega)
  have c2 := fun w => xpeek_any s w (by omega)
  unfold PkV at c1
  by_cases h : pke s = 0
  · rw [if_pos h] at c1 c2
    rw [h] at c2
    unfold hdV at c1 c2
    exact ⟨_, _, _, _, _, _, _, _, 0, c1, c2⟩
  · rw [if_neg h] at c1 c2
    unfold noHd at c1 c2
    exact ⟨_, _, _, _, _, _, _, _, _, c1, c2⟩
theorem checks_same (s : ByteArray) (fr pl : Int) (hs : s.size ≤ 1048576) : ∃ (h0 h1 : Int) (h2 : Bool) (h3 h4 h5 h6 h7 : Int) (E : Nat), (∀ w, Calls Tryz.prog 14 #[.string s, .int .i64 fr, .int .i64 pl] w fun e w' => e = .returned (.tuple #[.agg #[.int .i64 h0, .int .i64 h1, .bool h2, .int .i64 h3, .int .i64 h4, .int .i64 h5, .int .i64 h6, .int .i32 h7], .int .i64 E]) ∧ Below w.heap.size w w') ∧ (∀ w, Calls Tryz.prog 15 #[.string s, .int .i64 fr, .int .i64 pl] w fun e w' => e = .returned (.tuple #[.agg #[.int .i64 h0, .int .i64 h1, .bool h2, .int .i64 h3, .int .i64 h4, .int .i64 h5, .int .i64 h6, .int .i32 h7], .int .i64 E]) ∧ Below w.heap.size w w') := by
  have c1 := fun w => check6_any s fr pl w (by omega)
  have c2 := fun w => xcheck_any s fr pl w hs
  unfold ChkV at c1
  cases h : opn s fr pl with
  | error x =>
    rw [h] at c1 c2
    dsimp only at c1 c2
    unfold noHd at c1 c2
    exact ⟨_, _, _, _, _, _, _, _, _, c1, c2⟩
  | ok y =>
    obtain ⟨f, b⟩ := y
    rw [h] at c1 c2
    dsimp only at c1 c2
    unfold hdV at c1 c2
    exact ⟨_, _, _, _, _, _, _, _, 0, c1, c2⟩
theorem decs_same (s : ByteArray) (fr pl : Int) (hs : s.size ≤ 1048576) : ∃ (base : Int) (pk : Bool) (prod seq N E : Int) (L : List Rec), (∀ w, Calls Tryz.prog 16 #[.string s, .int .i64 fr, .int .i64 pl] w fun e w' => ∃ (l : List RI) (a : Option Addr) (cap : Nat), e = .returned (.tuple #[.agg #[.int .i64 base, .bool pk, .int .i64 prod, .int .i32 seq, .slice a l.length cap], .int .i64 N, .int .i64 E]) ∧ Rcs w' a l ∧ l.map RI.r = L ∧ Below w.heap.size w w') ∧ (∀ w, Calls Tryz.prog 17 #[.string s, .int .i64 fr, .int .i64 pl] w fun e w' => ∃ (l : List RI) (a : Option Addr) (cap : Nat), e = .returned (.tuple #[.agg #[.int .i64 base, .bool pk, .int .i64 prod, .int .i32 seq, .slice a l.length cap], .int .i64 N, .int .i64 E]) ∧ Rcs w' a l ∧ l.map RI.r = L ∧ Below w.heap.size w w') ∧ (∀ r ∈ L, ∃ first, Good first r) ∧ L.length ≤ 65536 := by
  have c1 := fun w => decode_any s fr pl w (by omega)
  have c2 := fun w => xdecode_any s fr pl w hs
  unfold DecPost noBt at c1
  unfold XdPost noBt at c2
  cases h : opn s fr pl with
  | error x =>
    have hd : dcd s fr pl = .error x := by unfold dcd; rw [h]
    rw [hd] at c1
    rw [h] at c2
    dsimp only at c1 c2
    refine ⟨0, false, 0, 0, 0, x, [], fun w => (c1 w).mono fun e w' k => ⟨[], none, 0, k.2.1, ⟨fun y hy => absurd hy (List.not_mem_nil), Or.inl rfl⟩, rfl, k.1⟩, fun w => (c2 w).mono fun e w' k => ⟨[], none, 0, k.2, ⟨fun y hy => absurd hy (List.not_mem_nil), Or.inl rfl⟩, rfl, k.1⟩, fun r hr => absurd hr (List.not_mem_nil), Nat.zero_le _⟩
  | ok y =>
    obtain ⟨f, b⟩ := y
    obtain ⟨L, hd, hc, hg, hl, hn⟩ := taken_good h
    rw [hd] at c1
    rw [h] at c2
    dsimp only at c1 c2
    refine ⟨f.base, decide (f.st = 1), f.prod, f.seq, ((12 + f.len : Nat) : Int), 0, L, fun w => (c1 w).mono fun e w' k => ?_, fun w => (c2 w).mono fun e w' k => ?_, hg, by omega⟩
    · obtain ⟨k1, v, l, rfl, k2, k3⟩ := k
      obtain ⟨a, cap, rfl, k4⟩ := k2.slice
      exact ⟨l, a, cap, rfl, k4, k3, k1⟩
    · obtain ⟨k1, v, kk, l, rfl, k2, k3⟩ := k
      obtain ⟨a, cap, rfl, k4⟩ := k3.slice
      rw [hc] at k2
      injection k2 with k2
      injection k2 with k2 _
      exact ⟨l, a, cap, rfl, k4, k2.symm, k1⟩
theorem samL_map {l m : List RI} (h : l.map RI.r = m.map RI.r) : SamL l m := by
  have hl : l.length = m.length := by have := congrArg List.length h; simpa using this
  refine ⟨hl, fun j hj => ?_⟩
  have e := congrArg (fun l => l[j]?) h
  simp only [List.getElem?_map] at e
  rw [List.getElem?_eq_getElem hj, List.getElem?_eq_getElem (by omega)] at e
  rw [List.getD_eq_getElem?_getD, List.getD_eq_getElem?_getD, List.getElem?_eq_getElem hj, List.getElem?_eq_getElem (by omega)]
  simp only [Option.map_some] at e
  injection e with e
  simp only [Option.getD_some]
  rw [e]
  exact SamR.refl _
end Go.Proofs.YtihokphamgkkcaaGreat
namespace Go.Proofs.YtihokphamgkkcaaGreat
open Go.RowKit
set_option maxRecDepth 20000 in
theorem neq_head6 (b0 b1 : Int) (b2 : Bool) (b3 b4 b5 b6 b7 : Int) (w : World) : (binOp .neq 35 (.agg #[.int .i64 b0, .int .i64 b1, .bool b2, .int .i64 b3, .int .i64 b4, .int .i64 b5, .int .i64 b6, .int .i32 b7]) (.agg #[.int .i64 b0, .int .i64 b1, .bool b2, .int .i64 b3, .int .i64 b4, .int .i64 b5, .int .i64 b6, .int .i32 b7])).run Tryz.prog w = .ok (.bool false) w := by
  rw [run_neq_struct, run_equalIn_agg w 9999 _ _ _ Tryz.headStruct Tryz.headHeld]
  have hf : (Tryz.prog.fieldsOf 35) = (match Tryz.prog.underlying 35 with | some (.struct fs) => fs | _ => #[]) := rfl
  rw [hf, Tryz.underlying35]
  simp [go_sem, Op.eqFields, Tryz.underlying4, Tryz.underlying3, Tryz.underlying2, Tryz.underlying21]
theorem cells2c {w : World} {G : Nat} {T : TypeId} {v0 v1 : Value} (h : w.heap[G]? = some (.cells #[v0, v1] T (0, 0))) : w.cell? ⟨G, 0, none⟩ = some v0 ∧ w.cell? ⟨G, 1, none⟩ = some v1 := ⟨(cell_of h).trans rfl, (cell_of h).trans rfl⟩
/-- The limits' box, and both heads'. -/
structure B3 (w : World) (L2 : Array Value) (p q : Nat) (u v : Array Value) (y : World) : Prop where
  n : Bx1 w L2 33 y
  fp : y.heap[p]? = some (.cells u 35 (0, 0))
  fq : y.heap[q]? = some (.cells v 35 (0, 0))
  ne : p ≠ q
  lp : w.heap.size < p
  lq : w.heap.size < q
theorem B3.call {w : World} {L2 : Array Value} {p q : Nat} {u v : Array Value} {y y' : World} (h : B3 w L2 p q u v y) (k : Below y.heap.size y y') : B3 w L2 p q u v y' := ⟨h.n.call k, keep h.fp k, keep h.fq k, h.ne, h.lp, h.lq⟩
theorem bx_far8 {w : World} {L2 : Array Value} {T : TypeId} {y : World} {R : Nat} (h : Bx1 w L2 T y) (hR : w.heap.size < R) (v0 : Value) (v1 : Value) (v2 : Value) (v3 : Value) (v4 : Value) (v5 : Value) (v6 : Value) (v7 : Value) :
    Bx1 w L2 T ((((((((y.setCell ⟨R, 0, none⟩ v0).setCell ⟨R, 1, none⟩ v1).setCell ⟨R, 2, none⟩ v2).setCell ⟨R, 3, none⟩ v3).setCell ⟨R, 4, none⟩ v4).setCell ⟨R, 5, none⟩ v5).setCell ⟨R, 6, none⟩ v6).setCell ⟨R, 7, none⟩ v7) :=
  ⟨(set8_far (by omega) _ _ _ _ _ _ _ _).trans h.p, (((((((h.b.setCell (p := ⟨R, 0, none⟩) (Nat.le_of_lt hR) _).setCell (p := ⟨R, 1, none⟩) (Nat.le_of_lt hR) _).setCell (p := ⟨R, 2, none⟩) (Nat.le_of_lt hR) _).setCell (p := ⟨R, 3, none⟩) (Nat.le_of_lt hR) _).setCell (p := ⟨R, 4, none⟩) (Nat.le_of_lt hR) _).setCell (p := ⟨R, 5, none⟩) (Nat.le_of_lt hR) _).setCell (p := ⟨R, 6, none⟩) (Nat.le_of_lt hR) _).setCell (p := ⟨R, 7, none⟩) (Nat.le_of_lt hR) _⟩
set_option maxHeartbeats 4000000 in
set_option maxRecDepth 20000 in
theorem checks_walk (s : ByteArray) (fr pl : Int) (w : World) (hs : s.size ≤ 1048576) :
    Calls Tryz.prog 4 #[.string s, .agg #[.int .i64 fr, .int .i64 pl]] w fun e w' => e = .returned (.bool true) ∧ Below w.heap.size w w' := by
  obtain ⟨h0, h1, h2, h3, h4, h5, h6, h7, E1, cp, cq⟩ := peeks_same s hs
  obtain ⟨g0, g1, g2, g3, g4, g5, g6, g7, E2, dp, dq⟩ := checks_same s fr pl hs
  obtain ⟨base, pk, prod, seq, N, E, L, ep, eq, hG, hLL⟩ := decs_same s fr pl hs
  have CP := hid cp
  have CQ := hid cq
  have DP := hid dp
  have DQ := hid dq
  have EP := hid ep
  have EQ := hid eq
  have HG := hid hG
  have HLL := hid hLL
  have CA := hid (fun w => awake6_any w)
  clear cp cq dp dq ep eq hG hLL hs
  have N0 := Bx1.new w #[.int .i64 fr, .int .i64 pl] 33
  go_enter Tryz.func4, Tryz.ntmps4
  go_wp2_with fail
  refine (CA.out _).mono ?_
  rintro e w1 ⟨rfl, b1⟩
  have N1 := N0.call b1
  clear b1 N0 CA
  go_wp2_with fail
  refine (CP.out _).mono ?_
  rintro e w2 ⟨rfl, b2⟩
  have N2 := (N1.call b2).alloc (.cells #[.int .i64 h0, .int .i64 h1, .bool h2, .int .i64 h3, .int .i64 h4, .int .i64 h5, .int .i64 h6, .int .i32 h7] 35)
  have P2 : (w2.alloc (.cells #[.int .i64 h0, .int .i64 h1, .bool h2, .int .i64 h3, .int .i64 h4, .int .i64 h5, .int .i64 h6, .int .i32 h7] 35)).heap[w2.heap.size]? = some (.cells #[.int .i64 h0, .int .i64 h1, .bool h2, .int .i64 h3, .int .i64 h4, .int .i64 h5, .int .i64 h6, .int .i32 h7] 35 (0, 0)) := heap_new _ _
  have hp : w.heap.size < w2.heap.size := lt_of_heap (N1.call b2).p
  clear b2 N1 CP
  go_wp2_with fail
  generalize w2.alloc (.cells #[.int .i64 h0, .int .i64 h1, .bool h2, .int .i64 h3, .int .i64 h4, .int .i64 h5, .int .i64 h6, .int .i32 h7] 35) = W2 at *
  generalize w2.heap.size = p at *
  refine (CQ.out _).mono ?_
  rintro e w3 ⟨rfl, b3⟩
  have N3 : B3 w #[.int .i64 fr, .int .i64 pl] p w3.heap.size #[.int .i64 h0, .int .i64 h1, .bool h2, .int .i64 h3, .int .i64 h4, .int .i64 h5, .int .i64 h6, .int .i32 h7] #[.int .i64 h0, .int .i64 h1, .bool h2, .int .i64 h3, .int .i64 h4, .int .i64 h5, .int .i64 h6, .int .i32 h7] (w3.alloc (.cells #[.int .i64 h0, .int .i64 h1, .bool h2, .int .i64 h3, .int .i64 h4, .int .i64 h5, .int .i64 h6, .int .i32 h7] 35)) := ⟨(N2.call b3).alloc _, heap_alloc_at (keep P2 b3), heap_new _ _, by have := lt_of_heap (keep P2 b3); omega, hp, lt_of_heap (N2.call b3).p⟩
  clear b3 N2 P2 CQ hp
  have EH := fun w => neq_head6 h0 h1 h2 h3 h4 h5 h6 h7 w
  obtain ⟨k0, k1⟩ := cells2c N3.n.p
  obtain ⟨r0, r1, r2, r3, r4, r5, r6, r7⟩ := cells8 N3.fp
  obtain ⟨q0, q1, q2, q3, q4, q5, q6, q7⟩ := cells8 N3.fq
  go_wp2_with fail
  clear r0 r1 r2 r3 r4 r5 r6 r7 q0 q1 q2 q3 q4 q5 q6 q7 k0 k1 EH
  generalize w3.alloc (.cells #[.int .i64 h0, .int .i64 h1, .bool h2, .int .i64 h3, .int .i64 h4, .int .i64 h5, .int .i64 h6, .int .i32 h7] 35) = W3 at *
  generalize w3.heap.size = q at *
  refine (DP.out _).mono ?_
  rintro e w4 ⟨rfl, b4⟩
  have N4 := N3.call b4
  clear b4 N3 DP
  obtain ⟨z0, z1, z2, z3, z4, z5, z6, z7⟩ := froz8 N4.fp
  obtain ⟨r0, r1, r2, r3, r4, r5, r6, r7⟩ := cells8 N4.fp
  have N5 : B3 w #[.int .i64 fr, .int .i64 pl] p q #[.int .i64 g0, .int .i64 g1, .bool g2, .int .i64 g3, .int .i64 g4, .int .i64 g5, .int .i64 g6, .int .i32 g7] #[.int .i64 h0, .int .i64 h1, .bool h2, .int .i64 h3, .int .i64 h4, .int .i64 h5, .int .i64 h6, .int .i32 h7] ((((((((w4.setCell ⟨p, 0, none⟩ (.int .i64 g0)).setCell ⟨p, 1, none⟩ (.int .i64 g1)).setCell ⟨p, 2, none⟩ (.bool g2)).setCell ⟨p, 3, none⟩ (.int .i64 g3)).setCell ⟨p, 4, none⟩ (.int .i64 g4)).setCell ⟨p, 5, none⟩ (.int .i64 g5)).setCell ⟨p, 6, none⟩ (.int .i64 g6)).setCell ⟨p, 7, none⟩ (.int .i32 g7)) := ⟨bx_far8 N4.n N4.lp _ _ _ _ _ _ _ _, set8_at N4.fp _ _ _ _ _ _ _ _, (set8_far N4.ne.symm _ _ _ _ _ _ _ _).trans N4.fq, N4.ne, N4.lp, N4.lq⟩
  obtain ⟨k0, k1⟩ := cells2c N5.n.p
  go_wp2_with fail
  clear r0 r1 r2 r3 r4 r5 r6 r7 z0 z1 z2 z3 z4 z5 z6 z7 k0 k1 N4
  generalize ((((((((w4.setCell ⟨p, 0, none⟩ (.int .i64 g0)).setCell ⟨p, 1, none⟩ (.int .i64 g1)).setCell ⟨p, 2, none⟩ (.bool g2)).setCell ⟨p, 3, none⟩ (.int .i64 g3)).setCell ⟨p, 4, none⟩ (.int .i64 g4)).setCell ⟨p, 5, none⟩ (.int .i64 g5)).setCell ⟨p, 6, none⟩ (.int .i64 g6)).setCell ⟨p, 7, none⟩ (.int .i32 g7)) = W5 at *
  refine (DQ.out _).mono ?_
  rintro e w6 ⟨rfl, b6⟩
  have N6 := N5.call b6
  clear b6 N5 DQ
  obtain ⟨z0, z1, z2, z3, z4, z5, z6, z7⟩ := froz8 N6.fq
  obtain ⟨r0, r1, r2, r3, r4, r5, r6, r7⟩ := cells8 N6.fq
  have N7 : B3 w #[.int .i64 fr, .int .i64 pl] p q #[.int .i64 g0, .int .i64 g1, .bool g2, .int .i64 g3, .int .i64 g4, .int .i64 g5, .int .i64 g6, .int .i32 g7] #[.int .i64 g0, .int .i64 g1, .bool g2, .int .i64 g3, .int .i64 g4, .int .i64 g5, .int .i64 g6, .int .i32 g7] ((((((((w6.setCell ⟨q, 0, none⟩ (.int .i64 g0)).setCell ⟨q, 1, none⟩ (.int .i64 g1)).setCell ⟨q, 2, none⟩ (.bool g2)).setCell ⟨q, 3, none⟩ (.int .i64 g3)).setCell ⟨q, 4, none⟩ (.int .i64 g4)).setCell ⟨q, 5, none⟩ (.int .i64 g5)).setCell ⟨q, 6, none⟩ (.int .i64 g6)).setCell ⟨q, 7, none⟩ (.int .i32 g7)) := ⟨bx_far8 N6.n N6.lq _ _ _ _ _ _ _ _, (set8_far N6.ne _ _ _ _ _ _ _ _).trans N6.fp, set8_at N6.fq _ _ _ _ _ _ _ _, N6.ne, N6.lp, N6.lq⟩
  obtain ⟨W7, hW7⟩ : ∃ x, ((((((((w6.setCell ⟨q, 0, none⟩ (.int .i64 g0)).setCell ⟨q, 1, none⟩ (.int .i64 g1)).setCell ⟨q, 2, none⟩ (.bool g2)).setCell ⟨q, 3, none⟩ (.int .i64 g3)).setCell ⟨q, 4, none⟩ (.int .i64 g4)).setCell ⟨q, 5, none⟩ (.int .i64 g5)).setCell ⟨q, 6, none⟩ (.int .i64 g6)).setCell ⟨q, 7, none⟩ (.int .i32 g7)) = x := ⟨_, rfl⟩
  rw [hW7] at N7
  obtain ⟨k0, k1⟩ := cells2c N7.n.p
  obtain ⟨y0, y1, y2, y3, y4, y5, y6, y7⟩ := cells8 N7.fp
  obtain ⟨x0, x1, x2, x3, x4, x5, x6, x7⟩ := cells8 N7.fq
  have EH := fun w => neq_head6 g0 g1 g2 g3 g4 g5 g6 g7 w
  go_wp2_with fail
  clear r0 r1 r2 r3 r4 r5 r6 r7 z0 z1 z2 z3 z4 z5 z6 z7 k0 k1 N6 x0 x1 x2 x3 x4 x5 x6 x7 y0 y1 y2 y3 y4 y5 y6 y7 EH hW7
  refine (EP.out _).mono ?_
  rintro e w8 ⟨l1, a1, cap1, rfl, V1, hl1, b8⟩
  have N8 := (N7.n.call b8).alloc (.cells #[.int .i64 base, .bool pk, .int .i64 prod, .int .i32 seq, .slice a1 l1.length cap1] 24)
  have P8 : (w8.alloc (.cells #[.int .i64 base, .bool pk, .int .i64 prod, .int .i32 seq, .slice a1 l1.length cap1] 24)).heap[w8.heap.size]? = some (.cells #[.int .i64 base, .bool pk, .int .i64 prod, .int .i32 seq, .slice a1 l1.length cap1] 24 (0, 0)) := heap_new _ _
  have HV1 := hid (V1.below ((Below.refl _ _).alloc (Nat.le_refl _) (.cells #[.int .i64 base, .bool pk, .int .i64 prod, .int .i32 seq, .slice a1 l1.length cap1] 24)))
  clear b8 N7 EP V1
  obtain ⟨k0, k1⟩ := cells2c N8.p
  go_wp2_with fail
  clear k0 k1
  generalize w8.alloc (.cells #[.int .i64 base, .bool pk, .int .i64 prod, .int .i32 seq, .slice a1 l1.length cap1] 24) = W8 at *
  generalize w8.heap.size = p8 at *
  refine (EQ.out _).mono ?_
  rintro e w9 ⟨l2, a2, cap2, rfl, V2, hl2, b9⟩
  have hmp : l1.map RI.r = l2.map RI.r := hl1.trans hl2.symm
  have hln : l2.length = l1.length := by have := congrArg List.length hmp; simpa using this.symm
  have hL1 : l1.length ≤ 65536 := by have h1 := congrArg List.length hl1; have h2 := HLL.out; rw [List.length_map] at h1; omega
  have hg1 : ∀ x ∈ l1, ∃ first, Good first x.r := fun x hx => HG.out _ (by rw [← hl1]; exact List.mem_map_of_mem hx)
  have hz1 : ∀ x ∈ l1, x.r.hs.length ≤ 9223372036854775807 := fun x hx => by obtain ⟨_, _, _, _, _, g, _⟩ := hg1 x hx; omega
  have HS := hid (fun w V1 V2 => xsameBt_any ⟨base, pk, prod, seq, l1, a1, cap1⟩ ⟨base, pk, prod, seq, l2, a2, cap2⟩ w V1 V2 (by show l1.length ≤ _; omega) hz1)
  rw [samB_yes (a := ⟨base, pk, prod, seq, l1, a1, cap1⟩) (b := ⟨base, pk, prod, seq, l2, a2, cap2⟩) ⟨rfl, rfl, rfl, rfl, samL_map hmp⟩] at HS
  unfold btV btA at HS
  dsimp only at HS
  have HK := hid (fun w V => xcleanB_yes base pk prod seq l1 a1 cap1 w V hL1 hg1)
  rw [hln] at HS
  have N9 := (N8.call b9).alloc (.cells #[.int .i64 base, .bool pk, .int .i64 prod, .int .i32 seq, .slice a2 l2.length cap2] 24)
  have P9 := heap_alloc_at (o' := .cells #[.int .i64 base, .bool pk, .int .i64 prod, .int .i32 seq, .slice a2 l2.length cap2] 24) (keep P8 b9)
  have Q9 : (w9.alloc (.cells #[.int .i64 base, .bool pk, .int .i64 prod, .int .i32 seq, .slice a2 l2.length cap2] 24)).heap[w9.heap.size]? = some (.cells #[.int .i64 base, .bool pk, .int .i64 prod, .int .i32 seq, .slice a2 l2.length cap2] 24 (0, 0)) := heap_new _ _
  have HW1 := hid ((HV1.out.below b9).below ((Below.refl _ _).alloc (Nat.le_refl _) (.cells #[.int .i64 base, .bool pk, .int .i64 prod, .int .i32 seq, .slice a2 l2.length cap2] 24)))
  have HW2 := hid (V2.below ((Below.refl _ _).alloc (Nat.le_refl _) (.cells #[.int .i64 base, .bool pk, .int .i64 prod, .int .i32 seq, .slice a2 l2.length cap2] 24)))
  rw [hln] at N9 P9 Q9 HW1 HW2 ⊢
  clear b9 N8 P8 V2 HV1 hl1 hl2 hmp hg1 hz1 HG HLL EQ hln
  obtain ⟨r0, r1, r2, r3, r4⟩ := cells5 P9
  obtain ⟨q0, q1, q2, q3, q4⟩ := cells5 Q9
  go_wp2_with fail
  clear r0 r1 r2 r3 r4 q0 q1 q2 q3 q4
  generalize w9.alloc (.cells #[.int .i64 base, .bool pk, .int .i64 prod, .int .i32 seq, .slice a2 l1.length cap2] 24) = W9 at *
  generalize w9.heap.size = q9 at *
  refine (HS.out _ HW1.out HW2.out).mono ?_
  rintro e w10 ⟨rfl, b10⟩
  have N10 := N9.call b10
  have P10 := keep P9 b10
  have Q10 := keep Q9 b10
  have HX1 := hid (HW1.out.below b10)
  clear b10 N9 P9 Q9 HW1 HW2 HS
  obtain ⟨r0, r1, r2, r3, r4⟩ := cells5 P10
  go_wp2_with fail
  clear r0 r1 r2 r3 r4
  refine (HK.out _ HX1.out).mono ?_
  rintro e w11 ⟨rfl, b11⟩
  have N11 := N10.call b11
  have P11 := keep P10 b11
  have Q11 := keep Q10 b11
  clear b11 N10 P10 Q10 HX1 HK
  obtain ⟨r0, r1, r2, r3, r4⟩ := cells5 P11
  obtain ⟨q0, q1, q2, q3, q4⟩ := cells5 Q11
  go_wp2_with fail
  go_ret
  exact ⟨rfl, N11.b⟩
end Go.Proofs.YtihokphamgkkcaaGreat
