/- Texts of the proof, put together: Bse, Bsf, Bsw. -/
import Derived.Test.YtihokphamgkkcaaGreatMB6
import Derived.Test.YtihokphamgkkcaaGreatMSX
import Derived.Deep.LoopGhost
import Derived.Deep.RegionHeld3
import Derived.Test.YtihokphamgkkcaaGreatMB7
namespace Go.Proofs.YtihokphamgkkcaaGreat
open Go.RowKit
/-- Two rows of records say the same. -/
def SamL (l m : List RI) : Prop := l.length = m.length ∧ ∀ j, j < l.length → SamR (l.getD j dri).r (m.getD j dri).r
noncomputable def samL (l m : List RI) : Bool := @decide (SamL l m) (Classical.propDecidable _)
theorem samL_yes {l m : List RI} (h : SamL l m) : samL l m = true := @decide_eq_true _ (Classical.propDecidable _) h
theorem samL_no {l m : List RI} (h : ¬ SamL l m) : samL l m = false := @decide_eq_false _ (Classical.propDecidable _) h
/-- Two batches say the same. -/
def SamB (a b : Bt) : Prop := a.base = b.base ∧ a.pk = b.pk ∧ a.prod = b.prod ∧ a.seq = b.seq ∧ SamL a.l b.l
noncomputable def samB (a b : Bt) : Bool := @decide (SamB a b) (Classical.propDecidable _)
theorem samB_yes {a b : Bt} (h : SamB a b) : samB a b = true := @decide_eq_true _ (Classical.propDecidable _) h
theorem samB_no {a b : Bt} (h : ¬ SamB a b) : samB a b = false := @decide_eq_false _ (Classical.propDecidable _) h
theorem hq_symm {x y : Hdr} (h : hq x y) : hq y x := ⟨h.1.symm, h.2.1.symm, h.2.2.symm⟩
theorem SamR.symm {r s : Rec} (h : SamR r s) : SamR s r := ⟨h.1.symm, ⟨h.2.1.1.symm, h.2.1.2.symm⟩, ⟨h.2.2.1.1.symm, h.2.2.1.2.symm⟩, h.2.2.2.1.symm, fun j hj => hq_symm (h.2.2.2.2 j (by rw [h.2.2.2.1]; exact hj))⟩
theorem SamR.refl (r : Rec) : SamR r r := ⟨rfl, ⟨rfl, rfl⟩, ⟨rfl, rfl⟩, rfl, fun _ _ => ⟨rfl, rfl, rfl⟩⟩
theorem SamL.symm {l m : List RI} (h : SamL l m) : SamL m l := ⟨h.1.symm, fun j hj => (h.2 j (by rw [h.1]; exact hj)).symm⟩
theorem SamL.refl (l : List RI) : SamL l l := ⟨rfl, fun _ _ => SamR.refl _⟩
theorem SamB.symm {a b : Bt} (h : SamB a b) : SamB b a := ⟨h.1.symm, h.2.1.symm, h.2.2.1.symm, h.2.2.2.1.symm, h.2.2.2.2.symm⟩
theorem SamB.refl (a : Bt) : SamB a a := ⟨rfl, rfl, rfl, rfl, SamL.refl _⟩
theorem samB_comm (a b : Bt) : samB a b = samB b a := by
  by_cases h : SamB a b
  · rw [samB_yes h, samB_yes h.symm]
  · rw [samB_no h, samB_no (fun k => h k.symm)]
theorem samL_nil {m : List RI} (h : ([] : List RI).length = m.length) : samL [] m = true := samL_yes ⟨h, fun _ hj => absurd hj (Nat.not_lt_zero _)⟩
set_option maxHeartbeats 2000000 in
set_option maxRecDepth 20000 in
theorem eqf_any (l m : List RI) (a1 a2 : Option Addr) (cap1 cap2 : Nat) (w : World) (V1 : Rcs w a1 l) (V2 : Rcs w a2 m) (hL : l.length ≤ 9223372036854775807) (hz : ∀ x ∈ l, x.r.hs.length ≤ 9223372036854775807) :
    Calls Tryz.prog 42 #[.slice a1 l.length cap1, .slice a2 m.length cap2, .func (.func 43) #[] #[]] w fun e w' => e = .returned (.bool (samL l m)) ∧ Below w.heap.size w w' := by
  by_cases hlm : l.length = m.length
  case neg =>
    have hI : ¬ (l.length : Int) = m.length := by omega
    have hB : ((l.length : Int) != (m.length : Int)) = true := by rw [bne_iff_ne]; exact hI
    rw [samL_no (fun h => hlm h.1)]
    go_enter Tryz.func42, Tryz.ntmps42
    go_wp2_with fail
    go_ret
    exact ⟨rfl, Below.refl _ _⟩
  rw [← hlm]
  rcases id V1.2 with h | ⟨b1, o1, rfl, hb1, c1⟩
  · subst h
    rw [samL_nil hlm]
    go_enter Tryz.func42, Tryz.ntmps42
    go_wp2_with fail
    go_loopg [17] 0 (fun _ i wr => i = .int .i64 0 ∧ wr = w)
    case atStart => exact ⟨rfl, rfl⟩
    case round =>
      obtain ⟨rfl, rfl⟩ := hrel
      go_wp2_with fail
      go_ret
      exact ⟨rfl, Below.refl _ _⟩
  rcases id V2.2 with h | ⟨b2, o2, rfl, hb2, c2⟩
  · have hl0 : l = [] := List.eq_nil_of_length_eq_zero (by rw [hlm, h]; rfl)
    subst hl0
    rw [samL_nil hlm]
    go_enter Tryz.func42, Tryz.ntmps42
    go_wp2_with fail
    go_loopg [17] 0 (fun _ i wr => i = .int .i64 0 ∧ wr = w)
    case atStart => exact ⟨rfl, rfl⟩
    case round =>
      obtain ⟨rfl, rfl⟩ := hrel
      go_wp2_with fail
      go_ret
      exact ⟨rfl, Below.refl _ _⟩
  obtain ⟨D, hD⟩ : ∃ D, samL l m = D := ⟨_, rfl⟩
  have HD := hid hD
  have HLM := hid hlm
  rw [hD]
  clear hD hlm
  go_enter Tryz.func42, Tryz.ntmps42
  go_wp2_with fail
  go_loopg [17] l.length (fun k i wr => ∃ j : Nat, j + k = l.length ∧ i = .int .i64 j ∧ Hid (∀ p, p < j → SamR (l.getD p dri).r (m.getD p dri).r) ∧ Hid (Below w.heap.size w wr))
  case atStart => exact ⟨0, by omega, rfl, fun p hp => absurd hp (Nat.not_lt_zero _), Below.refl _ _⟩
  case round =>
    obtain ⟨j, hk, rfl, HP, HB⟩ := hrel
    by_cases hlt : j < l.length
    · obtain ⟨k, rfl⟩ : ∃ k, gk = k + 1 := ⟨gk - 1, by omega⟩
      obtain ⟨p0, p1, p2, p3, p4, p5⟩ := (c1 j hlt).below hb1 HB.out
      have HBA := fun o => HB.out.alloc HB.out.size o
      have SQ := fun o => (c2 j (by have := HLM.out; omega)).below hb2 (HBA o)
      have CE : Hid (∀ x, Below w.heap.size w x → Calls Tryz.prog 43 _ x _) := fun x hx => same_any (l.getD j dri).r (m.getD j dri).r (l.getD j dri).a (m.getD j dri).a (l.getD j dri).cap (m.getD j dri).cap x ((V1.1 _ (riD_mem hlt)).below hx) ((V2.1 _ (riD_mem (by have := HLM.out; omega))).below hx) (hz _ (riD_mem hlt))
      have i1 : (0 : Int) ≤ (j : Int) := by omega
      have i2 : (j : Int) < l.length := by omega
      have hj63 : j < 9223372036854775807 := by omega
      have HY : Hid (SamR (l.getD j dri).r (m.getD j dri).r → ∀ p, p < j + 1 → SamR (l.getD p dri).r (m.getD p dri).r) := fun hs p hp => by
        rcases Nat.lt_or_ge p j with h5 | h5
        · exact HP.out p h5
        · have : p = j := by omega
          rw [this]; exact hs
      have HX : Hid (¬ SamR (l.getD j dri).r (m.getD j dri).r → D = false) := fun hs => by rw [← HD.out]; exact samL_no (fun h => hs (h.2 j hlt))
      generalize l.getD j dri = x at *
      generalize m.getD j dri = y at *
      obtain ⟨xr, xa, xc⟩ := x
      obtain ⟨yr, ya, yc⟩ := y
      dsimp only at *
      obtain ⟨q0, q1, q2, q3, q4, q5⟩ := SQ (.cells #[.int .i64 xr.t, .bool xr.kh, .string xr.kd, .bool xr.vh, .string xr.vd, .slice xa xr.hs.length xc] 49)
      have HB2 := hid (((HBA (.cells #[.int .i64 xr.t, .bool xr.kh, .string xr.kd, .bool xr.vh, .string xr.vd, .slice xa xr.hs.length xc] 49)).alloc (HBA _).size (.cells #[.int .i64 yr.t, .bool yr.kh, .string yr.kd, .bool yr.vh, .string yr.vd, .slice ya yr.hs.length yc] 49)))
      clear SQ HBA
      dsimp only at q0 q1 q2 q3 q4 q5
      by_cases hsm : SamR xr yr
      · have e1 := sameB_yes hsm
        rw [e1] at CE
        have HYY := hid (HY.out hsm)
        clear HX HY hsm e1
        go_wp2_with fail
        refine (CE.out _ HB2.out).mono ?_
        rintro e w3 ⟨rfl, b3⟩
        have HB3 := hid (HB2.out.trans (b3.mono HB2.out.size))
        clear b3
        go_wp2_with fail
        go_roundg k
        case measure => omega
        case rel => exact ⟨j + 1, by omega, by go_num, HYY, HB3.out⟩
      · have e1 := sameB_no hsm
        rw [e1] at CE
        have e2 := HX.out hsm
        subst e2
        clear HX HY hsm e1
        go_wp2_with fail
        refine (CE.out _ HB2.out).mono ?_
        rintro e w3 ⟨rfl, b3⟩
        have HB3 := hid (HB2.out.trans (b3.mono HB2.out.size))
        clear b3
        go_wp2_with fail
        go_ret
        exact ⟨rfl, HB3.out⟩
    · have hj : j = l.length := by omega
      subst hj
      have hDt : D = true := by rw [← HD.out]; exact samL_yes ⟨HLM.out, HP.out⟩
      subst hDt
      go_wp2_with fail
      go_ret
      exact ⟨rfl, HB.out⟩
set_option maxHeartbeats 2000000 in
set_option maxRecDepth 20000 in
theorem xsr_any (l m : List RI) (a1 a2 : Option Addr) (cap1 cap2 : Nat) (w : World) (V1 : Rcs w a1 l) (V2 : Rcs w a2 m) (hL : l.length ≤ 9223372036854775807) (hz : ∀ x ∈ l, x.r.hs.length ≤ 9223372036854775807) :
    Calls Tryz.prog 40 #[.slice a1 l.length cap1, .slice a2 m.length cap2] w fun e w' => e = .returned (.bool (samL l m)) ∧ Below w.heap.size w w' := by
  by_cases hlm : l.length = m.length
  case neg =>
    have hI : ¬ (l.length : Int) = m.length := by omega
    have hB : ((l.length : Int) != (m.length : Int)) = true := by rw [bne_iff_ne]; exact hI
    rw [samL_no (fun h => hlm h.1)]
    go_enter Tryz.func40, Tryz.ntmps40
    go_wp2_with fail
    go_ret
    exact ⟨rfl, Below.refl _ _⟩
  rw [← hlm]
  rcases id V1.2 with h | ⟨b1, o1, rfl, hb1, c1⟩
  · subst h
    rw [samL_nil hlm]
    go_enter Tryz.func40, Tryz.ntmps40
    go_wp2_with fail
    go_loopg [5] 0 (fun _ i wr => i = .int .i64 0 ∧ wr = w)
    case atStart => exact ⟨rfl, rfl⟩
    case round =>
      obtain ⟨rfl, rfl⟩ := hrel
      go_wp2_with fail
      go_ret
      exact ⟨rfl, Below.refl _ _⟩
  rcases id V2.2 with h | ⟨b2, o2, rfl, hb2, c2⟩
  · have hl0 : l = [] := List.eq_nil_of_length_eq_zero (by rw [hlm, h]; rfl)
    subst hl0
    rw [samL_nil hlm]
    go_enter Tryz.func40, Tryz.ntmps40
    go_wp2_with fail
    go_loopg [5] 0 (fun _ i wr => i = .int .i64 0 ∧ wr = w)
    case atStart => exact ⟨rfl, rfl⟩
    case round =>
      obtain ⟨rfl, rfl⟩ := hrel
      go_wp2_with fail
      go_ret
      exact ⟨rfl, Below.refl _ _⟩
  obtain ⟨D, hD⟩ : ∃ D, samL l m = D := ⟨_, rfl⟩
  have HD := hid hD
  have HLM := hid hlm
  rw [hD]
  clear hD hlm
  go_enter Tryz.func40, Tryz.ntmps40
  go_wp2_with fail
  go_loopg [5] l.length (fun k i wr => ∃ j : Nat, j + k = l.length ∧ i = .int .i64 j ∧ Hid (∀ p, p < j → SamR (l.getD p dri).r (m.getD p dri).r) ∧ Hid (Below w.heap.size w wr))
  case atStart => exact ⟨0, by omega, rfl, fun p hp => absurd hp (Nat.not_lt_zero _), Below.refl _ _⟩
  case round =>
    obtain ⟨j, hk, rfl, HP, HB⟩ := hrel
    by_cases hlt : j < l.length
    · obtain ⟨k, rfl⟩ : ∃ k, gk = k + 1 := ⟨gk - 1, by omega⟩
      have SP := fun z (hz : Below w.heap.size w z) => (c1 j hlt).below hb1 hz
      have SQ := fun z (hz : Below w.heap.size w z) => (c2 j (by have := HLM.out; omega)).below hb2 hz
      have CE : Hid (∀ x, Below w.heap.size w x → Calls Tryz.prog 78 _ x fun e w' => e = .returned (.bool (sameB (l.getD j dri).r (m.getD j dri).r)) ∧ Below w.heap.size w w') := fun x hx => (xsame_any (l.getD j dri).r (m.getD j dri).r (l.getD j dri).a (m.getD j dri).a (l.getD j dri).cap (m.getD j dri).cap x ((V1.1 _ (riD_mem hlt)).below hx) ((V2.1 _ (riD_mem (by have := HLM.out; omega))).below hx) (hz _ (riD_mem hlt))).mono fun e w' h => ⟨h.1, hx.trans (h.2.mono hx.size)⟩
      have i1 : (0 : Int) ≤ (j : Int) := by omega
      have i2 : (j : Int) < l.length := by omega
      have hj63 : j < 9223372036854775807 := by omega
      have HY : Hid (SamR (l.getD j dri).r (m.getD j dri).r → ∀ p, p < j + 1 → SamR (l.getD p dri).r (m.getD p dri).r) := fun hs p hp => by
        rcases Nat.lt_or_ge p j with h5 | h5
        · exact HP.out p h5
        · have : p = j := by omega
          rw [this]; exact hs
      have HX : Hid (¬ SamR (l.getD j dri).r (m.getD j dri).r → D = false) := fun hs => by rw [← HD.out]; exact samL_no (fun h => hs (h.2 j hlt))
      generalize l.getD j dri = x at *
      generalize m.getD j dri = y at *
      obtain ⟨xr, xa, xc⟩ := x
      obtain ⟨yr, ya, yc⟩ := y
      dsimp only at *
      have HS : Hid (∀ z, Below w.heap.size w z → (fun z => ((z.cell? ⟨b1, o1 + j * 6, none⟩ = some (.int .i64 xr.t) ∧ z.cell? ⟨b1, o1 + j * 6 + 1, none⟩ = some (.bool xr.kh) ∧ z.cell? ⟨b1, o1 + j * 6 + 2, none⟩ = some (.string xr.kd) ∧ z.cell? ⟨b1, o1 + j * 6 + 3, none⟩ = some (.bool xr.vh) ∧ z.cell? ⟨b1, o1 + j * 6 + 4, none⟩ = some (.string xr.vd) ∧ z.cell? ⟨b1, o1 + j * 6 + 5, none⟩ = some (.slice xa xr.hs.length xc)) ∧ (z.cell? ⟨b2, o2 + j * 6, none⟩ = some (.int .i64 yr.t) ∧ z.cell? ⟨b2, o2 + j * 6 + 1, none⟩ = some (.bool yr.kh) ∧ z.cell? ⟨b2, o2 + j * 6 + 2, none⟩ = some (.string yr.kd) ∧ z.cell? ⟨b2, o2 + j * 6 + 3, none⟩ = some (.bool yr.vh) ∧ z.cell? ⟨b2, o2 + j * 6 + 4, none⟩ = some (.string yr.vd) ∧ z.cell? ⟨b2, o2 + j * 6 + 5, none⟩ = some (.slice ya yr.hs.length yc))) ∧ Below w.heap.size w z) z) := fun z hz => ⟨⟨SP z hz, SQ z hz⟩, hz⟩
      have hB9 := HB.out
      clear SP SQ
      by_cases hsm : SamR xr yr
      · have e1 := sameB_yes hsm
        rw [e1] at CE
        have HYY := hid (HY.out hsm)
        clear HX HY hsm e1
        go_wp2_with fail
        go_region_held3 (fun z => ((z.cell? ⟨b1, o1 + j * 6, none⟩ = some (.int .i64 xr.t) ∧ z.cell? ⟨b1, o1 + j * 6 + 1, none⟩ = some (.bool xr.kh) ∧ z.cell? ⟨b1, o1 + j * 6 + 2, none⟩ = some (.string xr.kd) ∧ z.cell? ⟨b1, o1 + j * 6 + 3, none⟩ = some (.bool xr.vh) ∧ z.cell? ⟨b1, o1 + j * 6 + 4, none⟩ = some (.string xr.vd) ∧ z.cell? ⟨b1, o1 + j * 6 + 5, none⟩ = some (.slice xa xr.hs.length xc)) ∧ (z.cell? ⟨b2, o2 + j * 6, none⟩ = some (.int .i64 yr.t) ∧ z.cell? ⟨b2, o2 + j * 6 + 1, none⟩ = some (.bool yr.kh) ∧ z.cell? ⟨b2, o2 + j * 6 + 2, none⟩ = some (.string yr.kd) ∧ z.cell? ⟨b2, o2 + j * 6 + 3, none⟩ = some (.bool yr.vh) ∧ z.cell? ⟨b2, o2 + j * 6 + 4, none⟩ = some (.string yr.vd) ∧ z.cell? ⟨b2, o2 + j * 6 + 5, none⟩ = some (.slice ya yr.hs.length yc))) ∧ Below w.heap.size w z) (first | with_reducible exact HS.out _ (by assumption) | with_reducible exact HS.out _ (Below.drew (by assumption))) (first | (go_at_call 78; refine (CE.out _ ?_).mono ?_; (first | assumption | exact Below.drew (by assumption)); rintro e w' ⟨rfl, hbel⟩))
        all_goals
          rename_i hH3
          have HB3 := hid hH3.2
          clear hH3
          go_wp2_with fail
          go_roundg k
          case measure => omega
          case rel => exact ⟨j + 1, by omega, by go_num, HYY, HB3.out⟩
      · have e1 := sameB_no hsm
        rw [e1] at CE
        have e2 := HX.out hsm
        subst e2
        clear HX HY hsm e1
        go_wp2_with fail
        go_region_held3 (fun z => ((z.cell? ⟨b1, o1 + j * 6, none⟩ = some (.int .i64 xr.t) ∧ z.cell? ⟨b1, o1 + j * 6 + 1, none⟩ = some (.bool xr.kh) ∧ z.cell? ⟨b1, o1 + j * 6 + 2, none⟩ = some (.string xr.kd) ∧ z.cell? ⟨b1, o1 + j * 6 + 3, none⟩ = some (.bool xr.vh) ∧ z.cell? ⟨b1, o1 + j * 6 + 4, none⟩ = some (.string xr.vd) ∧ z.cell? ⟨b1, o1 + j * 6 + 5, none⟩ = some (.slice xa xr.hs.length xc)) ∧ (z.cell? ⟨b2, o2 + j * 6, none⟩ = some (.int .i64 yr.t) ∧ z.cell? ⟨b2, o2 + j * 6 + 1, none⟩ = some (.bool yr.kh) ∧ z.cell? ⟨b2, o2 + j * 6 + 2, none⟩ = some (.string yr.kd) ∧ z.cell? ⟨b2, o2 + j * 6 + 3, none⟩ = some (.bool yr.vh) ∧ z.cell? ⟨b2, o2 + j * 6 + 4, none⟩ = some (.string yr.vd) ∧ z.cell? ⟨b2, o2 + j * 6 + 5, none⟩ = some (.slice ya yr.hs.length yc))) ∧ Below w.heap.size w z) (first | with_reducible exact HS.out _ (by assumption) | with_reducible exact HS.out _ (Below.drew (by assumption))) (first | (go_at_call 78; refine (CE.out _ ?_).mono ?_; (first | assumption | exact Below.drew (by assumption)); rintro e w' ⟨rfl, hbel⟩))
        all_goals
          rename_i hH3
          have HB3 := hid hH3.2
          clear hH3
          go_wp2_with fail
          go_ret
          exact ⟨rfl, HB3.out⟩
    · have hj : j = l.length := by omega
      subst hj
      have hDt : D = true := by rw [← HD.out]; exact samL_yes ⟨HLM.out, HP.out⟩
      subst hDt
      go_wp2_with fail
      go_ret
      exact ⟨rfl, HB.out⟩
end Go.Proofs.YtihokphamgkkcaaGreat
namespace Go.Proofs.YtihokphamgkkcaaGreat
open Go.RowKit
set_option maxHeartbeats 2000000 in
set_option maxRecDepth 20000 in
theorem sameBt_any (a b : Bt) (w : World) (V1 : Rcs w a.a a.l) (V2 : Rcs w b.a b.l) (hL : a.l.length ≤ 9223372036854775807) (hz : ∀ x ∈ a.l, x.r.hs.length ≤ 9223372036854775807) :
    Calls Tryz.prog 20 #[btV a, btV b] w fun e w' => e = .returned (.bool (samB a b)) ∧ Below w.heap.size w w' := by
  obtain ⟨D, hD⟩ : ∃ D, samB a b = D := ⟨_, rfl⟩
  rw [hD]
  obtain ⟨base1, pk1, prod1, seq1, l1, a1, c1⟩ := a
  obtain ⟨base2, pk2, prod2, seq2, l2, a2, c2⟩ := b
  have ce := fun w V1 V2 => eqf_any l1 l2 a1 a2 c1 c2 w V1 V2 hL hz
  dsimp only at *
  unfold btV btA
  dsimp only
  have hb : Below w.heap.size w ((w.alloc (.cells #[.int .i64 base1, .bool pk1, .int .i64 prod1, .int .i32 seq1, .slice a1 l1.length c1] 24)).alloc (.cells #[.int .i64 base2, .bool pk2, .int .i64 prod2, .int .i32 seq2, .slice a2 l2.length c2] 24)) := ((Below.refl _ _).alloc (Nat.le_refl _) _).alloc (by simp) _
  by_cases e0 : base1 = base2
  case neg =>
    have hF : D = false := by rw [← hD]; exact samB_no (fun h => e0 h.1)
    subst hF
    have f1 : (base1 == base2) = false := beq_eq_false_iff_ne.2 e0
    clear ce V1 V2 hD
    go_enter Tryz.func20, Tryz.ntmps20
    go_wp2_with fail
    go_ret
    exact ⟨rfl, hb⟩
  subst e0
  by_cases e1 : pk1 = pk2
  case neg =>
    have hF : D = false := by rw [← hD]; exact samB_no (fun h => e1 h.2.1)
    subst hF
    have f1 : (pk1 == pk2) = false := beq_eq_false_iff_ne.2 e1
    clear ce V1 V2 hD
    clear e1
    cases pk1 <;> cases pk2
    all_goals first | (cases f1; done) | skip
    all_goals
      clear f1
      go_enter Tryz.func20, Tryz.ntmps20
      go_wp2_with fail
      go_ret
      exact ⟨rfl, hb⟩
  subst e1
  by_cases e2 : prod1 = prod2
  case neg =>
    have hF : D = false := by rw [← hD]; exact samB_no (fun h => e2 h.2.2.1)
    subst hF
    have f1 : (prod1 == prod2) = false := beq_eq_false_iff_ne.2 e2
    clear ce V1 V2 hD
    go_enter Tryz.func20, Tryz.ntmps20
    go_wp2_with fail
    go_ret
    exact ⟨rfl, hb⟩
  subst e2
  by_cases e3 : seq1 = seq2
  case neg =>
    have hF : D = false := by rw [← hD]; exact samB_no (fun h => e3 h.2.2.2.1)
    subst hF
    have f1 : (seq1 == seq2) = false := beq_eq_false_iff_ne.2 e3
    clear ce V1 V2 hD
    go_enter Tryz.func20, Tryz.ntmps20
    go_wp2_with fail
    go_ret
    exact ⟨rfl, hb⟩
  subst e3
  have hS : samL l1 l2 = D := by
    rw [← hD]
    by_cases h : SamL l1 l2
    · rw [samL_yes h]; exact (samB_yes (a := ⟨base1, pk1, prod1, seq1, l1, a1, c1⟩) (b := ⟨base1, pk1, prod1, seq1, l2, a2, c2⟩) ⟨rfl, rfl, rfl, rfl, h⟩).symm
    · rw [samL_no h]; exact (samB_no (a := ⟨base1, pk1, prod1, seq1, l1, a1, c1⟩) (b := ⟨base1, pk1, prod1, seq1, l2, a2, c2⟩) (fun k => h k.2.2.2.2)).symm
  rw [hS] at ce
  clear hS hD
  have CE := hid ce
  clear ce
  go_enter Tryz.func20, Tryz.ntmps20
  go_wp2_with fail
  refine (CE.out _ (V1.below hb) (V2.below hb)).mono ?_
  rintro e w3 ⟨rfl, b3⟩
  have HB3 := hid (hb.trans (b3.mono hb.size))
  clear b3 hb CE
  cases D
  all_goals
    go_wp2_with fail
    go_ret
    exact ⟨rfl, HB3.out⟩
set_option maxHeartbeats 2000000 in
set_option maxRecDepth 20000 in
theorem xsameBt_any (a b : Bt) (w : World) (V1 : Rcs w a.a a.l) (V2 : Rcs w b.a b.l) (hL : a.l.length ≤ 9223372036854775807) (hz : ∀ x ∈ a.l, x.r.hs.length ≤ 9223372036854775807) :
    Calls Tryz.prog 18 #[btV a, btV b] w fun e w' => e = .returned (.bool (samB a b)) ∧ Below w.heap.size w w' := by
  obtain ⟨D, hD⟩ : ∃ D, samB a b = D := ⟨_, rfl⟩
  rw [hD]
  obtain ⟨base1, pk1, prod1, seq1, l1, a1, c1⟩ := a
  obtain ⟨base2, pk2, prod2, seq2, l2, a2, c2⟩ := b
  have ce := fun w V1 V2 => xsr_any l1 l2 a1 a2 c1 c2 w V1 V2 hL hz
  dsimp only at *
  unfold btV btA
  dsimp only
  have hb : Below w.heap.size w ((w.alloc (.cells #[.int .i64 base1, .bool pk1, .int .i64 prod1, .int .i32 seq1, .slice a1 l1.length c1] 24)).alloc (.cells #[.int .i64 base2, .bool pk2, .int .i64 prod2, .int .i32 seq2, .slice a2 l2.length c2] 24)) := ((Below.refl _ _).alloc (Nat.le_refl _) _).alloc (by simp) _
  by_cases e0 : base1 = base2
  case neg =>
    have hF : D = false := by rw [← hD]; exact samB_no (fun h => e0 h.1)
    subst hF
    have f1 : (base1 == base2) = false := beq_eq_false_iff_ne.2 e0
    clear ce V1 V2 hD
    go_enter Tryz.func18, Tryz.ntmps18
    go_wp2_with fail
    go_ret
    exact ⟨rfl, hb⟩
  subst e0
  by_cases e1 : pk1 = pk2
  case neg =>
    have hF : D = false := by rw [← hD]; exact samB_no (fun h => e1 h.2.1)
    subst hF
    have f1 : (pk1 == pk2) = false := beq_eq_false_iff_ne.2 e1
    clear ce V1 V2 hD
    clear e1
    cases pk1 <;> cases pk2
    all_goals first | (cases f1; done) | skip
    all_goals
      clear f1
      go_enter Tryz.func18, Tryz.ntmps18
      go_wp2_with fail
      go_ret
      exact ⟨rfl, hb⟩
  subst e1
  by_cases e2 : prod1 = prod2
  case neg =>
    have hF : D = false := by rw [← hD]; exact samB_no (fun h => e2 h.2.2.1)
    subst hF
    have f1 : (prod1 == prod2) = false := beq_eq_false_iff_ne.2 e2
    clear ce V1 V2 hD
    go_enter Tryz.func18, Tryz.ntmps18
    go_wp2_with fail
    go_ret
    exact ⟨rfl, hb⟩
  subst e2
  by_cases e3 : seq1 = seq2
  case neg =>
    have hF : D = false := by rw [← hD]; exact samB_no (fun h => e3 h.2.2.2.1)
    subst hF
    have f1 : (seq1 == seq2) = false := beq_eq_false_iff_ne.2 e3
    clear ce V1 V2 hD
    go_enter Tryz.func18, Tryz.ntmps18
    go_wp2_with fail
    go_ret
    exact ⟨rfl, hb⟩
  subst e3
  have hS : samL l1 l2 = D := by
    rw [← hD]
    by_cases h : SamL l1 l2
    · rw [samL_yes h]; exact (samB_yes (a := ⟨base1, pk1, prod1, seq1, l1, a1, c1⟩) (b := ⟨base1, pk1, prod1, seq1, l2, a2, c2⟩) ⟨rfl, rfl, rfl, rfl, h⟩).symm
    · rw [samL_no h]; exact (samB_no (a := ⟨base1, pk1, prod1, seq1, l1, a1, c1⟩) (b := ⟨base1, pk1, prod1, seq1, l2, a2, c2⟩) (fun k => h k.2.2.2.2)).symm
  rw [hS] at ce
  clear hS hD
  have CE := hid ce
  clear ce
  go_enter Tryz.func18, Tryz.ntmps18
  go_wp2_with fail
  refine (CE.out _ (V1.below hb) (V2.below hb)).mono ?_
  rintro e w3 ⟨rfl, b3⟩
  have HB3 := hid (hb.trans (b3.mono hb.size))
  clear b3 hb CE
  cases D
  all_goals
    go_wp2_with fail
    go_ret
    exact ⟨rfl, HB3.out⟩
end Go.Proofs.YtihokphamgkkcaaGreat
namespace Go.Proofs.YtihokphamgkkcaaGreat
open Go.RowKit
/-- The two boxes. -/
structure B2 (w : World) (u v : Array Value) (y : World) : Prop where
  b : Below w.heap.size w y
  p : y.heap[w.heap.size]? = some (.cells u 24 (0, 0))
  q : y.heap[w.heap.size + 1]? = some (.cells v 24 (0, 0))
theorem B2.new (w : World) (u v : Array Value) : B2 w u v ((w.alloc (.cells u 24)).alloc (.cells v 24)) := ⟨((Below.refl _ _).alloc (Nat.le_refl _) _).alloc (by simp) _, heap_alloc_at (heap_new _ _), heap_new' _ _ _ (by simp)⟩
theorem B2.call {w : World} {u v : Array Value} {y y' : World} (h : B2 w u v y) (k : Below y.heap.size y y') : B2 w u v y' := ⟨h.b.trans (k.mono h.b.size), keep h.p k, keep h.q k⟩
set_option maxHeartbeats 2000000 in
set_option maxRecDepth 20000 in
theorem sames6_walk (a b : Bt) (w : World) (V1 : Rcs w a.a a.l) (V2 : Rcs w b.a b.l) (hL : a.l.length ≤ 9223372036854775807) (hL2 : b.l.length ≤ 9223372036854775807) (hz : ∀ x ∈ a.l, x.r.hs.length ≤ 9223372036854775807) (hz2 : ∀ x ∈ b.l, x.r.hs.length ≤ 9223372036854775807) :
    Calls Tryz.prog 5 #[.agg #[.int .i64 a.base, .bool a.pk, .int .i64 a.prod, .int .i32 a.seq, .slice a.a a.l.length a.cap], .agg #[.int .i64 b.base, .bool b.pk, .int .i64 b.prod, .int .i32 b.seq, .slice b.a b.l.length b.cap]] w fun e w' => e = .returned (.bool true) ∧ Below w.heap.size w w' := by
  have CAA := fun w V => sameBt_any a a w V V hL hz
  have CBB := fun w V => sameBt_any b b w V V hL2 hz2
  have CAB := fun w V V2 => sameBt_any a b w V V2 hL hz
  have CBA := fun w V V2 => sameBt_any b a w V2 V hL2 hz2
  have CXX := fun w V V2 => xsameBt_any a b w V V2 hL hz
  rw [samB_yes (SamB.refl a)] at CAA
  rw [samB_yes (SamB.refl b)] at CBB
  rw [samB_comm b a] at CBA
  generalize samB a b = D at *
  have RV1 := fun y (h : Below w.heap.size w y) => V1.below h
  have RV2 := fun y (h : Below w.heap.size w y) => V2.below h
  unfold btV btA at *
  obtain ⟨base1, pk1, prod1, seq1, l1, a1, c1⟩ := a
  obtain ⟨base2, pk2, prod2, seq2, l2, a2, c2⟩ := b
  dsimp only at *
  have N0 := B2.new w #[.int .i64 base1, .bool pk1, .int .i64 prod1, .int .i32 seq1, .slice a1 l1.length c1] #[.int .i64 base2, .bool pk2, .int .i64 prod2, .int .i32 seq2, .slice a2 l2.length c2]
  have CAW := hid (fun w => awake6_any w)
  have HAA := hid CAA
  have HBB := hid CBB
  have HAB := hid CAB
  have HBA := hid CBA
  have HXX := hid CXX
  have HR1 := hid RV1
  have HR2 := hid RV2
  clear CAA CBB CAB CBA CXX RV1 RV2 V1 V2
  go_enter Tryz.func5, Tryz.ntmps5
  go_wp2_with fail
  refine (CAW.out _).mono ?_
  rintro e w1 ⟨rfl, b1⟩
  have N1 := N0.call b1
  clear b1 N0 CAW
  obtain ⟨k0, k1, k2, k3, k4⟩ := cells5 N1.p
  go_wp2_with fail
  refine (HAA.out _ (HR1.out _ N1.b)).mono ?_
  rintro e w2 ⟨rfl, b2⟩
  have N2 := N1.call b2
  clear b2 N1 k0 k1 k2 k3 k4 HAA
  obtain ⟨k0, k1, k2, k3, k4⟩ := cells5 N2.q
  go_wp2_with fail
  refine (HBB.out _ (HR2.out _ N2.b)).mono ?_
  rintro e w3 ⟨rfl, b3⟩
  have N3 := N2.call b3
  clear b3 N2 k0 k1 k2 k3 k4 HBB
  obtain ⟨k0, k1, k2, k3, k4⟩ := cells5 N3.p
  obtain ⟨j0, j1, j2, j3, j4⟩ := cells5 N3.q
  go_wp2_with fail
  refine (HXX.out _ (HR1.out _ N3.b) (HR2.out _ N3.b)).mono ?_
  rintro e w4 ⟨rfl, b4⟩
  have N4 := N3.call b4
  clear b4 N3 k0 k1 k2 k3 k4 j0 j1 j2 j3 j4 HXX
  obtain ⟨k0, k1, k2, k3, k4⟩ := cells5 N4.p
  obtain ⟨j0, j1, j2, j3, j4⟩ := cells5 N4.q
  go_wp2_with fail
  refine (HAB.out _ (HR1.out _ N4.b) (HR2.out _ N4.b)).mono ?_
  rintro e w5 ⟨rfl, b5⟩
  have N5 := N4.call b5
  clear b5 N4 k0 k1 k2 k3 k4 j0 j1 j2 j3 j4 HAB
  obtain ⟨k0, k1, k2, k3, k4⟩ := cells5 N5.p
  obtain ⟨j0, j1, j2, j3, j4⟩ := cells5 N5.q
  cases D
  all_goals
    go_wp2_with fail
    refine (HBA.out _ (HR1.out _ N5.b) (HR2.out _ N5.b)).mono ?_
    rintro e w6 ⟨rfl, b6⟩
    have N6 := N5.call b6
    clear b6 N5 k0 k1 k2 k3 k4 j0 j1 j2 j3 j4 HBA
    go_wp2_with fail
    go_ret
    exact ⟨rfl, N6.b⟩
end Go.Proofs.YtihokphamgkkcaaGreat
