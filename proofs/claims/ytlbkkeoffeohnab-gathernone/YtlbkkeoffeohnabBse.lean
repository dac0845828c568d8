import Derived.Test.YtlbkkeoffeohnabRbd
import Derived.Test.YtlbkkeoffeohnabRdr3
import Derived.Test.YtlbkkeoffeohnabWrec
import Derived.Test.YtlbkkeoffeohnabBrf
import Derived.Test.YtlbkkeoffeohnabXSA
import Derived.Deep.LoopGhost
import Derived.Deep.RegionHeld3
import Derived.ProofKit
import Derived.OpenShut
import Derived.ShutString
import Derived.ChangeOld
import Derived.JoinedCond
import Derived.ChangeSame
import Derived.Deep.Slices
import Derived.Deep.Strs
/- Same of any two batches, both the program's and the document's. -/
namespace Go.Proofs.Ytlbkkeoffeohnab
open Go.RowKit
/-- Two rows of records say the same. -/
def SamL (l m : List RI) : Prop := l.length = m.length ∧ ∀ j, j < l.length → SamR (l.getD j dri).r (m.getD j dri).r
noncomputable def samL (l m : List RI) : Bool := @decide (SamL l m) (Classical.propDecidable _)
theorem samL_yes {l m : List RI} (h : SamL l m) : samL l m = true := @decide_eq_true _ (Classical.propDecidable _) h
theorem samL_no {l m : List RI} (h : ¬ SamL l m) : samL l m = false := @decide_eq_false _ (Classical.propDecidable _) h
/-- Two batches say the same. -/
def SamB (a b : Bt) : Prop := a.base = b.base ∧ a.pk = b.pk ∧ a.prod = b.prod ∧ a.seq = b.seq ∧ SamL a.l b.l
theorem SamR.refl (r : Rec) : SamR r r := ⟨rfl, ⟨rfl, rfl⟩, ⟨rfl, rfl⟩, rfl, fun _ _ => ⟨rfl, rfl, rfl⟩⟩
theorem SamL.refl (l : List RI) : SamL l l := ⟨rfl, fun _ _ => SamR.refl _⟩
theorem SamB.refl (a : Bt) : SamB a a := ⟨rfl, rfl, rfl, rfl, SamL.refl _⟩
theorem samL_nil {m : List RI} (h : ([] : List RI).length = m.length) : samL [] m = true := samL_yes ⟨h, fun _ hj => absurd hj (Nat.not_lt_zero _)⟩
set_option maxHeartbeats 2000000 in
set_option maxRecDepth 20000 in
theorem xsr_any (l m : List RI) (a1 a2 : Option Addr) (cap1 cap2 : Nat) (w : World) (V1 : Rcs w a1 l) (V2 : Rcs w a2 m) (hL : l.length ≤ 9223372036854775807) (hz : ∀ x ∈ l, x.r.hs.length ≤ 9223372036854775807) :
    Calls Try.prog 10 #[.slice a1 l.length cap1, .slice a2 m.length cap2] w fun e w' => e = .returned (.bool (samL l m)) ∧ Below w.heap.size w w' := by
  by_cases hlm : l.length = m.length
  case neg =>
    have hI : ¬ (l.length : Int) = m.length := by omega
    have hB : ((l.length : Int) != (m.length : Int)) = true := by rw [bne_iff_ne]; exact hI
    rw [samL_no (fun h => hlm h.1)]
    go_enter Try.func10, Try.ntmps10
    go_wp2_with fail
    go_ret
    exact ⟨rfl, Below.refl _ _⟩
  rw [← hlm]
  rcases id V1.2 with h | ⟨b1, o1, rfl, hb1, c1⟩
  · subst h
    rw [samL_nil hlm]
    go_enter Try.func10, Try.ntmps10
    go_wp2_with fail
    go_loopg [5] 0 (fun _ i wr => i = .int .i64 0 ∧ wr = w)
    case atStart => exact ⟨rfl, rfl⟩
    case round =>
      obtain ⟨rfl, rfl⟩ := hrel
      go_wp2_with fail
      go_ret
      exact ⟨rfl, Below.refl _ _⟩
  rcases id V2.2 with h | ⟨b2, o2, rfl, hb2, c2⟩
  · have hl0 : l = [] := List.eq_nil_of_length_eq_zero (by rw [hlm, h]; rfl)
    subst hl0
    rw [samL_nil hlm]
    go_enter Try.func10, Try.ntmps10
    go_wp2_with fail
    go_loopg [5] 0 (fun _ i wr => i = .int .i64 0 ∧ wr = w)
    case atStart => exact ⟨rfl, rfl⟩
    case round =>
      obtain ⟨rfl, rfl⟩ := hrel
      go_wp2_with fail
      go_ret
      exact ⟨rfl, Below.refl _ _⟩
  obtain ⟨D, hD⟩ : ∃ D, samL l m = D := ⟨_, rfl⟩
  have HD := hid hD
  have HLM := hid hlm
  rw [hD]
  clear hD hlm
  go_enter Try.func10, Try.ntmps10
  go_wp2_with fail
  go_loopg [5] l.length (fun k i wr => ∃ j : Nat, j + k = l.length ∧ i = .int .i64 j ∧ Hid (∀ p, p < j → SamR (l.getD p dri).r (m.getD p dri).r) ∧ Hid (Below w.heap.size w wr))
  case atStart => exact ⟨0, by omega, rfl, fun p hp => absurd hp (Nat.not_lt_zero _), Below.refl _ _⟩
  case round =>
    obtain ⟨j, hk, rfl, HP, HB⟩ := hrel
    by_cases hlt : j < l.length
    · obtain ⟨k, rfl⟩ : ∃ k, gk = k + 1 := ⟨gk - 1, by omega⟩
      have SP := fun z (hz : Below w.heap.size w z) => (c1 j hlt).below hb1 hz
      have SQ := fun z (hz : Below w.heap.size w z) => (c2 j (by have := HLM.out; omega)).below hb2 hz
      have CE : Hid (∀ x, Below w.heap.size w x → Calls Try.prog 19 _ x fun e w' => e = .returned (.bool (sameB (l.getD j dri).r (m.getD j dri).r)) ∧ Below w.heap.size w w') := fun x hx => (xsame_any (l.getD j dri).r (m.getD j dri).r (l.getD j dri).a (m.getD j dri).a (l.getD j dri).cap (m.getD j dri).cap x ((V1.1 _ (riD_mem hlt)).below hx) ((V2.1 _ (riD_mem (by have := HLM.out; omega))).below hx) (hz _ (riD_mem hlt))).mono fun e w' h => ⟨h.1, hx.trans (h.2.mono hx.size)⟩
      have i1 : (0 : Int) ≤ (j : Int) := by omega
      have i2 : (j : Int) < l.length := by omega
      have hj63 : j < 9223372036854775807 := by omega
      have HY : Hid (SamR (l.getD j dri).r (m.getD j dri).r → ∀ p, p < j + 1 → SamR (l.getD p dri).r (m.getD p dri).r) := fun hs p hp => by
        rcases Nat.lt_or_ge p j with h5 | h5
        · exact HP.out p h5
        · have : p = j := by omega
          rw [this]; exact hs
      have HX : Hid (¬ SamR (l.getD j dri).r (m.getD j dri).r → D = false) := fun hs => by rw [← HD.out]; exact samL_no (fun h => hs (h.2 j hlt))
      generalize l.getD j dri = x at *
      generalize m.getD j dri = y at *
      obtain ⟨xr, xa, xc⟩ := x
      obtain ⟨yr, ya, yc⟩ := y
      dsimp only at *
      have HS : Hid (∀ z, Below w.heap.size w z → (fun z => ((z.cell? ⟨b1, o1 + j * 6, none⟩ = some (.int .i64 xr.t) ∧ z.cell? ⟨b1, o1 + j * 6 + 1, none⟩ = some (.bool xr.kh) ∧ z.cell? ⟨b1, o1 + j * 6 + 2, none⟩ = some (.string xr.kd) ∧ z.cell? ⟨b1, o1 + j * 6 + 3, none⟩ = some (.bool xr.vh) ∧ z.cell? ⟨b1, o1 + j * 6 + 4, none⟩ = some (.string xr.vd) ∧ z.cell? ⟨b1, o1 + j * 6 + 5, none⟩ = some (.slice xa xr.hs.length xc)) ∧ (z.cell? ⟨b2, o2 + j * 6, none⟩ = some (.int .i64 yr.t) ∧ z.cell? ⟨b2, o2 + j * 6 + 1, none⟩ = some (.bool yr.kh) ∧ z.cell? ⟨b2, o2 + j * 6 + 2, none⟩ = some (.string yr.kd) ∧ z.cell? ⟨b2, o2 + j * 6 + 3, none⟩ = some (.bool yr.vh) ∧ z.cell? ⟨b2, o2 + j * 6 + 4, none⟩ = some (.string yr.vd) ∧ z.cell? ⟨b2, o2 + j * 6 + 5, none⟩ = some (.slice ya yr.hs.length yc))) ∧ Below w.heap.size w z) z) := fun z hz => ⟨⟨SP z hz, SQ z hz⟩, hz⟩
      have hB9 := HB.out
      clear SP SQ
      by_cases hsm : SamR xr yr
      · have e1 := sameB_yes hsm
        rw [e1] at CE
        have HYY := hid (HY.out hsm)
        clear HX HY hsm e1
        go_wp2_with fail
        go_region_held3 (fun z => ((z.cell? ⟨b1, o1 + j * 6, none⟩ = some (.int .i64 xr.t) ∧ z.cell? ⟨b1, o1 + j * 6 + 1, none⟩ = some (.bool xr.kh) ∧ z.cell? ⟨b1, o1 + j * 6 + 2, none⟩ = some (.string xr.kd) ∧ z.cell? ⟨b1, o1 + j * 6 + 3, none⟩ = some (.bool xr.vh) ∧ z.cell? ⟨b1, o1 + j * 6 + 4, none⟩ = some (.string xr.vd) ∧ z.cell? ⟨b1, o1 + j * 6 + 5, none⟩ = some (.slice xa xr.hs.length xc)) ∧ (z.cell? ⟨b2, o2 + j * 6, none⟩ = some (.int .i64 yr.t) ∧ z.cell? ⟨b2, o2 + j * 6 + 1, none⟩ = some (.bool yr.kh) ∧ z.cell? ⟨b2, o2 + j * 6 + 2, none⟩ = some (.string yr.kd) ∧ z.cell? ⟨b2, o2 + j * 6 + 3, none⟩ = some (.bool yr.vh) ∧ z.cell? ⟨b2, o2 + j * 6 + 4, none⟩ = some (.string yr.vd) ∧ z.cell? ⟨b2, o2 + j * 6 + 5, none⟩ = some (.slice ya yr.hs.length yc))) ∧ Below w.heap.size w z) (first | with_reducible exact HS.out _ (by assumption) | with_reducible exact HS.out _ (Below.drew (by assumption))) (first | (go_at_call 19; refine (CE.out _ ?_).mono ?_; (first | assumption | exact Below.drew (by assumption)); rintro e w' ⟨rfl, hbel⟩))
        all_goals
          rename_i hH3
          have HB3 := hid hH3.2
          clear hH3
          go_wp2_with fail
          go_roundg k
          case measure => omega
          case rel => exact ⟨j + 1, by omega, by go_num, HYY, HB3.out⟩
      · have e1 := sameB_no hsm
        rw [e1] at CE
        have e2 := HX.out hsm
        subst e2
        clear HX HY hsm e1
        go_wp2_with fail
        go_region_held3 (fun z => ((z.cell? ⟨b1, o1 + j * 6, none⟩ = some (.int .i64 xr.t) ∧ z.cell? ⟨b1, o1 + j * 6 + 1, none⟩ = some (.bool xr.kh) ∧ z.cell? ⟨b1, o1 + j * 6 + 2, none⟩ = some (.string xr.kd) ∧ z.cell? ⟨b1, o1 + j * 6 + 3, none⟩ = some (.bool xr.vh) ∧ z.cell? ⟨b1, o1 + j * 6 + 4, none⟩ = some (.string xr.vd) ∧ z.cell? ⟨b1, o1 + j * 6 + 5, none⟩ = some (.slice xa xr.hs.length xc)) ∧ (z.cell? ⟨b2, o2 + j * 6, none⟩ = some (.int .i64 yr.t) ∧ z.cell? ⟨b2, o2 + j * 6 + 1, none⟩ = some (.bool yr.kh) ∧ z.cell? ⟨b2, o2 + j * 6 + 2, none⟩ = some (.string yr.kd) ∧ z.cell? ⟨b2, o2 + j * 6 + 3, none⟩ = some (.bool yr.vh) ∧ z.cell? ⟨b2, o2 + j * 6 + 4, none⟩ = some (.string yr.vd) ∧ z.cell? ⟨b2, o2 + j * 6 + 5, none⟩ = some (.slice ya yr.hs.length yc))) ∧ Below w.heap.size w z) (first | with_reducible exact HS.out _ (by assumption) | with_reducible exact HS.out _ (Below.drew (by assumption))) (first | (go_at_call 19; refine (CE.out _ ?_).mono ?_; (first | assumption | exact Below.drew (by assumption)); rintro e w' ⟨rfl, hbel⟩))
        all_goals
          rename_i hH3
          have HB3 := hid hH3.2
          clear hH3
          go_wp2_with fail
          go_ret
          exact ⟨rfl, HB3.out⟩
    · have hj : j = l.length := by omega
      subst hj
      have hDt : D = true := by rw [← HD.out]; exact samL_yes ⟨HLM.out, HP.out⟩
      subst hDt
      go_wp2_with fail
      go_ret
      exact ⟨rfl, HB.out⟩
end Go.Proofs.Ytlbkkeoffeohnab
