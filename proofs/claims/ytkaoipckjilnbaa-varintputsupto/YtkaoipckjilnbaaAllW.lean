/- The walk of VarintAll: it answers true at every text and every list of numbers that are not too long; nothing that was there before is turned. -/
import Derived.Test.YtkaoipckjilnbaaAll
import Derived.Deep.AppendLies
namespace Go.Proofs.Ytkaoipckjilnbaa
open Go.RowKit
theorem allF_any {zs : List Int} (w : World) (hz : ∀ z ∈ zs, 0 ≤ z ∧ z ≤ 18446744073709551615) (hT : (forms zs).length ≤ 10000000000000) :
    Calls Try.prog 33 #[.string (bs (forms zs))] w fun e w' => ∃ v', e = .returned (.tuple #[v', .int .i64 (forms zs).length, .int .i64 0]) ∧ w'.ownsRow w.heap.size 29 1 v' zs.length (uc zs) ∧ Below w.heap.size w w' := by
  have h := all_any (bs (forms zs)) w (by rw [bs_size]; exact hT)
  rw [RA_forms hz] at h
  exact h
theorem vals_below {k : IntKind} {w w' : World} {a : Option Addr} {zs : List Int} (h : Vals k w a zs) (hb : Below w.heap.size w w') : Vals k w' a zs := by
  rcases h with h | ⟨b, off, rfl, hlt, hc⟩
  · exact Or.inl h
  · exact Or.inr ⟨b, off, rfl, Nat.lt_of_lt_of_le hlt hb.size, fun j hj => (hb.cell (p := ⟨b, off + j, none⟩) hlt).trans (hc j hj)⟩
/-- A row of another block than the one that is written stays as it was. -/
theorem vals_grown {k : IntKind} {w w' : World} {a : Option Addr} {zs : List Int} {row : Option Nat} (h : Vals k w a zs) (hg : w.grownBy w' row) (hne : zs ≠ [] → ∀ b off, a = some ⟨b, off, none⟩ → some b ≠ row) : Vals k w' a zs := by
  by_cases h0 : zs = []
  · exact Or.inl h0
  rcases h with h | ⟨b, off, rfl, hlt, hc⟩
  · exact Or.inl h
  · exact Or.inr ⟨b, off, rfl, Nat.lt_of_lt_of_le hlt hg.size, fun j hj => (hg.cell_far ⟨b, off + j, none⟩ hlt (hne h0 b off rfl)).trans (hc j hj)⟩
theorem grown_refl (w : World) (row : Option Nat) : w.grownBy w row := ⟨rfl, rfl, rfl, Nat.le_refl _, fun _ _ _ => rfl⟩
theorem grown_trans {w0 w1 w2 : World} {r r' : Option Nat} (h : w0.grownBy w1 r) (k : w1.grownBy w2 r') (hr : ∀ g, r' = some g → r = some g ∨ w0.heap.size ≤ g) : w0.grownBy w2 r := by
  refine ⟨k.os.trans h.os, k.tape.trans h.tape, k.output.trans h.output, Nat.le_trans h.size k.size, fun i hi hne => ?_⟩
  rw [k.block i (Nat.lt_of_lt_of_le hi h.size) (fun e => ?_), h.block i hi hne]
  rcases hr i e.symm with hr | hr
  · exact hne hr.symm
  · omega
theorem grown_alloc (w : World) (o : Obj) (r : Option Nat) : w.grownBy (w.alloc o) r := ⟨rfl, rfl, rfl, by simp, fun i hi _ => Below.heap_alloc w o i hi⟩
set_option maxHeartbeats 2000000 in
set_option maxRecDepth 20000 in
theorem all_walk (s : ByteArray) (a0 : Option Addr) (cap0 : Nat) (zs : List Int) (w : World) (hs : s.size ≤ 1048576) (hz : ∀ z ∈ zs, 0 ≤ z ∧ z ≤ 18446744073709551615) (hl : zs.length ≤ 1048576) (hT : (forms zs).length ≤ 10485760) (V0 : Vals .u64 w a0 zs) (hr : (RA s).1.length ≤ 1048576) :
    Calls Try.prog 6 #[.string s, .slice a0 zs.length cap0] w fun e w' => e = .returned (.bool true) ∧ Below w.heap.size w w' := by
  obtain ⟨i0, hi, hz0, hz1, hz2⟩ := info_parts Try.info29
  have N0 : Hid (zs ≠ [] → ∀ b off, a0 = some ⟨b, off, none⟩ → b < w.heap.size) := by
    intro h0 b off e
    rcases V0 with h | ⟨b', off', e', hlt, _⟩
    · exact absurd h h0
    · rw [e] at e'; injection e' with e'; injection e' with e1 _ _; omega
  have hbs := bs_size (forms zs)
  go_enter Try.func6, Try.ntmps6
  go_wp2_with fail
  refine (fixed_any _).mono ?_
  rintro e wA ⟨rfl, hA⟩
  go_wp2_with fail
  refine (all_any s wA (by omega)).mono ?_
  rintro e wB ⟨v1, rfl, o1, hB⟩
  obtain ⟨a1, c1, rfl, V1⟩ := vals_own o1
  have B1 := hA.trans (hB.mono hA.size)
  clear o1
  go_wp2_with fail
  refine (rall_any s wB (by omega)).mono ?_
  rintro e wC ⟨v2, rfl, o2, hC⟩
  obtain ⟨a2, c2, rfl, V2⟩ := vals_own o2
  have V1' := vals_below V1 hC
  have B2 := B1.trans (hC.mono B1.size)
  clear o2 V1 hB hC B1 hA
  go_wp2_with fail
  refine (same_any a1 a2 c1 c2 _ wC (by omega) V1' V2).mono ?_
  rintro e wD ⟨rfl, hD⟩
  have B3 := B2.trans (hD.mono B2.size)
  have V0' := vals_below V0 B3
  clear V1' V2 hD B2 V0
  go_wp2_with fail
  refine (rput_any a0 cap0 zs wD hz (by omega) (by omega) V0').mono ?_
  rintro e wE ⟨rfl, hE⟩
  have B4 := B3.trans (hE.mono B3.size)
  have V0 := vals_below V0' hE
  clear V0' hE B3
  go_wp2_with fail
  refine (allF_any wE hz (by omega)).mono ?_
  rintro e wF ⟨v3, rfl, o3, hF⟩
  have V0' := vals_below V0 hF
  have B5 := B4.trans (hF.mono B4.size)
  clear V0
  go_wp2_with fail
  refine (allF_any wF hz (by omega)).mono ?_
  rintro e wG ⟨v4, rfl, o4, hG⟩
  have V0 := vals_below V0' hG
  have B6 := B5.trans (hG.mono B5.size)
  have o3' := own_below o3 hG
  obtain ⟨a3, c3, rfl, V3⟩ := vals_own o3'
  obtain ⟨a4, c4, rfl, V4⟩ := vals_own o4
  clear V0'
  go_wp2_with fail
  refine (same_any a3 a0 c3 cap0 zs wG (by omega) V3 V0).mono ?_
  rintro e wH ⟨rfl, hH⟩
  have B7 := B6.trans (hH.mono B6.size)
  have V0H := vals_below V0 hH
  have V4H := vals_below V4 hH
  have o3H := own_below o3' hH
  have R3 : Hid (∀ g, (Value.slice a3 zs.length c3).ownBlock = some g → w.heap.size ≤ g ∧ g < wF.heap.size) := fun g hg => ⟨Nat.le_trans B4.size (o3.lt g hg).1, (o3.lt g hg).2⟩
  have R4 : Hid (∀ g, (Value.slice a4 zs.length c4).ownBlock = some g → wF.heap.size ≤ g) := fun g hg => (o4.lt g hg).1
  have hEH : wE.heap.size ≤ wH.heap.size := Nat.le_trans (Nat.le_trans hF.size hG.size) hH.size
  have K0 : Hid (Below w.heap.size w wH ∧ Vals .u64 wH a0 zs ∧ Vals .u64 wH a4 zs) := ⟨B7, V0H, V4H⟩
  have HO3 : Hid (wH.ownsRow wE.heap.size 29 1 (.slice a3 zs.length c3) zs.length (uc zs)) := o3H
  clear B7 V0H V4H o3H o3 o3' o4 V3 V4 V0 hH hG hF B6 B5 B4 hz
  go_wp2
  clear hbs
  go_loopw [15] (fun i wr => ∃ (j : Nat) (xs : List Value), j ≤ zs.length ∧ i = .int .i64 j ∧ Hid (wr.ownsRow wE.heap.size 29 1 (.slice a3 zs.length c3) zs.length xs) ∧ Hid (wH.grownBy wr (Value.slice a3 zs.length c3).ownBlock)) (fun i _ => zs.length - (intOf i).toNat)
  case atStart => exact ⟨0, _, by omega, rfl, HO3, grown_refl _ _⟩
  case round =>
    obtain ⟨j, xs, hj, rfl, hown, hgr⟩ := hrel
    by_cases hlt : j < zs.length
    · obtain ⟨g, cp, e, _, hgl⟩ := own_some hown.out (by omega)
      injection e with e1 e2 e3
      subst e1 e3
      have hxl : xs.length = zs.length := by have := hown.out.1; omega
      obtain ⟨u, hu⟩ : ∃ u, xs[j]? = some u := ⟨xs[j]'(by omega), by simp⟩
      have hcell := (hown.out.cellAt j (by omega)).trans hu
      have hfr := hown.out.frozenAt j
      have HST : Hid ((wr.setCell ⟨g, j, none⟩ (.int .u64 7777)).ownsRow wE.heap.size 29 1 (.slice (some ⟨g, 0, none⟩) zs.length c3) zs.length (xs.set j (.int .u64 7777))) := (hown.out.stored j _).1
      have HSG : Hid (wH.grownBy (wr.setCell ⟨g, j, none⟩ (.int .u64 7777)) (some g)) := grown_trans hgr.out (hown.out.stored j _).2 (fun g' h => Or.inl h)
      clear hown hgr hu
      go_wp2
      go_roundw
      case rel => exact ⟨j + 1, _, by omega, by go_num, HST, HSG⟩
      case measure => simp [intOf]; omega
    · go_wp2
      have hwr : wH.heap.size ≤ wr.heap.size := hgr.out.size
      go_loopw [16, 17] (fun o i wq => ∃ (j : Nat) (ys : List Value), j ≤ 16 ∧ i = .int .i64 j ∧ Hid (wq.ownsRow wE.heap.size 29 1 o (zs.length + j) ys) ∧ Hid (∀ g, o.ownBlock = some g → (Value.slice a3 zs.length c3).ownBlock = some g ∨ wH.heap.size ≤ g) ∧ Hid (wH.grownBy wq (Value.slice a3 zs.length c3).ownBlock)) (fun _ i _ => 16 - (intOf i).toNat)
      case atStart => exact ⟨0, xs, by omega, rfl, hown, fun g h => Or.inl h, hgr⟩
      case round =>
        obtain ⟨q, ys, hq, rfl, hownq, hblk, hgrq⟩ := hrel
        have hwq : wH.heap.size ≤ wr.heap.size := hgrq.out.size
        by_cases hq16 : q < 16
        · go_wp2_with (at_builtin; refine wpList_append_lies _ rfl _ _ 26 rfl wE.heap.size 29 i0 (.int .u64 0) 1 8 Try.under26 hi hz0 hz1 hz2 rfl (by decide) _ _ _ rfl (hownq.out.alloc _) ⟨_, 0, none⟩ 1 1 [.int .u64 5] rfl rfl (cell_one_new _ _ _) (one_u64 _) (by decide) ?c3 ?c4 ?c5 (wr.heap.size + 1) (by simp) ?_)
          case c3 => unfold maxLen; omega
          case c4 => omega
          case c5 => simp; omega
          · intro g cp w2 hown2 hgrow hat hgl
            have HO2 : Hid (w2.ownsRow wE.heap.size 29 1 (.slice (some ⟨g, 0, none⟩) (zs.length + q + 1) cp) (zs.length + (q + 1)) (ys ++ [.int .u64 5])) := hown2
            have HG2 : Hid (wH.grownBy w2 (Value.slice a3 zs.length c3).ownBlock) := grown_trans (grown_trans hgrq.out (grown_alloc wr _ none) (fun _ h => by cases h)) hgrow hblk.out
            have HK2 : Hid (∀ k, (Value.slice (some ⟨g, 0, none⟩) (zs.length + q + 1) cp).ownBlock = some k → (Value.slice a3 zs.length c3).ownBlock = some k ∨ wH.heap.size ≤ k) := by
              intro k hk
              have : g = k := by simpa [Value.ownBlock] using hk
              subst this
              rcases hat with hat | hat
              · exact hblk.out g hat
              · right; omega
            clear hown2 hgrow hat hownq hblk hgrq
            go_wp2
            go_roundw
            case rel => exact ⟨q + 1, _, by omega, by go_num, HO2, HK2, HG2⟩
            case measure => simp [intOf]; omega
        · obtain ⟨B7, V0H, V4H⟩ := K0.out
          have W0 : Hid (Vals .u64 wr a0 zs) := vals_grown V0H hgrq.out (fun h0 b off e e2 => by
            have h1 := N0.out h0 b off e
            have h2 := R3.out b e2.symm
            omega)
          have W4 : Hid (Vals .u64 wr a4 zs) := vals_grown V4H hgrq.out (fun h0 b off e e2 => by
            have h1 := R4.out b (by rw [e]; rfl)
            have h2 := R3.out b e2.symm
            omega)
          have WB : Hid (Below w.heap.size w wr) := B7.grown hgrq.out B7.size (fun k hk => (R3.out k hk).1)
          have hws : w.heap.size ≤ wr.heap.size := WB.out.size
          clear B7 V0H V4H hownq hblk hgrq hown hgr
          go_wp2_with (go_at_call 35; refine (same_any _ _ _ _ zs _ (by omega) W4.out W0.out).mono ?_; rintro e w3 ⟨rfl, hb3⟩)
          go_ret
          exact ⟨rfl, WB.out.trans (hb3.mono hws)⟩
end Go.Proofs.Ytkaoipckjilnbaa
