/- What the document's own Put and PutSigned lay down: the forms of the values; nothing that was there before is turned. -/
import Derived.Test.YtpfaioncaolmjaaGreatVput
namespace Go.Proofs.YtpfaioncaolmjaaGreat
open Go.RowKit
theorem Tryz.infoU64 : (Tryz.prog.info? 30).map (fun i => (i.zero, i.size, i.bytes)) = some (some (.int .u64 0), 1, 8) := by kernel_rfl
theorem Tryz.underU64s : Tryz.prog.underlying 111 = some (.slice 30) := by kernel_rfl
theorem own_below {base n size : Nat} {e : TypeId} {w w' : World} {v : Value} {l : List Value} (h : w.ownsRow base e size v n l) (hb : Below w.heap.size w w') : w'.ownsRow base e size v n l := by
  have hlt := h.lt
  obtain ⟨h1, h2⟩ := h
  refine ⟨h1, ?_⟩
  rcases h2 with h2 | ⟨g, cap, cur, rfl, hg, hh, r⟩
  · exact Or.inl h2
  · have := (hlt g rfl).2
    exact Or.inr ⟨g, cap, cur, rfl, hg, by rw [hb.block g this]; exact hh, r⟩
theorem own_some {base n size : Nat} {e : TypeId} {w : World} {v : Value} {l : List Value} (h : w.ownsRow base e size v n l) (hn : 0 < n) : ∃ g cap, v = .slice (some ⟨g, 0, none⟩) n cap ∧ base ≤ g ∧ g < w.heap.size := by
  have hlt := h.lt
  obtain ⟨h1, h2⟩ := h
  rcases h2 with ⟨_, h0⟩ | ⟨g, cap, cur, rfl, hg, hh, r⟩
  · omega
  · exact ⟨g, cap, rfl, hg, (hlt g rfl).2⟩
theorem bc_one (l : List Nat) : ∀ u ∈ bc l, u.oneCell' = true := by
  intro u hu
  simp only [bc, List.mem_map] at hu
  obtain ⟨b, _, rfl⟩ := hu
  rfl
set_option maxHeartbeats 1000000 in
set_option maxRecDepth 20000 in
theorem rput_any (a : Option Addr) (cap : Nat) (zs : List Int) (w : World) (hz : ∀ z ∈ zs, 0 ≤ z ∧ z ≤ 18446744073709551615) (hl : zs.length ≤ 9223372036854775807) (hT : (forms zs).length ≤ 140737488355000) (hv : Vals .u64 w a zs) :
    Calls Tryz.prog 83 #[.slice a zs.length cap] w fun e w' => e = .returned (.string (bs (forms zs))) ∧ Below w.heap.size w w' := by
  obtain ⟨i0, hi, hz0, hz1, hz2⟩ := info_parts Tryz.info5
  go_enter Tryz.func83, Tryz.ntmps83
  go_wp2
  go_loopw [3, 4] (fun o i wr => ∃ j : Nat, j ≤ zs.length ∧ i = .int .i64 j ∧ Hid (wr.ownsRow w.heap.size 5 1 o (forms (zs.take j)).length (bc (forms (zs.take j)))) ∧ Below w.heap.size w wr) (fun _ i _ => zs.length - (intOf i).toNat)
  case atStart => exact ⟨0, by omega, rfl, World.ownsRow_nil _ _ _ _, Below.refl _ _⟩
  case round =>
    obtain ⟨j, hj, rfl, hown, hbel⟩ := hrel
    by_cases hlt : j < zs.length
    · rcases hv with rfl | ⟨b, off, rfl, hb, hc⟩
      · simp at hlt
      · have hcell : wr.cell? ⟨b, off + j, none⟩ = some (.int .u64 (zs.getD j 0)) := (hbel.cell hb).trans (hc j hlt)
        obtain ⟨hy1, hy2⟩ := hz _ (getD_mem hlt)
        generalize hz0' : zs.getD j 0 = z at hcell hy1 hy2
        have HZ : Hid (zs.getD j 0 = z) := hz0'
        have hL := Nat.le_trans (forms_le zs (j + 1)) hT
        rw [forms_snoc zs j hlt, hz0', List.length_append] at hL
        have HC : Hid (∀ j, j < zs.length → w.cell? ⟨b, off + j, none⟩ = some (.int .u64 (zs.getD j 0))) := hc
        have hsz := hbel.size
        clear hz0' hc hz
        obtain ⟨Z, rfl⟩ : ∃ Z : Nat, z = (Z : Int) := ⟨z.toNat, by omega⟩
        rw [Int.toNat_natCast] at hL
        have HL : Hid ((forms (zs.take j)).length + (M.form Z).length ≤ 140737488355000) := hL
        clear hL
        go_wp2_with fail
        refine (one_any Z wr (by omega)).mono ?_
        rintro e w1 ⟨v', rfl, hown1, hbel1⟩
        have hp := M.form_pos Z
        obtain ⟨g, cp, rfl, hg1, hg2⟩ := own_some hown1 (by omega)
        have hsz1 := hbel1.size
        have HO : Hid (w1.ownsRow w.heap.size 5 1 _ (forms (zs.take j)).length (bc (forms (zs.take j)))) := own_below hown.out hbel1
        have hcells := fun j u => World.ownsRow.cells hown1 (g := g) rfl j u
        have HB1 : Hid (Below w.heap.size w w1) := hbel.trans (hbel1.mono hsz)
        have HCL : Hid (∀ j u, (bc (M.form Z))[j]? = some u → w1.cell? ((⟨g, 0, none⟩ : Addr).add j) = some u) := hcells
        clear hown1 hbel1 hbel hcells hown
        go_wp2_with (at_builtin; refine wpList_append_own _ rfl _ _ 48 rfl w.heap.size 5 i0 (.int .u8 0) 1 1 Tryz.underBytes hi hz0 hz1 hz2 rfl (by decide) _ _ _ rfl HO.out ⟨g, 0, none⟩ (M.form Z).length cp (bc (M.form Z)) rfl ?c0 HCL.out (bc_one _) ?c3 ?c4 ?c5 ?_)
        case c0 => rw [bc_len]; omega
        case c3 => have := HL.out; unfold maxLen; omega
        case c4 => have := HL.out; omega
        case c5 => omega
        · intro v' w2 hown2 hgrow _
          have HB2 : Hid (Below w.heap.size w w2) := HB1.out.grown hgrow (by omega) (fun k hk => (HO.out.lt k hk).1)
          have HO2 : Hid (w2.ownsRow w.heap.size 5 1 v' (forms (zs.take (j + 1))).length (bc (forms (zs.take (j + 1))))) := by
            unfold Hid
            rw [forms_snoc zs j hlt, HZ.out, bc_app, List.length_append]; exact hown2
          clear hown2 hgrow
          go_wp2
          go_roundw
          case rel => exact ⟨j + 1, by omega, by go_num, HO2, HB2.out⟩
          case measure => simp [intOf]; omega
    · have e : zs.take j = zs := List.take_of_length_le (by omega)
      have hown2 := hown.out
      rw [e] at hown2
      have hcv := conv_own (forms_byte hz) hown2
      have HB : Hid (Below w.heap.size w wr) := hbel
      clear hz hown hown2 e hv hbel
      go_wp2
      go_ret
      exact ⟨rfl, HB.out⟩
/-- Numbers of 64 bits as cells. -/
def uc (l : List Int) : List Value := l.map fun z => Value.int .u64 z
theorem uc_len (l : List Int) : (uc l).length = l.length := by simp [uc]
theorem uc_app (l m : List Int) : uc (l ++ m) = uc l ++ uc m := by simp [uc]
theorem one_u64 (b : Int) : ∀ u ∈ [Value.int .u64 b], u.oneCell' = true := by intro u hu; simp at hu; subst hu; rfl
theorem vals_own {base n : Nat} {w : World} {v : Value} {zs : List Int} (h : w.ownsRow base 30 1 v n (uc zs)) : ∃ a cap, v = .slice a zs.length cap ∧ Vals .u64 w a zs := by
  have hlt := h.lt
  have hcell := fun (g : Nat) (hg : v.ownBlock = some g) => h.cells hg
  obtain ⟨h1, h2⟩ := h
  rw [uc_len, Nat.mul_one] at h1
  rcases h2 with ⟨rfl, h0⟩ | ⟨g, cap, cur, rfl, hg, hh, r⟩
  · have : zs = [] := List.eq_nil_of_length_eq_zero (by omega)
    subst this
    exact ⟨none, 0, rfl, Or.inl rfl⟩
  · refine ⟨some ⟨g, 0, none⟩, cap, by rw [h1], Or.inr ⟨g, 0, rfl, (hlt g rfl).2, fun j hj => ?_⟩⟩
    have := hcell g rfl j (.int .u64 (zs.getD j 0)) (by simp [uc, List.getD_eq_getElem?_getD, hj])
    rw [← Go.WideShapes.add_plain]
    exact this
theorem zzs_snoc (zs : List Int) (k : Nat) (h : k < zs.length) : zzs (zs.take (k + 1)) = zzs (zs.take k) ++ [M.zz (zs.getD k 0)] := by
  have e : zs.getD k 0 = zs[k] := by simp [List.getD_eq_getElem?_getD, h]
  unfold zzs
  rw [List.take_succ_eq_append_getElem h, List.map_append, e]
  simp
theorem own_snoc64 {base n : Nat} {w1 : World} {v' : Value} {l : List Int} {z : Int} (hn : l.length = n) (h : w1.ownsRow base 30 1 v' (n + 1) (uc l ++ [.int .u64 z])) : w1.ownsRow base 30 1 v' (l ++ [z]).length (uc (l ++ [z])) := by
  have e : (l ++ [z]).length = n + 1 := by simp [hn]
  rw [uc_app, e]; exact h
set_option maxHeartbeats 1000000 in
set_option maxRecDepth 20000 in
theorem rsput_any (a : Option Addr) (cap : Nat) (zs : List Int) (w : World) (hz : ∀ z ∈ zs, -9223372036854775808 ≤ z ∧ z ≤ 9223372036854775807) (hl : zs.length ≤ 10000000000000) (hT : (forms (zzs zs)).length ≤ 140737488355000) (hv : Vals .i64 w a zs) :
    Calls Tryz.prog 84 #[.slice a zs.length cap] w fun e w' => e = .returned (.string (bs (forms (zzs zs)))) ∧ Below w.heap.size w w' := by
  obtain ⟨i0, hi, hz0, hz1, hz2⟩ := info_parts Tryz.infoU64
  go_enter Tryz.func84, Tryz.ntmps84
  go_wp2
  go_loopw [3, 4] (fun o i wr => ∃ j : Nat, j ≤ zs.length ∧ i = .int .i64 j ∧ Hid (wr.ownsRow w.heap.size 30 1 o (zzs (zs.take j)).length (uc (zzs (zs.take j)))) ∧ Below w.heap.size w wr) (fun _ i _ => zs.length - (intOf i).toNat)
  case atStart => exact ⟨0, by omega, rfl, World.ownsRow_nil _ _ _ _, Below.refl _ _⟩
  case round =>
    obtain ⟨j, hj, rfl, hown, hbel⟩ := hrel
    by_cases hlt : j < zs.length
    · rcases hv with rfl | ⟨b, off, rfl, hb, hc⟩
      · simp at hlt
      · have hcell : wr.cell? ⟨b, off + j, none⟩ = some (.int .i64 (zs.getD j 0)) := (hbel.cell hb).trans (hc j hlt)
        obtain ⟨hy1, hy2⟩ := hz _ (getD_mem hlt)
        generalize hz0' : zs.getD j 0 = z at hcell hy1 hy2
        have HZ : Hid (zs.getD j 0 = z) := hz0'
        have hn : (zzs (zs.take j)).length = j := by rw [zzs_len, List.length_take]; omega
        have HN : Hid ((zzs (zs.take j)).length = j) := hn
        have hown0 := hown.out
        rw [hn] at hown0
        have HC : Hid (∀ j, j < zs.length → w.cell? ⟨b, off + j, none⟩ = some (.int .i64 (zs.getD j 0))) := hc
        have hsz := hbel.size
        clear hz0' hc hz hn
        go_wp2_with (first | (go_at_call 120; refine (rzz_any _ _ hy1 hy2).mono ?_; rintro e w' ⟨rfl, rfl⟩) | (at_builtin; refine wpList_append_own _ rfl _ _ 111 rfl w.heap.size 30 i0 (.int .u64 0) 1 8 Tryz.underU64s hi hz0 hz1 hz2 rfl (by decide) _ _ _ rfl (hown0.alloc _) ⟨_, 0, none⟩ 1 1 [.int .u64 (M.zz z)] rfl rfl (cell_one_new _ _ _) (one_u64 _) ?c3 ?c4 ?c5 ?_))
        case c3 => unfold maxLen; omega
        case c4 => omega
        case c5 => simp; omega
        · intro v' w2 hown2 hgrow _
          have HB2 := bel_step hbel hown0 (by omega) hgrow
          have HO2 : Hid (w2.ownsRow w.heap.size 30 1 v' (zzs (zs.take (j + 1))).length (uc (zzs (zs.take (j + 1))))) := by
            unfold Hid
            rw [zzs_snoc zs j hlt, HZ.out]; exact own_snoc64 HN.out hown2
          clear hown2 hgrow hown0 hown hbel
          go_wp2
          go_roundw
          case rel => exact ⟨j + 1, by omega, by go_num, HO2, HB2⟩
          case measure => simp [intOf]; omega
    · have e : zs.take j = zs := List.take_of_length_le (by omega)
      have hown2 := hown.out
      rw [e] at hown2
      obtain ⟨a', cp, rfl, hV⟩ := vals_own hown2
      have HB : Hid (Below w.heap.size w wr) := hbel
      have HV : Hid (Vals .u64 wr a' (zzs zs)) := hV
      have HZB : Hid (∀ z ∈ zzs zs, 0 ≤ z ∧ z ≤ 18446744073709551615) := zzs_bd hz
      have hsz := hbel.size
      clear hz hown hown2 e hv hbel hV
      go_wp2_with (go_at_call 83; refine (rput_any _ _ (zzs zs) _ HZB.out (by rw [zzs_len]; omega) hT HV.out).mono ?_; rintro e w2 ⟨rfl, hbel2⟩)
      go_ret
      exact ⟨rfl, HB.out.trans (hbel2.mono hsz)⟩

end Go.Proofs.YtpfaioncaolmjaaGreat
