/- What layer 1's Put and PutSigned lay down, of the program and of the document's answer: the forms of the values; nothing that was there before is turned. -/
import Derived.Test.YtpfaioncaolmjaaGreatVread
import Derived.Lib.BufferRead
namespace Go.Proofs.YtpfaioncaolmjaaGreat
open Go.RowKit
theorem Tryz.info5 : (Tryz.prog.info? 5).map (fun i => (i.zero, i.size, i.bytes)) = some (some (.int .u8 0), 1, 1) := by kernel_rfl
theorem Tryz.underBytes : Tryz.prog.underlying 48 = some (.slice 5) := by kernel_rfl
/-- Bytes as cells. -/
def bc (l : List Nat) : List Value := l.map fun b : Nat => Value.int .u8 (b : Int)
theorem bc_len (l : List Nat) : (bc l).length = l.length := by simp [bc]
theorem bc_app (l m : List Nat) : bc (l ++ m) = bc l ++ bc m := by simp [bc]
theorem one_cell (b : Int) : ∀ u ∈ [Value.int .u8 b], u.oneCell' = true := by intro u hu; simp at hu; subst hu; rfl
theorem bel_step {base n size : Nat} {e : TypeId} {w wr w1 : World} {o : Value} {l : List Value} {obj : Obj} (hbel : Below base w wr) (hown : wr.ownsRow base e size o n l) (hb : base ≤ wr.heap.size) (hg : (wr.alloc obj).grownBy w1 o.ownBlock) : Below base w w1 :=
  (hbel.alloc hb obj).grown hg (by simp; omega) (fun k hk => (hown.lt k hk).1)
theorem own_snoc {base n : Nat} {w1 : World} {v' : Value} {l : List Nat} {b : Nat} (hn : l.length = n) (h : w1.ownsRow base 5 1 v' (n + 1) (bc l ++ [.int .u8 (b : Int)])) : w1.ownsRow base 5 1 v' (l ++ [b]).length (bc (l ++ [b])) := by
  have e : (l ++ [b]).length = n + 1 := by simp [hn]
  rw [bc_app, e]; exact h
theorem or_byte (x : Nat) : bits BinOp.or IntKind.u8 ((x : Int) % 256) 128 = ((x % 128 + 128 : Nat) : Int) := by
  rw [u8_or _ _ (by omega) (by omega) (by omega) (by omega)]
  have e1 : ((x : Int) % 256).toNat = x % 256 := by omega
  have e2 : (128 : Int).toNat = 128 := rfl
  rw [e1, e2]
  congr 1
  have h := nat_join 7 128 (x % 128) (by decide) (by omega)
  have h2 : x % 256 = x % 128 ∨ x % 256 = 128 + x % 128 := by omega
  rcases h2 with h2 | h2
  · rw [h2, Nat.or_comm, h]; omega
  · rw [h2, ← h, Nat.or_comm, ← Nat.or_assoc, Nat.or_self, h]; omega
set_option maxHeartbeats 1000000 in
set_option maxRecDepth 20000 in
theorem af_any (base : Nat) (xs : List Nat) (ov : Value) (V : Nat) (w : World) (hV : V < 18446744073709551616) (hown : w.ownsRow base 5 1 ov xs.length (bc xs)) (hlen : xs.length ≤ 140737488355000) (hbase : base ≤ w.heap.size) :
    Calls Tryz.prog 116 #[ov, .int .u64 V] w fun e w' => ∃ v', e = .returned v' ∧ w'.ownsRow base 5 1 v' (xs ++ M.form V).length (bc (xs ++ M.form V)) ∧ Below base w w' := by
  obtain ⟨i0, hi, hz0, hz1, hz2⟩ := info_parts Tryz.info5
  go_enter Tryz.func116, Tryz.ntmps116
  go_wp2
  go_loopw [0, 1] (fun o v wr => ∃ (pre : List Nat) (f x : Nat), x < 2 * 128 ^ f ∧ x < 18446744073709551616 ∧ v = .int .u64 x ∧ M.form V = pre ++ M.formF f x ∧ pre.length ≤ 9 ∧ wr.ownsRow base 5 1 o (xs ++ pre).length (bc (xs ++ pre)) ∧ Below base w wr) (fun _ v _ => (intOf v).toNat)
  case atStart => exact ⟨[], 9, V, by simpa using hV, hV, rfl, rfl, by simp, by simpa using hown, Below.refl _ _⟩
  case round =>
    obtain ⟨pre, f, x, hx, hx64, rfl, hform, hpre, hown', hbel⟩ := hrel
    have hsz := hbel.size
    have hL : (xs ++ pre).length ≤ 140737488355009 := by simp; omega
    generalize hn : (xs ++ pre).length = n at hown' hL
    have HN : Hid ((xs ++ pre).length = n) := hn
    clear hn
    by_cases hl : 128 ≤ x
    · have hbyte := or_byte x
      have HF : Hid (M.form V = pre ++ M.formF f x) := hform
      have HX : Hid (x < 2 * 128 ^ f) := hx
      clear hform hx
      go_wp2_with (at_builtin; refine wpList_append_own _ rfl _ _ 48 rfl base 5 i0 (.int .u8 0) 1 1 Tryz.underBytes hi hz0 hz1 hz2 rfl (by decide) _ _ _ rfl (hown'.alloc _) ⟨wr.heap.size, 0, none⟩ 1 1 [.int .u8 ((x % 128 + 128 : Nat) : Int)] rfl rfl ?c1 ?c2 ?c3 ?c4 ?c5 ?_)
      case c1 => exact cell_one_new _ _ _
      case c2 => exact one_cell _
      case c3 => unfold maxLen; omega
      case c4 => omega
      case c5 => simp; omega
      · intro v' w1 hown1 hgrow _
        have HB : Hid (Below base w w1) := bel_step hbel hown' (by omega) hgrow
        have HO : Hid (w1.ownsRow base 5 1 v' (xs ++ pre ++ [x % 128 + 128]).length (bc (xs ++ pre ++ [x % 128 + 128]))) := own_snoc HN.out hown1
        clear hown1 hgrow hown' hbel
        go_wp2
        go_roundw
        case rel =>
          obtain ⟨f', rfl⟩ : ∃ f', f = f' + 1 := by
            cases f with
            | zero => have := HX.out; simp at this; omega
            | succ f' => exact ⟨f', rfl⟩
          have h1 := HX.out
          rw [Nat.pow_succ] at h1
          refine ⟨pre ++ [x % 128 + 128], f', x / 128, by omega, by omega, by go_num, by rw [HF.out, M.formF_high hl]; simp, ?_, by simpa using HO.out, HB.out⟩
          have h2 := congrArg List.length HF.out
          rw [List.length_append] at h2
          have h3 := M.form_le V
          have h4 := M.formF_pos f' (x / 128)
          rw [M.formF_high hl] at h2
          simp at h2 ⊢
          omega
        case measure => simp [intOf]; omega
    · go_wp2_with (at_builtin; refine wpList_append_own _ rfl _ _ 48 rfl base 5 i0 (.int .u8 0) 1 1 Tryz.underBytes hi hz0 hz1 hz2 rfl (by decide) _ _ _ rfl (hown'.alloc _) ⟨wr.heap.size, 0, none⟩ 1 1 [.int .u8 (x : Int)] rfl rfl ?d1 ?d2 ?d3 ?d4 ?d5 ?_)
      case d1 => exact cell_one_new _ _ _
      case d2 => exact one_cell _
      case d3 => unfold maxLen; omega
      case d4 => omega
      case d5 => simp; omega
      · intro v' w1 hown1 hgrow _
        have HB : Hid (Below base w w1) := bel_step hbel hown' (by omega) hgrow
        have HO : Hid (w1.ownsRow base 5 1 v' (xs ++ pre ++ [x]).length (bc (xs ++ pre ++ [x]))) := own_snoc HN.out hown1
        have HE : Hid (xs ++ pre ++ [x] = xs ++ M.form V) := by unfold Hid; rw [hform, M.formF_low (by omega)]; simp
        clear hown1 hgrow hown' hbel hform
        go_wp2
        go_ret
        have h := HO.out
        rw [HE.out] at h
        exact ⟨v', rfl, h, HB.out⟩
set_option maxHeartbeats 1000000 in
set_option maxRecDepth 20000 in
theorem one_any (V : Nat) (w : World) (hV : V < 18446744073709551616) :
    Calls Tryz.prog 119 #[.int .u64 V] w fun e w' => ∃ v', e = .returned v' ∧ w'.ownsRow w.heap.size 5 1 v' (M.form V).length (bc (M.form V)) ∧ Below w.heap.size w w' := by
  obtain ⟨i0, hi, hz0, hz1, hz2⟩ := info_parts Tryz.info5
  go_enter Tryz.func119, Tryz.ntmps119
  go_wp2
  go_loopw [0, 3] (fun v o wr => ∃ (pre : List Nat) (f x : Nat), x < 2 * 128 ^ f ∧ x < 18446744073709551616 ∧ v = .int .u64 x ∧ M.form V = pre ++ M.formF f x ∧ pre.length ≤ 9 ∧ wr.ownsRow w.heap.size 5 1 o pre.length (bc pre) ∧ Below w.heap.size w wr) (fun v _ _ => (intOf v).toNat)
  case atStart => exact ⟨[], 9, V, by simpa using hV, hV, rfl, rfl, by simp, World.ownsRow_nil _ _ _ _, Below.refl _ _⟩
  case round =>
    obtain ⟨pre, f, x, hx, hx64, rfl, hform, hpre, hown', hbel⟩ := hrel
    have hsz := hbel.size
    generalize hn : pre.length = n at hown' hpre
    have HN : Hid (pre.length = n) := hn
    clear hn
    by_cases hl : 128 ≤ x
    · have HF : Hid (M.form V = pre ++ M.formF f x) := hform
      have HX : Hid (x < 2 * 128 ^ f) := hx
      clear hform hx
      go_wp2_with (at_builtin; refine wpList_append_own _ rfl _ _ 48 rfl w.heap.size 5 i0 (.int .u8 0) 1 1 Tryz.underBytes hi hz0 hz1 hz2 rfl (by decide) _ _ _ rfl (hown'.alloc _) ⟨wr.heap.size, 0, none⟩ 1 1 [.int .u8 ((x % 128 + 128 : Nat) : Int)] rfl rfl ?c1 ?c2 ?c3 ?c4 ?c5 ?_)
      case c1 => exact cell_one_new _ _ _
      case c2 => exact one_cell _
      case c3 => unfold maxLen; omega
      case c4 => omega
      case c5 => simp; omega
      · intro v' w1 hown1 hgrow _
        have HB : Hid (Below w.heap.size w w1) := bel_step hbel hown' (by omega) hgrow
        have HO : Hid (w1.ownsRow w.heap.size 5 1 v' (pre ++ [x % 128 + 128]).length (bc (pre ++ [x % 128 + 128]))) := own_snoc HN.out hown1
        clear hown1 hgrow hown' hbel
        go_wp2
        go_roundw
        case rel =>
          obtain ⟨f', rfl⟩ : ∃ f', f = f' + 1 := by
            cases f with
            | zero => have := HX.out; simp at this; omega
            | succ f' => exact ⟨f', rfl⟩
          have h1 := HX.out
          rw [Nat.pow_succ] at h1
          refine ⟨pre ++ [x % 128 + 128], f', x / 128, by omega, by omega, by go_num, by rw [HF.out, M.formF_high hl]; simp, ?_, HO.out, HB.out⟩
          have h2 := congrArg List.length HF.out
          rw [List.length_append] at h2
          have h3 := M.form_le V
          have h4 := M.formF_pos f' (x / 128)
          rw [M.formF_high hl] at h2
          simp at h2 ⊢
          omega
        case measure => simp [intOf]; omega
    · go_wp2_with (at_builtin; refine wpList_append_own _ rfl _ _ 48 rfl w.heap.size 5 i0 (.int .u8 0) 1 1 Tryz.underBytes hi hz0 hz1 hz2 rfl (by decide) _ _ _ rfl (hown'.alloc _) ⟨wr.heap.size, 0, none⟩ 1 1 [.int .u8 (x : Int)] rfl rfl ?d1 ?d2 ?d3 ?d4 ?d5 ?_)
      case d1 => exact cell_one_new _ _ _
      case d2 => exact one_cell _
      case d3 => unfold maxLen; omega
      case d4 => omega
      case d5 => simp; omega
      · intro v' w1 hown1 hgrow _
        have HB : Hid (Below w.heap.size w w1) := bel_step hbel hown' (by omega) hgrow
        have HO : Hid (w1.ownsRow w.heap.size 5 1 v' (pre ++ [x]).length (bc (pre ++ [x]))) := own_snoc HN.out hown1
        have HE : Hid (pre ++ [x] = M.form V) := by unfold Hid; rw [hform, M.formF_low (by omega)]
        clear hown1 hgrow hown' hbel hform
        go_wp2
        go_ret
        have h := HO.out
        rw [HE.out] at h
        exact ⟨v', rfl, h, HB.out⟩

theorem Tryz.under9 : Tryz.prog.underlying 9 = some .string := by kernel_rfl
theorem Tryz.under5 : Tryz.prog.underlying 5 = some (.int .u8) := by kernel_rfl
/-- Bytes as a text. -/
def bs (l : List Nat) : ByteArray := ⟨(l.map UInt8.ofNat).toArray⟩
theorem bs_size (l : List Nat) : (bs l).size = l.length := by show (l.map UInt8.ofNat).toArray.size = _; simp
/-- 'string(b)' of a row that the call itself made. -/
theorem conv_own {w : World} {base n : Nat} {v : Value} {l : List Nat} (hb : ∀ b ∈ l, b < 256) (hown : w.ownsRow base 5 1 v n (bc l)) : (convert 48 9 v).run Tryz.prog w = .ok (.string (bs l)) w := by
  have hcell := fun (g : Nat) (hg : v.ownBlock = some g) => hown.cells hg
  obtain ⟨hl, h⟩ := hown
  rw [bc_len, Nat.mul_one] at hl
  rcases h with ⟨rfl, h0⟩ | ⟨g, cap, cur, rfl, hg, hh, h1, h2, h3, h4⟩
  · have : l = [] := List.eq_nil_of_length_eq_zero (by omega)
    subst this
    exact Lib.run_convert_nil_bytes w 48 9 5 0 Tryz.underBytes Tryz.under5 Tryz.under9
  · have hc := run_convert_bytes_back (P := Tryz.prog) w 48 9 5 ⟨g, 0, none⟩ cap (l.map UInt8.ofNat) Tryz.underBytes Tryz.under5 Tryz.under9 (fun j hj => by
      have hj' : j < l.length := by simpa using hj
      have hv : ((l.map UInt8.ofNat)[j].toNat : Int) = (l[j] : Int) := by
        have := hb l[j] (List.getElem_mem hj')
        simp; omega
      rw [hv]
      exact hcell g rfl j _ (by simp [bc, hj']))
    rw [List.length_map, hl] at hc
    exact hc
/-- The numbers of a slice, where they lie. -/
def Vals (k : IntKind) (w : World) (a : Option Addr) (zs : List Int) : Prop := zs = [] ∨ ∃ b off, a = some ⟨b, off, none⟩ ∧ b < w.heap.size ∧ ∀ j, j < zs.length → w.cell? ⟨b, off + j, none⟩ = some (.int k (zs.getD j 0))
/-- The forms of numbers, one behind the other. -/
def forms (zs : List Int) : List Nat := zs.flatMap fun z => M.form z.toNat
theorem forms_byte {zs : List Int} (h : ∀ z ∈ zs, 0 ≤ z ∧ z ≤ 18446744073709551615) : ∀ b ∈ forms zs, b < 256 := by
  intro b hb
  simp only [forms, List.mem_flatMap] at hb
  obtain ⟨z, hz, hb⟩ := hb
  have := h z hz
  exact M.form_byte (by omega) b hb
theorem forms_snoc (zs : List Int) (k : Nat) (h : k < zs.length) : forms (zs.take (k + 1)) = forms (zs.take k) ++ M.form (zs.getD k 0).toNat := by
  have e : zs.getD k 0 = zs[k] := by simp [List.getD_eq_getElem?_getD, h]
  unfold forms
  rw [List.take_succ_eq_append_getElem h, List.flatMap_append, e]
  simp
theorem forms_le (zs : List Int) (k : Nat) : (forms (zs.take k)).length ≤ (forms zs).length := by
  conv => rhs; rw [← List.take_append_drop k zs]
  simp only [forms, List.flatMap_append, List.length_append]; omega
theorem getD_mem {zs : List Int} {k : Nat} (h : k < zs.length) : zs.getD k 0 ∈ zs := by
  simp [List.getD_eq_getElem?_getD, h]
/-- The zigzags of numbers. -/
def zzs (zs : List Int) : List Int := zs.map M.zz
theorem zzs_take (zs : List Int) (k : Nat) : zzs (zs.take k) = (zzs zs).take k := by simp [zzs, List.map_take]
theorem zzs_getD {zs : List Int} {k : Nat} (h : k < zs.length) : (zzs zs).getD k 0 = M.zz (zs.getD k 0) := by simp [zzs, List.getD_eq_getElem?_getD, h]
theorem zzs_len (zs : List Int) : (zzs zs).length = zs.length := by simp [zzs]
theorem zzs_bd {zs : List Int} (h : ∀ z ∈ zs, -9223372036854775808 ≤ z ∧ z ≤ 9223372036854775807) : ∀ z ∈ zzs zs, 0 ≤ z ∧ z ≤ 18446744073709551615 := by
  intro z hz
  simp only [zzs, List.mem_map] at hz
  obtain ⟨y, hy, rfl⟩ := hz
  exact M.zz_bd (h y hy).1 (h y hy).2
set_option maxHeartbeats 1000000 in
set_option maxRecDepth 20000 in
theorem put_any (a : Option Addr) (cap : Nat) (zs : List Int) (w : World) (hz : ∀ z ∈ zs, 0 ≤ z ∧ z ≤ 18446744073709551615) (hl : zs.length ≤ 9223372036854775807) (hT : (forms zs).length ≤ 140737488355000) (hv : Vals .u64 w a zs) :
    Calls Tryz.prog 78 #[.slice a zs.length cap] w fun e w' => e = .returned (.string (bs (forms zs))) ∧ Below w.heap.size w w' := by
  go_enter Tryz.func78, Tryz.ntmps78
  go_wp2
  go_loopw [3, 8] (fun o i wr => ∃ j : Nat, j ≤ zs.length ∧ i = .int .i64 j ∧ Hid (wr.ownsRow w.heap.size 5 1 o (forms (zs.take j)).length (bc (forms (zs.take j)))) ∧ Below w.heap.size w wr) (fun _ i _ => zs.length - (intOf i).toNat)
  case atStart => exact ⟨0, by omega, rfl, World.ownsRow_nil _ _ _ _, Below.refl _ _⟩
  case round =>
    obtain ⟨j, hj, rfl, hown, hbel⟩ := hrel
    by_cases hlt : j < zs.length
    · rcases hv with rfl | ⟨b, off, rfl, hb, hc⟩
      · simp at hlt
      · have hcell : wr.cell? ⟨b, off + j, none⟩ = some (.int .u64 (zs.getD j 0)) := (hbel.cell hb).trans (hc j hlt)
        obtain ⟨hz1, hz2⟩ := hz _ (getD_mem hlt)
        generalize hz0 : zs.getD j 0 = z at hcell hz1 hz2
        have HZ : Hid (zs.getD j 0 = z) := hz0
        have HL : Hid ((forms (zs.take j)).length ≤ 140737488355000) := Nat.le_trans (forms_le zs j) hT
        have HC : Hid (∀ j, j < zs.length → w.cell? ⟨b, off + j, none⟩ = some (.int .u64 (zs.getD j 0))) := hc
        have hsz := hbel.size
        clear hz0 hc hz
        obtain ⟨Z, rfl⟩ : ∃ Z : Nat, z = (Z : Int) := ⟨z.toNat, by omega⟩
        go_wp2_with (go_at_call 116; refine (af_any w.heap.size (forms (zs.take j)) _ Z _ (by omega) hown.out HL.out hsz).mono ?_; rintro e w1 ⟨v', rfl, hown1, hbel1⟩)
        have HO1 : Hid (w1.ownsRow w.heap.size 5 1 v' (forms (zs.take (j + 1))).length (bc (forms (zs.take (j + 1))))) := by unfold Hid; rw [forms_snoc zs j hlt, HZ.out]; exact hown1
        go_roundw
        case rel => exact ⟨j + 1, by omega, by go_num, HO1, hbel.trans hbel1⟩
        case measure => simp [intOf]; omega
    · have e : zs.take j = zs := List.take_of_length_le (by omega)
      have hown2 := hown.out
      rw [e] at hown2
      have hcv := conv_own (forms_byte (fun z h => ⟨(hz z h).1, by have := (hz z h).2; omega⟩)) hown2
      have HB : Hid (Below w.heap.size w wr) := hbel
      clear hz hown hown2 e hv hbel
      go_wp2
      go_ret
      exact ⟨rfl, HB.out⟩
set_option maxHeartbeats 1000000 in
set_option maxRecDepth 20000 in
theorem sput_any (a : Option Addr) (cap : Nat) (zs : List Int) (w : World) (hz : ∀ z ∈ zs, -9223372036854775808 ≤ z ∧ z ≤ 9223372036854775807) (hl : zs.length ≤ 9223372036854775807) (hT : (forms (zzs zs)).length ≤ 140737488355000) (hv : Vals .i64 w a zs) :
    Calls Tryz.prog 79 #[.slice a zs.length cap] w fun e w' => e = .returned (.string (bs (forms (zzs zs)))) ∧ Below w.heap.size w w' := by
  go_enter Tryz.func79, Tryz.ntmps79
  go_wp2
  go_loopw [3, 8] (fun o i wr => ∃ j : Nat, j ≤ zs.length ∧ i = .int .i64 j ∧ Hid (wr.ownsRow w.heap.size 5 1 o (forms ((zzs zs).take j)).length (bc (forms ((zzs zs).take j)))) ∧ Below w.heap.size w wr) (fun _ i _ => zs.length - (intOf i).toNat)
  case atStart => exact ⟨0, by omega, rfl, World.ownsRow_nil _ _ _ _, Below.refl _ _⟩
  case round =>
    obtain ⟨j, hj, rfl, hown, hbel⟩ := hrel
    by_cases hlt : j < zs.length
    · rcases hv with rfl | ⟨b, off, rfl, hb, hc⟩
      · simp at hlt
      · have hcell : wr.cell? ⟨b, off + j, none⟩ = some (.int .i64 (zs.getD j 0)) := (hbel.cell hb).trans (hc j hlt)
        obtain ⟨hz1, hz2⟩ := hz _ (getD_mem hlt)
        generalize hz0 : zs.getD j 0 = z at hcell hz1 hz2
        have HZ : Hid (zs.getD j 0 = z) := hz0
        have HL : Hid ((forms ((zzs zs).take j)).length ≤ 140737488355000) := Nat.le_trans (forms_le (zzs zs) j) hT
        have HC : Hid (∀ j, j < zs.length → w.cell? ⟨b, off + j, none⟩ = some (.int .i64 (zs.getD j 0))) := hc
        have hsz := hbel.size
        clear hz0 hc hz
        obtain ⟨hy1, hy2⟩ := M.zz_bd (v := z) (by omega) (by omega)
        generalize hy0 : M.zz z = y at hy1 hy2
        have HY : Hid (M.zz z = y) := hy0
        obtain ⟨Z, rfl⟩ : ∃ Z : Nat, y = (Z : Int) := ⟨y.toNat, by omega⟩
        go_wp2_with (first | (go_at_call 117; refine (zz_any _ _ (by omega) (by omega)).mono ?_; rintro e w' ⟨rfl, rfl⟩) | (go_at_call 116; refine (af_any w.heap.size (forms ((zzs zs).take j)) _ Z _ (by omega) hown.out HL.out hsz).mono ?_; rintro e w1 ⟨v', rfl, hown1, hbel1⟩))
        have HO1 : Hid (w1.ownsRow w.heap.size 5 1 v' (forms ((zzs zs).take (j + 1))).length (bc (forms ((zzs zs).take (j + 1))))) := by unfold Hid; rw [forms_snoc (zzs zs) j (by rw [zzs_len]; exact hlt), zzs_getD hlt, HZ.out, HY.out]; exact hown1
        go_roundw
        case rel => exact ⟨j + 1, by omega, by go_num, HO1, hbel.trans hbel1⟩
        case measure => simp [intOf]; omega
    · have e : (zzs zs).take j = zzs zs := List.take_of_length_le (by rw [zzs_len]; omega)
      have hown2 := hown.out
      rw [e] at hown2
      have hcv := conv_own (forms_byte (zzs_bd (fun z h => ⟨by have := (hz z h).1; omega, by have := (hz z h).2; omega⟩))) hown2
      have HB : Hid (Below w.heap.size w wr) := hbel
      clear hz hown hown2 e hv hbel
      go_wp2
      go_ret
      exact ⟨rfl, HB.out⟩
theorem vals_one (k : IntKind) (z : Int) (T : TypeId) (w : World) : Vals k (w.alloc (.cells #[.int k z] T)) (some ⟨w.heap.size, 0, none⟩) [z] :=
  Or.inr ⟨w.heap.size, 0, rfl, by simp, fun j hj => by
    match j, hj with
    | 0, _ => simp⟩
theorem forms_one (z : Int) : forms [z] = M.form z.toNat := by simp [forms]
theorem since_alloc {w0 w w' : World} {o : Obj} (hb : Below w0.heap.size w0 w) (h : Below (w.alloc o).heap.size (w.alloc o) w') : Below w0.heap.size w0 w' := by
  have hs := hb.size
  exact (hb.alloc hs o).trans (h.mono (by simp; omega))
theorem put1 (z : Int) (w0 w : World) (h0 : 0 ≤ z) (h1 : z ≤ 18446744073709551615) (hb : Below w0.heap.size w0 w) :
    Calls Tryz.prog 78 #[.slice (some ⟨w.heap.size, 0, none⟩) 1 1] (w.alloc (.cells #[.int .u64 z] 29)) fun e w' => e = .returned (.string (bs (M.form z.toNat))) ∧ Below w0.heap.size w0 w' := by
  have h := put_any (some ⟨w.heap.size, 0, none⟩) 1 [z] (w.alloc (.cells #[.int .u64 z] 29)) (by intro y hy; rw [List.mem_singleton] at hy; subst hy; exact ⟨h0, h1⟩) (by simp) (by rw [forms_one]; have := M.form_le z.toNat; omega) (vals_one .u64 z 29 w)
  rw [forms_one] at h
  exact h.mono fun e w' ⟨h1, h2⟩ => ⟨h1, since_alloc hb h2⟩
theorem sput1 (z : Int) (w0 w : World) (h0 : -9223372036854775808 ≤ z) (h1 : z ≤ 9223372036854775807) (hb : Below w0.heap.size w0 w) :
    Calls Tryz.prog 79 #[.slice (some ⟨w.heap.size, 0, none⟩) 1 1] (w.alloc (.cells #[.int .i64 z] 2)) fun e w' => e = .returned (.string (bs (M.form (M.zz z).toNat))) ∧ Below w0.heap.size w0 w' := by
  have h := sput_any (some ⟨w.heap.size, 0, none⟩) 1 [z] (w.alloc (.cells #[.int .i64 z] 2)) (by intro y hy; rw [List.mem_singleton] at hy; subst hy; exact ⟨h0, h1⟩) (by simp) (by rw [show zzs [z] = [M.zz z] from rfl, forms_one]; have := M.form_le (M.zz z).toNat; omega) (vals_one .i64 z 2 w)
  rw [show zzs [z] = [M.zz z] from rfl, forms_one] at h
  exact h.mono fun e w' ⟨h1, h2⟩ => ⟨h1, since_alloc hb h2⟩
end Go.Proofs.YtpfaioncaolmjaaGreat
