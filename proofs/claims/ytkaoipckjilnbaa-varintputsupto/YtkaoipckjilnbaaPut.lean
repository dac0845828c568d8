/- What Put and PutSigned answer at each kind of number, and the document's Put and PutSigned: the forms of the values, one behind the other; nothing that was there before is turned. -/
import Derived.Test.YtkaoipckjilnbaaForm
import Derived.Lib.BufferRead
namespace Go.Proofs.Ytkaoipckjilnbaa
open Go.RowKit
theorem Try.under9 : Try.prog.underlying 9 = some .string := by kernel_rfl
theorem Try.under5 : Try.prog.underlying 5 = some (.int .u8) := by kernel_rfl
/-- Bytes as a text. -/
def bs (l : List Nat) : ByteArray := ⟨(l.map UInt8.ofNat).toArray⟩
theorem bs_size (l : List Nat) : (bs l).size = l.length := by show (l.map UInt8.ofNat).toArray.size = _; simp
/-- 'string(b)' of a row that the call itself made. -/
theorem conv_own {w : World} {base n : Nat} {v : Value} {l : List Nat} (hb : ∀ b ∈ l, b < 256) (hown : w.ownsRow base 5 1 v n (bc l)) : (convert 85 9 v).run Try.prog w = .ok (.string (bs l)) w := by
  have hcell := fun (g : Nat) (hg : v.ownBlock = some g) => hown.cells hg
  obtain ⟨hl, h⟩ := hown
  rw [bc_len, Nat.mul_one] at hl
  rcases h with ⟨rfl, h0⟩ | ⟨g, cap, cur, rfl, hg, hh, h1, h2, h3, h4⟩
  · have : l = [] := List.eq_nil_of_length_eq_zero (by omega)
    subst this
    exact Lib.run_convert_nil_bytes w 85 9 5 0 Try.under85 Try.under5 Try.under9
  · have hc := run_convert_bytes_back (P := Try.prog) w 85 9 5 ⟨g, 0, none⟩ cap (l.map UInt8.ofNat) Try.under85 Try.under5 Try.under9 (fun j hj => by
      have hj' : j < l.length := by simpa using hj
      have hv : ((l.map UInt8.ofNat)[j].toNat : Int) = (l[j] : Int) := by
        have := hb l[j] (List.getElem_mem hj')
        simp; omega
      rw [hv]
      exact hcell g rfl j _ (by simp [bc, hj']))
    rw [List.length_map, hl] at hc
    exact hc
/-- The numbers of a slice, where they lie. -/
def Vals (k : IntKind) (w : World) (a : Option Addr) (zs : List Int) : Prop := zs = [] ∨ ∃ b off, a = some ⟨b, off, none⟩ ∧ b < w.heap.size ∧ ∀ j, j < zs.length → w.cell? ⟨b, off + j, none⟩ = some (.int k (zs.getD j 0))
/-- The forms of numbers, one behind the other. -/
def forms (zs : List Int) : List Nat := zs.flatMap fun z => M.form z.toNat
theorem forms_byte {zs : List Int} (h : ∀ z ∈ zs, 0 ≤ z ∧ z ≤ 18446744073709551615) : ∀ b ∈ forms zs, b < 256 := by
  intro b hb
  simp only [forms, List.mem_flatMap] at hb
  obtain ⟨z, hz, hb⟩ := hb
  have := h z hz
  exact M.form_byte (by omega) b hb
theorem forms_snoc (zs : List Int) (k : Nat) (h : k < zs.length) : forms (zs.take (k + 1)) = forms (zs.take k) ++ M.form (zs.getD k 0).toNat := by
  have e : zs.getD k 0 = zs[k] := by simp [List.getD_eq_getElem?_getD, h]
  unfold forms
  rw [List.take_succ_eq_append_getElem h, List.flatMap_append, e]
  simp
theorem forms_le (zs : List Int) (k : Nat) : (forms (zs.take k)).length ≤ (forms zs).length := by
  conv => rhs; rw [← List.take_append_drop k zs]
  simp only [forms, List.flatMap_append, List.length_append]; omega
theorem getD_mem {zs : List Int} {k : Nat} (h : k < zs.length) : zs.getD k 0 ∈ zs := by
  simp [List.getD_eq_getElem?_getD, h]
/-- The zigzags of numbers. -/
def zzs (zs : List Int) : List Int := zs.map M.zz
theorem zzs_take (zs : List Int) (k : Nat) : zzs (zs.take k) = (zzs zs).take k := by simp [zzs, List.map_take]
theorem zzs_getD {zs : List Int} {k : Nat} (h : k < zs.length) : (zzs zs).getD k 0 = M.zz (zs.getD k 0) := by simp [zzs, List.getD_eq_getElem?_getD, h]
theorem zzs_len (zs : List Int) : (zzs zs).length = zs.length := by simp [zzs]
theorem zzs_bd {zs : List Int} (h : ∀ z ∈ zs, -9223372036854775808 ≤ z ∧ z ≤ 9223372036854775807) : ∀ z ∈ zzs zs, 0 ≤ z ∧ z ≤ 18446744073709551615 := by
  intro z hz
  simp only [zzs, List.mem_map] at hz
  obtain ⟨y, hy, rfl⟩ := hz
  exact M.zz_bd (h y hy).1 (h y hy).2
set_option maxHeartbeats 1000000 in
set_option maxRecDepth 20000 in
theorem put_any (a : Option Addr) (cap : Nat) (zs : List Int) (w : World) (hz : ∀ z ∈ zs, 0 ≤ z ∧ z ≤ 18446744073709551615) (hl : zs.length ≤ 9223372036854775807) (hT : (forms zs).length ≤ 140737488355000) (hv : Vals .u64 w a zs) :
    Calls Try.prog 12 #[.slice a zs.length cap] w fun e w' => e = .returned (.string (bs (forms zs))) ∧ Below w.heap.size w w' := by
  go_enter Try.func12, Try.ntmps12
  go_wp2
  go_loopw [3, 8] (fun o i wr => ∃ j : Nat, j ≤ zs.length ∧ i = .int .i64 j ∧ Hid (wr.ownsRow w.heap.size 5 1 o (forms (zs.take j)).length (bc (forms (zs.take j)))) ∧ Below w.heap.size w wr) (fun _ i _ => zs.length - (intOf i).toNat)
  case atStart => exact ⟨0, by omega, rfl, World.ownsRow_nil _ _ _ _, Below.refl _ _⟩
  case round =>
    obtain ⟨j, hj, rfl, hown, hbel⟩ := hrel
    by_cases hlt : j < zs.length
    · rcases hv with rfl | ⟨b, off, rfl, hb, hc⟩
      · simp at hlt
      · have hcell : wr.cell? ⟨b, off + j, none⟩ = some (.int .u64 (zs.getD j 0)) := (hbel.cell hb).trans (hc j hlt)
        obtain ⟨hz1, hz2⟩ := hz _ (getD_mem hlt)
        generalize hz0 : zs.getD j 0 = z at hcell hz1 hz2
        have HZ : Hid (zs.getD j 0 = z) := hz0
        have HL : Hid ((forms (zs.take j)).length ≤ 140737488355000) := Nat.le_trans (forms_le zs j) hT
        have HC : Hid (∀ j, j < zs.length → w.cell? ⟨b, off + j, none⟩ = some (.int .u64 (zs.getD j 0))) := hc
        have hsz := hbel.size
        clear hz0 hc hz
        obtain ⟨Z, rfl⟩ : ∃ Z : Nat, z = (Z : Int) := ⟨z.toNat, by omega⟩
        go_wp2_with (go_at_call 49; refine (af_any w.heap.size (forms (zs.take j)) _ Z _ (by omega) hown.out HL.out hsz).mono ?_; rintro e w1 ⟨v', rfl, hown1, hbel1⟩)
        have HO1 : Hid (w1.ownsRow w.heap.size 5 1 v' (forms (zs.take (j + 1))).length (bc (forms (zs.take (j + 1))))) := by unfold Hid; rw [forms_snoc zs j hlt, HZ.out]; exact hown1
        go_roundw
        case rel => exact ⟨j + 1, by omega, by go_num, HO1, hbel.trans hbel1⟩
        case measure => simp [intOf]; omega
    · have e : zs.take j = zs := List.take_of_length_le (by omega)
      have hown2 := hown.out
      rw [e] at hown2
      have hcv := conv_own (forms_byte (fun z h => ⟨(hz z h).1, by have := (hz z h).2; omega⟩)) hown2
      have HB : Hid (Below w.heap.size w wr) := hbel
      clear hz hown hown2 e hv hbel
      go_wp2
      go_ret
      exact ⟨rfl, HB.out⟩
set_option maxHeartbeats 1000000 in
set_option maxRecDepth 20000 in
theorem put8_any (a : Option Addr) (cap : Nat) (zs : List Int) (w : World) (hz : ∀ z ∈ zs, 0 ≤ z ∧ z ≤ 255) (hl : zs.length ≤ 9223372036854775807) (hT : (forms zs).length ≤ 140737488355000) (hv : Vals .u8 w a zs) :
    Calls Try.prog 16 #[.slice a zs.length cap] w fun e w' => e = .returned (.string (bs (forms zs))) ∧ Below w.heap.size w w' := by
  go_enter Try.func16, Try.ntmps16
  go_wp2
  go_loopw [3, 8] (fun o i wr => ∃ j : Nat, j ≤ zs.length ∧ i = .int .i64 j ∧ Hid (wr.ownsRow w.heap.size 5 1 o (forms (zs.take j)).length (bc (forms (zs.take j)))) ∧ Below w.heap.size w wr) (fun _ i _ => zs.length - (intOf i).toNat)
  case atStart => exact ⟨0, by omega, rfl, World.ownsRow_nil _ _ _ _, Below.refl _ _⟩
  case round =>
    obtain ⟨j, hj, rfl, hown, hbel⟩ := hrel
    by_cases hlt : j < zs.length
    · rcases hv with rfl | ⟨b, off, rfl, hb, hc⟩
      · simp at hlt
      · have hcell : wr.cell? ⟨b, off + j, none⟩ = some (.int .u8 (zs.getD j 0)) := (hbel.cell hb).trans (hc j hlt)
        obtain ⟨hz1, hz2⟩ := hz _ (getD_mem hlt)
        generalize hz0 : zs.getD j 0 = z at hcell hz1 hz2
        have HZ : Hid (zs.getD j 0 = z) := hz0
        have HL : Hid ((forms (zs.take j)).length ≤ 140737488355000) := Nat.le_trans (forms_le zs j) hT
        have HC : Hid (∀ j, j < zs.length → w.cell? ⟨b, off + j, none⟩ = some (.int .u8 (zs.getD j 0))) := hc
        have hsz := hbel.size
        clear hz0 hc hz
        obtain ⟨Z, rfl⟩ : ∃ Z : Nat, z = (Z : Int) := ⟨z.toNat, by omega⟩
        go_wp2_with (go_at_call 49; refine (af_any w.heap.size (forms (zs.take j)) _ Z _ (by omega) hown.out HL.out hsz).mono ?_; rintro e w1 ⟨v', rfl, hown1, hbel1⟩)
        have HO1 : Hid (w1.ownsRow w.heap.size 5 1 v' (forms (zs.take (j + 1))).length (bc (forms (zs.take (j + 1))))) := by unfold Hid; rw [forms_snoc zs j hlt, HZ.out]; exact hown1
        go_roundw
        case rel => exact ⟨j + 1, by omega, by go_num, HO1, hbel.trans hbel1⟩
        case measure => simp [intOf]; omega
    · have e : zs.take j = zs := List.take_of_length_le (by omega)
      have hown2 := hown.out
      rw [e] at hown2
      have hcv := conv_own (forms_byte (fun z h => ⟨(hz z h).1, by have := (hz z h).2; omega⟩)) hown2
      have HB : Hid (Below w.heap.size w wr) := hbel
      clear hz hown hown2 e hv hbel
      go_wp2
      go_ret
      exact ⟨rfl, HB.out⟩
set_option maxHeartbeats 1000000 in
set_option maxRecDepth 20000 in
theorem put16_any (a : Option Addr) (cap : Nat) (zs : List Int) (w : World) (hz : ∀ z ∈ zs, 0 ≤ z ∧ z ≤ 65535) (hl : zs.length ≤ 9223372036854775807) (hT : (forms zs).length ≤ 140737488355000) (hv : Vals .u16 w a zs) :
    Calls Try.prog 24 #[.slice a zs.length cap] w fun e w' => e = .returned (.string (bs (forms zs))) ∧ Below w.heap.size w w' := by
  go_enter Try.func24, Try.ntmps24
  go_wp2
  go_loopw [3, 8] (fun o i wr => ∃ j : Nat, j ≤ zs.length ∧ i = .int .i64 j ∧ Hid (wr.ownsRow w.heap.size 5 1 o (forms (zs.take j)).length (bc (forms (zs.take j)))) ∧ Below w.heap.size w wr) (fun _ i _ => zs.length - (intOf i).toNat)
  case atStart => exact ⟨0, by omega, rfl, World.ownsRow_nil _ _ _ _, Below.refl _ _⟩
  case round =>
    obtain ⟨j, hj, rfl, hown, hbel⟩ := hrel
    by_cases hlt : j < zs.length
    · rcases hv with rfl | ⟨b, off, rfl, hb, hc⟩
      · simp at hlt
      · have hcell : wr.cell? ⟨b, off + j, none⟩ = some (.int .u16 (zs.getD j 0)) := (hbel.cell hb).trans (hc j hlt)
        obtain ⟨hz1, hz2⟩ := hz _ (getD_mem hlt)
        generalize hz0 : zs.getD j 0 = z at hcell hz1 hz2
        have HZ : Hid (zs.getD j 0 = z) := hz0
        have HL : Hid ((forms (zs.take j)).length ≤ 140737488355000) := Nat.le_trans (forms_le zs j) hT
        have HC : Hid (∀ j, j < zs.length → w.cell? ⟨b, off + j, none⟩ = some (.int .u16 (zs.getD j 0))) := hc
        have hsz := hbel.size
        clear hz0 hc hz
        obtain ⟨Z, rfl⟩ : ∃ Z : Nat, z = (Z : Int) := ⟨z.toNat, by omega⟩
        go_wp2_with (go_at_call 49; refine (af_any w.heap.size (forms (zs.take j)) _ Z _ (by omega) hown.out HL.out hsz).mono ?_; rintro e w1 ⟨v', rfl, hown1, hbel1⟩)
        have HO1 : Hid (w1.ownsRow w.heap.size 5 1 v' (forms (zs.take (j + 1))).length (bc (forms (zs.take (j + 1))))) := by unfold Hid; rw [forms_snoc zs j hlt, HZ.out]; exact hown1
        go_roundw
        case rel => exact ⟨j + 1, by omega, by go_num, HO1, hbel.trans hbel1⟩
        case measure => simp [intOf]; omega
    · have e : zs.take j = zs := List.take_of_length_le (by omega)
      have hown2 := hown.out
      rw [e] at hown2
      have hcv := conv_own (forms_byte (fun z h => ⟨(hz z h).1, by have := (hz z h).2; omega⟩)) hown2
      have HB : Hid (Below w.heap.size w wr) := hbel
      clear hz hown hown2 e hv hbel
      go_wp2
      go_ret
      exact ⟨rfl, HB.out⟩
set_option maxHeartbeats 1000000 in
set_option maxRecDepth 20000 in
theorem putId_any (a : Option Addr) (cap : Nat) (zs : List Int) (w : World) (hz : ∀ z ∈ zs, 0 ≤ z ∧ z ≤ 4294967295) (hl : zs.length ≤ 9223372036854775807) (hT : (forms zs).length ≤ 140737488355000) (hv : Vals .u32 w a zs) :
    Calls Try.prog 25 #[.slice a zs.length cap] w fun e w' => e = .returned (.string (bs (forms zs))) ∧ Below w.heap.size w w' := by
  go_enter Try.func25, Try.ntmps25
  go_wp2
  go_loopw [3, 8] (fun o i wr => ∃ j : Nat, j ≤ zs.length ∧ i = .int .i64 j ∧ Hid (wr.ownsRow w.heap.size 5 1 o (forms (zs.take j)).length (bc (forms (zs.take j)))) ∧ Below w.heap.size w wr) (fun _ i _ => zs.length - (intOf i).toNat)
  case atStart => exact ⟨0, by omega, rfl, World.ownsRow_nil _ _ _ _, Below.refl _ _⟩
  case round =>
    obtain ⟨j, hj, rfl, hown, hbel⟩ := hrel
    by_cases hlt : j < zs.length
    · rcases hv with rfl | ⟨b, off, rfl, hb, hc⟩
      · simp at hlt
      · have hcell : wr.cell? ⟨b, off + j, none⟩ = some (.int .u32 (zs.getD j 0)) := (hbel.cell hb).trans (hc j hlt)
        obtain ⟨hz1, hz2⟩ := hz _ (getD_mem hlt)
        generalize hz0 : zs.getD j 0 = z at hcell hz1 hz2
        have HZ : Hid (zs.getD j 0 = z) := hz0
        have HL : Hid ((forms (zs.take j)).length ≤ 140737488355000) := Nat.le_trans (forms_le zs j) hT
        have HC : Hid (∀ j, j < zs.length → w.cell? ⟨b, off + j, none⟩ = some (.int .u32 (zs.getD j 0))) := hc
        have hsz := hbel.size
        clear hz0 hc hz
        obtain ⟨Z, rfl⟩ : ∃ Z : Nat, z = (Z : Int) := ⟨z.toNat, by omega⟩
        go_wp2_with (go_at_call 49; refine (af_any w.heap.size (forms (zs.take j)) _ Z _ (by omega) hown.out HL.out hsz).mono ?_; rintro e w1 ⟨v', rfl, hown1, hbel1⟩)
        have HO1 : Hid (w1.ownsRow w.heap.size 5 1 v' (forms (zs.take (j + 1))).length (bc (forms (zs.take (j + 1))))) := by unfold Hid; rw [forms_snoc zs j hlt, HZ.out]; exact hown1
        go_roundw
        case rel => exact ⟨j + 1, by omega, by go_num, HO1, hbel.trans hbel1⟩
        case measure => simp [intOf]; omega
    · have e : zs.take j = zs := List.take_of_length_le (by omega)
      have hown2 := hown.out
      rw [e] at hown2
      have hcv := conv_own (forms_byte (fun z h => ⟨(hz z h).1, by have := (hz z h).2; omega⟩)) hown2
      have HB : Hid (Below w.heap.size w wr) := hbel
      clear hz hown hown2 e hv hbel
      go_wp2
      go_ret
      exact ⟨rfl, HB.out⟩
set_option maxHeartbeats 1000000 in
set_option maxRecDepth 20000 in
theorem putUint_any (a : Option Addr) (cap : Nat) (zs : List Int) (w : World) (hz : ∀ z ∈ zs, 0 ≤ z ∧ z ≤ 18446744073709551615) (hl : zs.length ≤ 9223372036854775807) (hT : (forms zs).length ≤ 140737488355000) (hv : Vals .u64 w a zs) :
    Calls Try.prog 26 #[.slice a zs.length cap] w fun e w' => e = .returned (.string (bs (forms zs))) ∧ Below w.heap.size w w' := by
  go_enter Try.func26, Try.ntmps26
  go_wp2
  go_loopw [3, 8] (fun o i wr => ∃ j : Nat, j ≤ zs.length ∧ i = .int .i64 j ∧ Hid (wr.ownsRow w.heap.size 5 1 o (forms (zs.take j)).length (bc (forms (zs.take j)))) ∧ Below w.heap.size w wr) (fun _ i _ => zs.length - (intOf i).toNat)
  case atStart => exact ⟨0, by omega, rfl, World.ownsRow_nil _ _ _ _, Below.refl _ _⟩
  case round =>
    obtain ⟨j, hj, rfl, hown, hbel⟩ := hrel
    by_cases hlt : j < zs.length
    · rcases hv with rfl | ⟨b, off, rfl, hb, hc⟩
      · simp at hlt
      · have hcell : wr.cell? ⟨b, off + j, none⟩ = some (.int .u64 (zs.getD j 0)) := (hbel.cell hb).trans (hc j hlt)
        obtain ⟨hz1, hz2⟩ := hz _ (getD_mem hlt)
        generalize hz0 : zs.getD j 0 = z at hcell hz1 hz2
        have HZ : Hid (zs.getD j 0 = z) := hz0
        have HL : Hid ((forms (zs.take j)).length ≤ 140737488355000) := Nat.le_trans (forms_le zs j) hT
        have HC : Hid (∀ j, j < zs.length → w.cell? ⟨b, off + j, none⟩ = some (.int .u64 (zs.getD j 0))) := hc
        have hsz := hbel.size
        clear hz0 hc hz
        obtain ⟨Z, rfl⟩ : ∃ Z : Nat, z = (Z : Int) := ⟨z.toNat, by omega⟩
        go_wp2_with (go_at_call 49; refine (af_any w.heap.size (forms (zs.take j)) _ Z _ (by omega) hown.out HL.out hsz).mono ?_; rintro e w1 ⟨v', rfl, hown1, hbel1⟩)
        have HO1 : Hid (w1.ownsRow w.heap.size 5 1 v' (forms (zs.take (j + 1))).length (bc (forms (zs.take (j + 1))))) := by unfold Hid; rw [forms_snoc zs j hlt, HZ.out]; exact hown1
        go_roundw
        case rel => exact ⟨j + 1, by omega, by go_num, HO1, hbel.trans hbel1⟩
        case measure => simp [intOf]; omega
    · have e : zs.take j = zs := List.take_of_length_le (by omega)
      have hown2 := hown.out
      rw [e] at hown2
      have hcv := conv_own (forms_byte (fun z h => ⟨(hz z h).1, by have := (hz z h).2; omega⟩)) hown2
      have HB : Hid (Below w.heap.size w wr) := hbel
      clear hz hown hown2 e hv hbel
      go_wp2
      go_ret
      exact ⟨rfl, HB.out⟩
set_option maxHeartbeats 1000000 in
set_option maxRecDepth 20000 in
theorem sput_any (a : Option Addr) (cap : Nat) (zs : List Int) (w : World) (hz : ∀ z ∈ zs, -9223372036854775808 ≤ z ∧ z ≤ 9223372036854775807) (hl : zs.length ≤ 9223372036854775807) (hT : (forms (zzs zs)).length ≤ 140737488355000) (hv : Vals .i64 w a zs) :
    Calls Try.prog 14 #[.slice a zs.length cap] w fun e w' => e = .returned (.string (bs (forms (zzs zs)))) ∧ Below w.heap.size w w' := by
  go_enter Try.func14, Try.ntmps14
  go_wp2
  go_loopw [3, 8] (fun o i wr => ∃ j : Nat, j ≤ zs.length ∧ i = .int .i64 j ∧ Hid (wr.ownsRow w.heap.size 5 1 o (forms ((zzs zs).take j)).length (bc (forms ((zzs zs).take j)))) ∧ Below w.heap.size w wr) (fun _ i _ => zs.length - (intOf i).toNat)
  case atStart => exact ⟨0, by omega, rfl, World.ownsRow_nil _ _ _ _, Below.refl _ _⟩
  case round =>
    obtain ⟨j, hj, rfl, hown, hbel⟩ := hrel
    by_cases hlt : j < zs.length
    · rcases hv with rfl | ⟨b, off, rfl, hb, hc⟩
      · simp at hlt
      · have hcell : wr.cell? ⟨b, off + j, none⟩ = some (.int .i64 (zs.getD j 0)) := (hbel.cell hb).trans (hc j hlt)
        obtain ⟨hz1, hz2⟩ := hz _ (getD_mem hlt)
        generalize hz0 : zs.getD j 0 = z at hcell hz1 hz2
        have HZ : Hid (zs.getD j 0 = z) := hz0
        have HL : Hid ((forms ((zzs zs).take j)).length ≤ 140737488355000) := Nat.le_trans (forms_le (zzs zs) j) hT
        have HC : Hid (∀ j, j < zs.length → w.cell? ⟨b, off + j, none⟩ = some (.int .i64 (zs.getD j 0))) := hc
        have hsz := hbel.size
        clear hz0 hc hz
        obtain ⟨hy1, hy2⟩ := M.zz_bd (v := z) (by omega) (by omega)
        generalize hy0 : M.zz z = y at hy1 hy2
        have HY : Hid (M.zz z = y) := hy0
        obtain ⟨Z, rfl⟩ : ∃ Z : Nat, y = (Z : Int) := ⟨y.toNat, by omega⟩
        go_wp2_with (first | (go_at_call 22; refine (zz_any _ _ (by omega) (by omega)).mono ?_; rintro e w' ⟨rfl, rfl⟩) | (go_at_call 49; refine (af_any w.heap.size (forms ((zzs zs).take j)) _ Z _ (by omega) hown.out HL.out hsz).mono ?_; rintro e w1 ⟨v', rfl, hown1, hbel1⟩))
        have HO1 : Hid (w1.ownsRow w.heap.size 5 1 v' (forms ((zzs zs).take (j + 1))).length (bc (forms ((zzs zs).take (j + 1))))) := by unfold Hid; rw [forms_snoc (zzs zs) j (by rw [zzs_len]; exact hlt), zzs_getD hlt, HZ.out, HY.out]; exact hown1
        go_roundw
        case rel => exact ⟨j + 1, by omega, by go_num, HO1, hbel.trans hbel1⟩
        case measure => simp [intOf]; omega
    · have e : (zzs zs).take j = zzs zs := List.take_of_length_le (by rw [zzs_len]; omega)
      have hown2 := hown.out
      rw [e] at hown2
      have hcv := conv_own (forms_byte (zzs_bd (fun z h => ⟨by have := (hz z h).1; omega, by have := (hz z h).2; omega⟩))) hown2
      have HB : Hid (Below w.heap.size w wr) := hbel
      clear hz hown hown2 e hv hbel
      go_wp2
      go_ret
      exact ⟨rfl, HB.out⟩
set_option maxHeartbeats 1000000 in
set_option maxRecDepth 20000 in
theorem sput8_any (a : Option Addr) (cap : Nat) (zs : List Int) (w : World) (hz : ∀ z ∈ zs, -128 ≤ z ∧ z ≤ 127) (hl : zs.length ≤ 9223372036854775807) (hT : (forms (zzs zs)).length ≤ 140737488355000) (hv : Vals .i8 w a zs) :
    Calls Try.prog 28 #[.slice a zs.length cap] w fun e w' => e = .returned (.string (bs (forms (zzs zs)))) ∧ Below w.heap.size w w' := by
  go_enter Try.func28, Try.ntmps28
  go_wp2
  go_loopw [3, 8] (fun o i wr => ∃ j : Nat, j ≤ zs.length ∧ i = .int .i64 j ∧ Hid (wr.ownsRow w.heap.size 5 1 o (forms ((zzs zs).take j)).length (bc (forms ((zzs zs).take j)))) ∧ Below w.heap.size w wr) (fun _ i _ => zs.length - (intOf i).toNat)
  case atStart => exact ⟨0, by omega, rfl, World.ownsRow_nil _ _ _ _, Below.refl _ _⟩
  case round =>
    obtain ⟨j, hj, rfl, hown, hbel⟩ := hrel
    by_cases hlt : j < zs.length
    · rcases hv with rfl | ⟨b, off, rfl, hb, hc⟩
      · simp at hlt
      · have hcell : wr.cell? ⟨b, off + j, none⟩ = some (.int .i8 (zs.getD j 0)) := (hbel.cell hb).trans (hc j hlt)
        obtain ⟨hz1, hz2⟩ := hz _ (getD_mem hlt)
        generalize hz0 : zs.getD j 0 = z at hcell hz1 hz2
        have HZ : Hid (zs.getD j 0 = z) := hz0
        have HL : Hid ((forms ((zzs zs).take j)).length ≤ 140737488355000) := Nat.le_trans (forms_le (zzs zs) j) hT
        have HC : Hid (∀ j, j < zs.length → w.cell? ⟨b, off + j, none⟩ = some (.int .i8 (zs.getD j 0))) := hc
        have hsz := hbel.size
        clear hz0 hc hz
        obtain ⟨hy1, hy2⟩ := M.zz_bd (v := z) (by omega) (by omega)
        generalize hy0 : M.zz z = y at hy1 hy2
        have HY : Hid (M.zz z = y) := hy0
        obtain ⟨Z, rfl⟩ : ∃ Z : Nat, y = (Z : Int) := ⟨y.toNat, by omega⟩
        go_wp2_with (first | (go_at_call 22; refine (zz_any _ _ (by omega) (by omega)).mono ?_; rintro e w' ⟨rfl, rfl⟩) | (go_at_call 49; refine (af_any w.heap.size (forms ((zzs zs).take j)) _ Z _ (by omega) hown.out HL.out hsz).mono ?_; rintro e w1 ⟨v', rfl, hown1, hbel1⟩))
        have HO1 : Hid (w1.ownsRow w.heap.size 5 1 v' (forms ((zzs zs).take (j + 1))).length (bc (forms ((zzs zs).take (j + 1))))) := by unfold Hid; rw [forms_snoc (zzs zs) j (by rw [zzs_len]; exact hlt), zzs_getD hlt, HZ.out, HY.out]; exact hown1
        go_roundw
        case rel => exact ⟨j + 1, by omega, by go_num, HO1, hbel.trans hbel1⟩
        case measure => simp [intOf]; omega
    · have e : (zzs zs).take j = zzs zs := List.take_of_length_le (by rw [zzs_len]; omega)
      have hown2 := hown.out
      rw [e] at hown2
      have hcv := conv_own (forms_byte (zzs_bd (fun z h => ⟨by have := (hz z h).1; omega, by have := (hz z h).2; omega⟩))) hown2
      have HB : Hid (Below w.heap.size w wr) := hbel
      clear hz hown hown2 e hv hbel
      go_wp2
      go_ret
      exact ⟨rfl, HB.out⟩
set_option maxHeartbeats 1000000 in
set_option maxRecDepth 20000 in
theorem sput16_any (a : Option Addr) (cap : Nat) (zs : List Int) (w : World) (hz : ∀ z ∈ zs, -32768 ≤ z ∧ z ≤ 32767) (hl : zs.length ≤ 9223372036854775807) (hT : (forms (zzs zs)).length ≤ 140737488355000) (hv : Vals .i16 w a zs) :
    Calls Try.prog 29 #[.slice a zs.length cap] w fun e w' => e = .returned (.string (bs (forms (zzs zs)))) ∧ Below w.heap.size w w' := by
  go_enter Try.func29, Try.ntmps29
  go_wp2
  go_loopw [3, 8] (fun o i wr => ∃ j : Nat, j ≤ zs.length ∧ i = .int .i64 j ∧ Hid (wr.ownsRow w.heap.size 5 1 o (forms ((zzs zs).take j)).length (bc (forms ((zzs zs).take j)))) ∧ Below w.heap.size w wr) (fun _ i _ => zs.length - (intOf i).toNat)
  case atStart => exact ⟨0, by omega, rfl, World.ownsRow_nil _ _ _ _, Below.refl _ _⟩
  case round =>
    obtain ⟨j, hj, rfl, hown, hbel⟩ := hrel
    by_cases hlt : j < zs.length
    · rcases hv with rfl | ⟨b, off, rfl, hb, hc⟩
      · simp at hlt
      · have hcell : wr.cell? ⟨b, off + j, none⟩ = some (.int .i16 (zs.getD j 0)) := (hbel.cell hb).trans (hc j hlt)
        obtain ⟨hz1, hz2⟩ := hz _ (getD_mem hlt)
        generalize hz0 : zs.getD j 0 = z at hcell hz1 hz2
        have HZ : Hid (zs.getD j 0 = z) := hz0
        have HL : Hid ((forms ((zzs zs).take j)).length ≤ 140737488355000) := Nat.le_trans (forms_le (zzs zs) j) hT
        have HC : Hid (∀ j, j < zs.length → w.cell? ⟨b, off + j, none⟩ = some (.int .i16 (zs.getD j 0))) := hc
        have hsz := hbel.size
        clear hz0 hc hz
        obtain ⟨hy1, hy2⟩ := M.zz_bd (v := z) (by omega) (by omega)
        generalize hy0 : M.zz z = y at hy1 hy2
        have HY : Hid (M.zz z = y) := hy0
        obtain ⟨Z, rfl⟩ : ∃ Z : Nat, y = (Z : Int) := ⟨y.toNat, by omega⟩
        go_wp2_with (first | (go_at_call 22; refine (zz_any _ _ (by omega) (by omega)).mono ?_; rintro e w' ⟨rfl, rfl⟩) | (go_at_call 49; refine (af_any w.heap.size (forms ((zzs zs).take j)) _ Z _ (by omega) hown.out HL.out hsz).mono ?_; rintro e w1 ⟨v', rfl, hown1, hbel1⟩))
        have HO1 : Hid (w1.ownsRow w.heap.size 5 1 v' (forms ((zzs zs).take (j + 1))).length (bc (forms ((zzs zs).take (j + 1))))) := by unfold Hid; rw [forms_snoc (zzs zs) j (by rw [zzs_len]; exact hlt), zzs_getD hlt, HZ.out, HY.out]; exact hown1
        go_roundw
        case rel => exact ⟨j + 1, by omega, by go_num, HO1, hbel.trans hbel1⟩
        case measure => simp [intOf]; omega
    · have e : (zzs zs).take j = zzs zs := List.take_of_length_le (by rw [zzs_len]; omega)
      have hown2 := hown.out
      rw [e] at hown2
      have hcv := conv_own (forms_byte (zzs_bd (fun z h => ⟨by have := (hz z h).1; omega, by have := (hz z h).2; omega⟩))) hown2
      have HB : Hid (Below w.heap.size w wr) := hbel
      clear hz hown hown2 e hv hbel
      go_wp2
      go_ret
      exact ⟨rfl, HB.out⟩
set_option maxHeartbeats 1000000 in
set_option maxRecDepth 20000 in
theorem sput32_any (a : Option Addr) (cap : Nat) (zs : List Int) (w : World) (hz : ∀ z ∈ zs, -2147483648 ≤ z ∧ z ≤ 2147483647) (hl : zs.length ≤ 9223372036854775807) (hT : (forms (zzs zs)).length ≤ 140737488355000) (hv : Vals .i32 w a zs) :
    Calls Try.prog 30 #[.slice a zs.length cap] w fun e w' => e = .returned (.string (bs (forms (zzs zs)))) ∧ Below w.heap.size w w' := by
  go_enter Try.func30, Try.ntmps30
  go_wp2
  go_loopw [3, 8] (fun o i wr => ∃ j : Nat, j ≤ zs.length ∧ i = .int .i64 j ∧ Hid (wr.ownsRow w.heap.size 5 1 o (forms ((zzs zs).take j)).length (bc (forms ((zzs zs).take j)))) ∧ Below w.heap.size w wr) (fun _ i _ => zs.length - (intOf i).toNat)
  case atStart => exact ⟨0, by omega, rfl, World.ownsRow_nil _ _ _ _, Below.refl _ _⟩
  case round =>
    obtain ⟨j, hj, rfl, hown, hbel⟩ := hrel
    by_cases hlt : j < zs.length
    · rcases hv with rfl | ⟨b, off, rfl, hb, hc⟩
      · simp at hlt
      · have hcell : wr.cell? ⟨b, off + j, none⟩ = some (.int .i32 (zs.getD j 0)) := (hbel.cell hb).trans (hc j hlt)
        obtain ⟨hz1, hz2⟩ := hz _ (getD_mem hlt)
        generalize hz0 : zs.getD j 0 = z at hcell hz1 hz2
        have HZ : Hid (zs.getD j 0 = z) := hz0
        have HL : Hid ((forms ((zzs zs).take j)).length ≤ 140737488355000) := Nat.le_trans (forms_le (zzs zs) j) hT
        have HC : Hid (∀ j, j < zs.length → w.cell? ⟨b, off + j, none⟩ = some (.int .i32 (zs.getD j 0))) := hc
        have hsz := hbel.size
        clear hz0 hc hz
        obtain ⟨hy1, hy2⟩ := M.zz_bd (v := z) (by omega) (by omega)
        generalize hy0 : M.zz z = y at hy1 hy2
        have HY : Hid (M.zz z = y) := hy0
        obtain ⟨Z, rfl⟩ : ∃ Z : Nat, y = (Z : Int) := ⟨y.toNat, by omega⟩
        go_wp2_with (first | (go_at_call 22; refine (zz_any _ _ (by omega) (by omega)).mono ?_; rintro e w' ⟨rfl, rfl⟩) | (go_at_call 49; refine (af_any w.heap.size (forms ((zzs zs).take j)) _ Z _ (by omega) hown.out HL.out hsz).mono ?_; rintro e w1 ⟨v', rfl, hown1, hbel1⟩))
        have HO1 : Hid (w1.ownsRow w.heap.size 5 1 v' (forms ((zzs zs).take (j + 1))).length (bc (forms ((zzs zs).take (j + 1))))) := by unfold Hid; rw [forms_snoc (zzs zs) j (by rw [zzs_len]; exact hlt), zzs_getD hlt, HZ.out, HY.out]; exact hown1
        go_roundw
        case rel => exact ⟨j + 1, by omega, by go_num, HO1, hbel.trans hbel1⟩
        case measure => simp [intOf]; omega
    · have e : (zzs zs).take j = zzs zs := List.take_of_length_le (by rw [zzs_len]; omega)
      have hown2 := hown.out
      rw [e] at hown2
      have hcv := conv_own (forms_byte (zzs_bd (fun z h => ⟨by have := (hz z h).1; omega, by have := (hz z h).2; omega⟩))) hown2
      have HB : Hid (Below w.heap.size w wr) := hbel
      clear hz hown hown2 e hv hbel
      go_wp2
      go_ret
      exact ⟨rfl, HB.out⟩
set_option maxHeartbeats 1000000 in
set_option maxRecDepth 20000 in
theorem sputInt_any (a : Option Addr) (cap : Nat) (zs : List Int) (w : World) (hz : ∀ z ∈ zs, -9223372036854775808 ≤ z ∧ z ≤ 9223372036854775807) (hl : zs.length ≤ 9223372036854775807) (hT : (forms (zzs zs)).length ≤ 140737488355000) (hv : Vals .i64 w a zs) :
    Calls Try.prog 31 #[.slice a zs.length cap] w fun e w' => e = .returned (.string (bs (forms (zzs zs)))) ∧ Below w.heap.size w w' := by
  go_enter Try.func31, Try.ntmps31
  go_wp2
  go_loopw [3, 8] (fun o i wr => ∃ j : Nat, j ≤ zs.length ∧ i = .int .i64 j ∧ Hid (wr.ownsRow w.heap.size 5 1 o (forms ((zzs zs).take j)).length (bc (forms ((zzs zs).take j)))) ∧ Below w.heap.size w wr) (fun _ i _ => zs.length - (intOf i).toNat)
  case atStart => exact ⟨0, by omega, rfl, World.ownsRow_nil _ _ _ _, Below.refl _ _⟩
  case round =>
    obtain ⟨j, hj, rfl, hown, hbel⟩ := hrel
    by_cases hlt : j < zs.length
    · rcases hv with rfl | ⟨b, off, rfl, hb, hc⟩
      · simp at hlt
      · have hcell : wr.cell? ⟨b, off + j, none⟩ = some (.int .i64 (zs.getD j 0)) := (hbel.cell hb).trans (hc j hlt)
        obtain ⟨hz1, hz2⟩ := hz _ (getD_mem hlt)
        generalize hz0 : zs.getD j 0 = z at hcell hz1 hz2
        have HZ : Hid (zs.getD j 0 = z) := hz0
        have HL : Hid ((forms ((zzs zs).take j)).length ≤ 140737488355000) := Nat.le_trans (forms_le (zzs zs) j) hT
        have HC : Hid (∀ j, j < zs.length → w.cell? ⟨b, off + j, none⟩ = some (.int .i64 (zs.getD j 0))) := hc
        have hsz := hbel.size
        clear hz0 hc hz
        obtain ⟨hy1, hy2⟩ := M.zz_bd (v := z) (by omega) (by omega)
        generalize hy0 : M.zz z = y at hy1 hy2
        have HY : Hid (M.zz z = y) := hy0
        obtain ⟨Z, rfl⟩ : ∃ Z : Nat, y = (Z : Int) := ⟨y.toNat, by omega⟩
        go_wp2_with (first | (go_at_call 22; refine (zz_any _ _ (by omega) (by omega)).mono ?_; rintro e w' ⟨rfl, rfl⟩) | (go_at_call 49; refine (af_any w.heap.size (forms ((zzs zs).take j)) _ Z _ (by omega) hown.out HL.out hsz).mono ?_; rintro e w1 ⟨v', rfl, hown1, hbel1⟩))
        have HO1 : Hid (w1.ownsRow w.heap.size 5 1 v' (forms ((zzs zs).take (j + 1))).length (bc (forms ((zzs zs).take (j + 1))))) := by unfold Hid; rw [forms_snoc (zzs zs) j (by rw [zzs_len]; exact hlt), zzs_getD hlt, HZ.out, HY.out]; exact hown1
        go_roundw
        case rel => exact ⟨j + 1, by omega, by go_num, HO1, hbel.trans hbel1⟩
        case measure => simp [intOf]; omega
    · have e : (zzs zs).take j = zzs zs := List.take_of_length_le (by rw [zzs_len]; omega)
      have hown2 := hown.out
      rw [e] at hown2
      have hcv := conv_own (forms_byte (zzs_bd (fun z h => ⟨by have := (hz z h).1; omega, by have := (hz z h).2; omega⟩))) hown2
      have HB : Hid (Below w.heap.size w wr) := hbel
      clear hz hown hown2 e hv hbel
      go_wp2
      go_ret
      exact ⟨rfl, HB.out⟩
end Go.Proofs.Ytkaoipckjilnbaa
