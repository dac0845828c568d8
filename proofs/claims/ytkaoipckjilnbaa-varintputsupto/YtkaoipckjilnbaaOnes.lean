/- Put and PutSigned of one value, at each kind: its form; nothing that was there before is turned. -/
import Derived.Test.YtkaoipckjilnbaaFixed
namespace Go.Proofs.Ytkaoipckjilnbaa
open Go.RowKit
theorem vals_one (k : IntKind) (z : Int) (T : TypeId) (w : World) : Vals k (w.alloc (.cells #[.int k z] T)) (some ⟨w.heap.size, 0, none⟩) [z] :=
  Or.inr ⟨w.heap.size, 0, rfl, by simp, fun j hj => by
    match j, hj with
    | 0, _ => simp⟩
theorem forms_one (z : Int) : forms [z] = M.form z.toNat := by simp [forms]
theorem since_alloc {w0 w w' : World} {o : Obj} (hb : Below w0.heap.size w0 w) (h : Below (w.alloc o).heap.size (w.alloc o) w') : Below w0.heap.size w0 w' := by
  have hs := hb.size
  exact (hb.alloc hs o).trans (h.mono (by simp; omega))
theorem put1 (z : Int) (w0 w : World) (h0 : 0 ≤ z) (h1 : z ≤ 18446744073709551615) (hb : Below w0.heap.size w0 w) :
    Calls Try.prog 12 #[.slice (some ⟨w.heap.size, 0, none⟩) 1 1] (w.alloc (.cells #[.int .u64 z] 29)) fun e w' => e = .returned (.string (bs (M.form z.toNat))) ∧ Below w0.heap.size w0 w' := by
  have h := put_any (some ⟨w.heap.size, 0, none⟩) 1 [z] (w.alloc (.cells #[.int .u64 z] 29)) (by intro y hy; rw [List.mem_singleton] at hy; subst hy; exact ⟨h0, h1⟩) (by simp) (by rw [forms_one]; have := M.form_le z.toNat; omega) (vals_one .u64 z 29 w)
  rw [forms_one] at h
  exact h.mono fun e w' ⟨h1, h2⟩ => ⟨h1, since_alloc hb h2⟩
theorem put81 (z : Int) (w0 w : World) (h0 : 0 ≤ z) (h1 : z ≤ 255) (hb : Below w0.heap.size w0 w) :
    Calls Try.prog 16 #[.slice (some ⟨w.heap.size, 0, none⟩) 1 1] (w.alloc (.cells #[.int .u8 z] 5)) fun e w' => e = .returned (.string (bs (M.form z.toNat))) ∧ Below w0.heap.size w0 w' := by
  have h := put8_any (some ⟨w.heap.size, 0, none⟩) 1 [z] (w.alloc (.cells #[.int .u8 z] 5)) (by intro y hy; rw [List.mem_singleton] at hy; subst hy; exact ⟨h0, h1⟩) (by simp) (by rw [forms_one]; have := M.form_le z.toNat; omega) (vals_one .u8 z 5 w)
  rw [forms_one] at h
  exact h.mono fun e w' ⟨h1, h2⟩ => ⟨h1, since_alloc hb h2⟩
theorem put161 (z : Int) (w0 w : World) (h0 : 0 ≤ z) (h1 : z ≤ 65535) (hb : Below w0.heap.size w0 w) :
    Calls Try.prog 24 #[.slice (some ⟨w.heap.size, 0, none⟩) 1 1] (w.alloc (.cells #[.int .u16 z] 40)) fun e w' => e = .returned (.string (bs (M.form z.toNat))) ∧ Below w0.heap.size w0 w' := by
  have h := put16_any (some ⟨w.heap.size, 0, none⟩) 1 [z] (w.alloc (.cells #[.int .u16 z] 40)) (by intro y hy; rw [List.mem_singleton] at hy; subst hy; exact ⟨h0, h1⟩) (by simp) (by rw [forms_one]; have := M.form_le z.toNat; omega) (vals_one .u16 z 40 w)
  rw [forms_one] at h
  exact h.mono fun e w' ⟨h1, h2⟩ => ⟨h1, since_alloc hb h2⟩
theorem putId1 (z : Int) (w0 w : World) (h0 : 0 ≤ z) (h1 : z ≤ 4294967295) (hb : Below w0.heap.size w0 w) :
    Calls Try.prog 25 #[.slice (some ⟨w.heap.size, 0, none⟩) 1 1] (w.alloc (.cells #[.int .u32 z] 43)) fun e w' => e = .returned (.string (bs (M.form z.toNat))) ∧ Below w0.heap.size w0 w' := by
  have h := putId_any (some ⟨w.heap.size, 0, none⟩) 1 [z] (w.alloc (.cells #[.int .u32 z] 43)) (by intro y hy; rw [List.mem_singleton] at hy; subst hy; exact ⟨h0, h1⟩) (by simp) (by rw [forms_one]; have := M.form_le z.toNat; omega) (vals_one .u32 z 43 w)
  rw [forms_one] at h
  exact h.mono fun e w' ⟨h1, h2⟩ => ⟨h1, since_alloc hb h2⟩
theorem putUint1 (z : Int) (w0 w : World) (h0 : 0 ≤ z) (h1 : z ≤ 18446744073709551615) (hb : Below w0.heap.size w0 w) :
    Calls Try.prog 26 #[.slice (some ⟨w.heap.size, 0, none⟩) 1 1] (w.alloc (.cells #[.int .u64 z] 45)) fun e w' => e = .returned (.string (bs (M.form z.toNat))) ∧ Below w0.heap.size w0 w' := by
  have h := putUint_any (some ⟨w.heap.size, 0, none⟩) 1 [z] (w.alloc (.cells #[.int .u64 z] 45)) (by intro y hy; rw [List.mem_singleton] at hy; subst hy; exact ⟨h0, h1⟩) (by simp) (by rw [forms_one]; have := M.form_le z.toNat; omega) (vals_one .u64 z 45 w)
  rw [forms_one] at h
  exact h.mono fun e w' ⟨h1, h2⟩ => ⟨h1, since_alloc hb h2⟩
theorem sput1 (z : Int) (w0 w : World) (h0 : -9223372036854775808 ≤ z) (h1 : z ≤ 9223372036854775807) (hb : Below w0.heap.size w0 w) :
    Calls Try.prog 14 #[.slice (some ⟨w.heap.size, 0, none⟩) 1 1] (w.alloc (.cells #[.int .i64 z] 2)) fun e w' => e = .returned (.string (bs (M.form (M.zz z).toNat))) ∧ Below w0.heap.size w0 w' := by
  have h := sput_any (some ⟨w.heap.size, 0, none⟩) 1 [z] (w.alloc (.cells #[.int .i64 z] 2)) (by intro y hy; rw [List.mem_singleton] at hy; subst hy; exact ⟨h0, h1⟩) (by simp) (by rw [show zzs [z] = [M.zz z] from rfl, forms_one]; have := M.form_le (M.zz z).toNat; omega) (vals_one .i64 z 2 w)
  rw [show zzs [z] = [M.zz z] from rfl, forms_one] at h
  exact h.mono fun e w' ⟨h1, h2⟩ => ⟨h1, since_alloc hb h2⟩
theorem sput81 (z : Int) (w0 w : World) (h0 : -128 ≤ z) (h1 : z ≤ 127) (hb : Below w0.heap.size w0 w) :
    Calls Try.prog 28 #[.slice (some ⟨w.heap.size, 0, none⟩) 1 1] (w.alloc (.cells #[.int .i8 z] 49)) fun e w' => e = .returned (.string (bs (M.form (M.zz z).toNat))) ∧ Below w0.heap.size w0 w' := by
  have h := sput8_any (some ⟨w.heap.size, 0, none⟩) 1 [z] (w.alloc (.cells #[.int .i8 z] 49)) (by intro y hy; rw [List.mem_singleton] at hy; subst hy; exact ⟨h0, h1⟩) (by simp) (by rw [show zzs [z] = [M.zz z] from rfl, forms_one]; have := M.form_le (M.zz z).toNat; omega) (vals_one .i8 z 49 w)
  rw [show zzs [z] = [M.zz z] from rfl, forms_one] at h
  exact h.mono fun e w' ⟨h1, h2⟩ => ⟨h1, since_alloc hb h2⟩
theorem sput161 (z : Int) (w0 w : World) (h0 : -32768 ≤ z) (h1 : z ≤ 32767) (hb : Below w0.heap.size w0 w) :
    Calls Try.prog 29 #[.slice (some ⟨w.heap.size, 0, none⟩) 1 1] (w.alloc (.cells #[.int .i16 z] 51)) fun e w' => e = .returned (.string (bs (M.form (M.zz z).toNat))) ∧ Below w0.heap.size w0 w' := by
  have h := sput16_any (some ⟨w.heap.size, 0, none⟩) 1 [z] (w.alloc (.cells #[.int .i16 z] 51)) (by intro y hy; rw [List.mem_singleton] at hy; subst hy; exact ⟨h0, h1⟩) (by simp) (by rw [show zzs [z] = [M.zz z] from rfl, forms_one]; have := M.form_le (M.zz z).toNat; omega) (vals_one .i16 z 51 w)
  rw [show zzs [z] = [M.zz z] from rfl, forms_one] at h
  exact h.mono fun e w' ⟨h1, h2⟩ => ⟨h1, since_alloc hb h2⟩
theorem sput321 (z : Int) (w0 w : World) (h0 : -2147483648 ≤ z) (h1 : z ≤ 2147483647) (hb : Below w0.heap.size w0 w) :
    Calls Try.prog 30 #[.slice (some ⟨w.heap.size, 0, none⟩) 1 1] (w.alloc (.cells #[.int .i32 z] 21)) fun e w' => e = .returned (.string (bs (M.form (M.zz z).toNat))) ∧ Below w0.heap.size w0 w' := by
  have h := sput32_any (some ⟨w.heap.size, 0, none⟩) 1 [z] (w.alloc (.cells #[.int .i32 z] 21)) (by intro y hy; rw [List.mem_singleton] at hy; subst hy; exact ⟨h0, h1⟩) (by simp) (by rw [show zzs [z] = [M.zz z] from rfl, forms_one]; have := M.form_le (M.zz z).toNat; omega) (vals_one .i32 z 21 w)
  rw [show zzs [z] = [M.zz z] from rfl, forms_one] at h
  exact h.mono fun e w' ⟨h1, h2⟩ => ⟨h1, since_alloc hb h2⟩
theorem sputInt1 (z : Int) (w0 w : World) (h0 : -9223372036854775808 ≤ z) (h1 : z ≤ 9223372036854775807) (hb : Below w0.heap.size w0 w) :
    Calls Try.prog 31 #[.slice (some ⟨w.heap.size, 0, none⟩) 1 1] (w.alloc (.cells #[.int .i64 z] 3)) fun e w' => e = .returned (.string (bs (M.form (M.zz z).toNat))) ∧ Below w0.heap.size w0 w' := by
  have h := sputInt_any (some ⟨w.heap.size, 0, none⟩) 1 [z] (w.alloc (.cells #[.int .i64 z] 3)) (by intro y hy; rw [List.mem_singleton] at hy; subst hy; exact ⟨h0, h1⟩) (by simp) (by rw [show zzs [z] = [M.zz z] from rfl, forms_one]; have := M.form_le (M.zz z).toNat; omega) (vals_one .i64 z 3 w)
  rw [show zzs [z] = [M.zz z] from rfl, forms_one] at h
  exact h.mono fun e w' ⟨h1, h2⟩ => ⟨h1, since_alloc hb h2⟩
end Go.Proofs.Ytkaoipckjilnbaa
