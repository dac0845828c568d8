/- Texts of the proof, put together: SamG, SG4, SG1, SG5, SGA. -/
import Derived.Test.YtihokphamgkkcaaGreatMR
import Derived.Deep.RegionHeld3
namespace Go.Proofs.YtihokphamgkkcaaGreat
open Go.RowKit
theorem bl_ne {d d' : ByteArray} (h : d ≠ d') : ¬ d.toList = d'.toList := fun e => h (ByteArray.ext (Array.toList_inj.1 (by rw [← ByteArray.toList_eq, ← ByteArray.toList_eq]; exact e)))
set_option maxRecDepth 20000 in
theorem neq_opt_ne {b b' : Bool} {d d' : ByteArray} (h : ¬ (b = b' ∧ d = d')) (w : World) : (binOp .neq 46 (.agg #[.bool b, .string d]) (.agg #[.bool b', .string d'])).run Tryz.prog w = .ok (.bool true) w := by
  rw [run_neq_struct, run_equalIn_agg w 9999 _ _ _ Tryz.optStruct Tryz.optHeld]
  have hf : (Tryz.prog.fieldsOf 46) = (match Tryz.prog.underlying 46 with | some (.struct fs) => fs | _ => #[]) := rfl
  rw [hf, Tryz.underlying46]
  by_cases hb : b = b'
  · have hd := bl_ne (fun e : d = d' => h ⟨hb, e⟩)
    simp [go_sem, Op.eqFields, Tryz.underlying9, Tryz.underlying4, hb, hd]
  · simp [go_sem, Op.eqFields, Tryz.underlying9, Tryz.underlying4, hb]
set_option maxRecDepth 20000 in
theorem neq_hdr_ne {k k' : ByteArray} {b b' : Bool} {d d' : ByteArray} (h : ¬ (k = k' ∧ b = b' ∧ d = d')) (w : World) : (binOp .neq 51 (.agg #[.string k, .bool b, .string d]) (.agg #[.string k', .bool b', .string d'])).run Tryz.prog w = .ok (.bool true) w := by
  rw [run_neq_struct, run_equalIn_agg w 9999 _ _ _ Tryz.hdrStruct Tryz.hdrHeld]
  have hf : (Tryz.prog.fieldsOf 51) = (match Tryz.prog.underlying 51 with | some (.struct fs) => fs | _ => #[]) := rfl
  rw [hf, Tryz.underlying51]
  by_cases hk : k = k'
  · by_cases hb : b = b'
    · have hd := bl_ne (fun e : d = d' => h ⟨hk, hb, e⟩)
      simp [go_sem, Op.eqFields, Tryz.underlying9, Tryz.underlying4, Tryz.underlying46, hk, hb, hd]
    · simp [go_sem, Op.eqFields, Tryz.underlying9, Tryz.underlying4, Tryz.underlying46, hk, hb]
  · have hk' := bl_ne hk
    simp [go_sem, Op.eqFields, Tryz.underlying9, Tryz.underlying4, Tryz.underlying46, hk']
end Go.Proofs.YtihokphamgkkcaaGreat
namespace Go.Proofs.YtihokphamgkkcaaGreat
open Go.RowKit
set_option maxHeartbeats 800000 in
set_option maxRecDepth 20000 in
theorem same_no4 (t : Int) (kh vh : Bool) (n1 n2 : Nat) (kd kd2 vd vd2 : ByteArray) (a1 a2 : Option Addr) (cap1 cap2 : Nat) (w : World) (hk : bd kh kd = bd kh kd2) (hv : bd vh vd = bd vh vd2) (h : n1 ≠ n2) :
    Calls Tryz.prog 43 #[.agg #[.int .i64 t, .bool kh, .string kd, .bool vh, .string vd, .slice a1 n1 cap1], .agg #[.int .i64 t, .bool kh, .string kd2, .bool vh, .string vd2, .slice a2 n2 cap2]] w fun e w' => e = .returned (.bool false) ∧ Below w.heap.size w w' := by
  have g1 := fun x y w => run_eqGuard_agg (P := Tryz.prog) w BinOp.neq 46 x y #[.bool kh, .string (bd kh kd)] #[.bool kh, .string (bd kh kd2)] Tryz.optGuard
  have g2 := fun x y w => run_eqGuard_agg (P := Tryz.prog) w BinOp.neq 46 x y #[.bool vh, .string (bd vh vd)] #[.bool vh, .string (bd vh vd2)] Tryz.optGuard
  have m1 := (fun w => by rw [hk]; exact neq_opt _ _ w : ∀ w, (binOp .neq 46 (.agg #[.bool kh, .string (bd kh kd)]) (.agg #[.bool kh, .string (bd kh kd2)])).run Tryz.prog w = .ok (.bool false) w)
  have m2 := (fun w => by rw [hv]; exact neq_opt _ _ w : ∀ w, (binOp .neq 46 (.agg #[.bool vh, .string (bd vh vd)]) (.agg #[.bool vh, .string (bd vh vd2)])).run Tryz.prog w = .ok (.bool false) w)
  have e4 : ((n1 : Int) != (n2 : Int)) = true := by rw [bne_iff_ne]; omega
  clear hk hv
  go_enter Tryz.func43, Tryz.ntmps43
  go_wp2_with fail
  have h1 : ((w.alloc (.cells #[.int .i64 t, .bool kh, .string kd, .bool vh, .string vd, .slice a1 n1 cap1] 49)).alloc (.cells #[.int .i64 t, .bool kh, .string kd2, .bool vh, .string vd2, .slice a2 n2 cap2] 49)).heap[w.heap.size]? = some (.cells #[.int .i64 t, .bool kh, .string kd, .bool vh, .string vd, .slice a1 n1 cap1] 49 (0, 0)) := heap_alloc_at (heap_new _ _)
  have h2 : ((w.alloc (.cells #[.int .i64 t, .bool kh, .string kd, .bool vh, .string vd, .slice a1 n1 cap1] 49)).alloc (.cells #[.int .i64 t, .bool kh, .string kd2, .bool vh, .string vd2, .slice a2 n2 cap2] 49)).heap[w.heap.size + 1]? = some (.cells #[.int .i64 t, .bool kh, .string kd2, .bool vh, .string vd2, .slice a2 n2 cap2] 49 (0, 0)) := heap_new' _ _ _ (by simp)
  have hb1 : Below w.heap.size w ((w.alloc (.cells #[.int .i64 t, .bool kh, .string kd, .bool vh, .string vd, .slice a1 n1 cap1] 49)).alloc (.cells #[.int .i64 t, .bool kh, .string kd2, .bool vh, .string vd2, .slice a2 n2 cap2] 49)) := ((Below.refl _ w).alloc (Nat.le_refl _) _).alloc (by simp) _
  have hs1 : ((w.alloc (.cells #[.int .i64 t, .bool kh, .string kd, .bool vh, .string vd, .slice a1 n1 cap1] 49)).alloc (.cells #[.int .i64 t, .bool kh, .string kd2, .bool vh, .string vd2, .slice a2 n2 cap2] 49)).heap.size = w.heap.size + 2 := by simp
  generalize ((w.alloc (.cells #[.int .i64 t, .bool kh, .string kd, .bool vh, .string vd, .slice a1 n1 cap1] 49)).alloc (.cells #[.int .i64 t, .bool kh, .string kd2, .bool vh, .string vd2, .slice a2 n2 cap2] 49)) = W2 at *
  have hB : w.heap.size + 2 ≤ W2.heap.size := by omega
  have HB1 := hid hb1
  have h0 : Below (w.heap.size + 2) W2 W2 := Below.refl _ _
  have H1 := hid h1
  have H2 := hid h2
  have y1 : w.heap.size < w.heap.size + 2 := by omega
  have y2 : w.heap.size + 1 < w.heap.size + 2 := by omega
  clear h1 h2 hb1
  go_region_held3 (fun x => ((x.cell? ⟨w.heap.size, 0, none⟩ = some (.int .i64 t) ∧ x.cell? ⟨w.heap.size, 1, none⟩ = some (.bool kh) ∧ x.cell? ⟨w.heap.size, 2, none⟩ = some (.string kd) ∧ x.cell? ⟨w.heap.size, 3, none⟩ = some (.bool vh) ∧ x.cell? ⟨w.heap.size, 4, none⟩ = some (.string vd) ∧ x.cell? ⟨w.heap.size, 5, none⟩ = some (.slice a1 n1 cap1)) ∧ (x.cell? ⟨w.heap.size + 1, 0, none⟩ = some (.int .i64 t) ∧ x.cell? ⟨w.heap.size + 1, 1, none⟩ = some (.bool kh) ∧ x.cell? ⟨w.heap.size + 1, 2, none⟩ = some (.string kd2) ∧ x.cell? ⟨w.heap.size + 1, 3, none⟩ = some (.bool vh) ∧ x.cell? ⟨w.heap.size + 1, 4, none⟩ = some (.string vd2) ∧ x.cell? ⟨w.heap.size + 1, 5, none⟩ = some (.slice a2 n2 cap2))) ∧ Below (w.heap.size + 2) W2 x) (first | with_reducible exact held12 H1.out H2.out y1 y2 (by assumption) | with_reducible exact held12 H1.out H2.out y1 y2 (Below.drew (by assumption))) (first | (go_at_call 80; refine (bareB _ _ (w.heap.size + 2) W2 _ hB ?_).mono ?_; (first | assumption | exact Below.drew (by assumption)); rintro e w' ⟨rfl, hbel⟩))
  all_goals
    rename_i hHeld
    have HF := hid (HB1.out.trans (hHeld.2.mono (by omega)))
    clear hHeld
    go_wp2_with fail
    go_ret
    exact ⟨rfl, HF.out⟩
end Go.Proofs.YtihokphamgkkcaaGreat
namespace Go.Proofs.YtihokphamgkkcaaGreat
open Go.RowKit
set_option maxHeartbeats 800000 in
set_option maxRecDepth 20000 in
theorem same_no1 (t t2 : Int) (kh kh2 vh vh2 : Bool) (n1 n2 : Nat) (kd kd2 vd vd2 : ByteArray) (a1 a2 : Option Addr) (cap1 cap2 : Nat) (w : World) (h : t ≠ t2) :
    Calls Tryz.prog 43 #[.agg #[.int .i64 t, .bool kh, .string kd, .bool vh, .string vd, .slice a1 n1 cap1], .agg #[.int .i64 t2, .bool kh2, .string kd2, .bool vh2, .string vd2, .slice a2 n2 cap2]] w fun e w' => e = .returned (.bool false) ∧ Below w.heap.size w w' := by
  have e1 : ((t : Int) != (t2 : Int)) = true := by rw [bne_iff_ne]; exact h
  clear h
  go_enter Tryz.func43, Tryz.ntmps43
  go_wp2_with fail
  have h1 : ((w.alloc (.cells #[.int .i64 t, .bool kh, .string kd, .bool vh, .string vd, .slice a1 n1 cap1] 49)).alloc (.cells #[.int .i64 t2, .bool kh2, .string kd2, .bool vh2, .string vd2, .slice a2 n2 cap2] 49)).heap[w.heap.size]? = some (.cells #[.int .i64 t, .bool kh, .string kd, .bool vh, .string vd, .slice a1 n1 cap1] 49 (0, 0)) := heap_alloc_at (heap_new _ _)
  have h2 : ((w.alloc (.cells #[.int .i64 t, .bool kh, .string kd, .bool vh, .string vd, .slice a1 n1 cap1] 49)).alloc (.cells #[.int .i64 t2, .bool kh2, .string kd2, .bool vh2, .string vd2, .slice a2 n2 cap2] 49)).heap[w.heap.size + 1]? = some (.cells #[.int .i64 t2, .bool kh2, .string kd2, .bool vh2, .string vd2, .slice a2 n2 cap2] 49 (0, 0)) := heap_new' _ _ _ (by simp)
  have hb1 : Below w.heap.size w ((w.alloc (.cells #[.int .i64 t, .bool kh, .string kd, .bool vh, .string vd, .slice a1 n1 cap1] 49)).alloc (.cells #[.int .i64 t2, .bool kh2, .string kd2, .bool vh2, .string vd2, .slice a2 n2 cap2] 49)) := ((Below.refl _ w).alloc (Nat.le_refl _) _).alloc (by simp) _
  have hs1 : ((w.alloc (.cells #[.int .i64 t, .bool kh, .string kd, .bool vh, .string vd, .slice a1 n1 cap1] 49)).alloc (.cells #[.int .i64 t2, .bool kh2, .string kd2, .bool vh2, .string vd2, .slice a2 n2 cap2] 49)).heap.size = w.heap.size + 2 := by simp
  generalize ((w.alloc (.cells #[.int .i64 t, .bool kh, .string kd, .bool vh, .string vd, .slice a1 n1 cap1] 49)).alloc (.cells #[.int .i64 t2, .bool kh2, .string kd2, .bool vh2, .string vd2, .slice a2 n2 cap2] 49)) = W2 at *
  have hB : w.heap.size + 2 ≤ W2.heap.size := by omega
  have HB1 := hid hb1
  have h0 : Below (w.heap.size + 2) W2 W2 := Below.refl _ _
  have H1 := hid h1
  have H2 := hid h2
  have y1 : w.heap.size < w.heap.size + 2 := by omega
  have y2 : w.heap.size + 1 < w.heap.size + 2 := by omega
  clear h1 h2 hb1
  refine wp_region_held_drew (S := fun x => ((x.cell? ⟨w.heap.size, 0, none⟩ = some (.int .i64 t) ∧ x.cell? ⟨w.heap.size, 1, none⟩ = some (.bool kh) ∧ x.cell? ⟨w.heap.size, 2, none⟩ = some (.string kd) ∧ x.cell? ⟨w.heap.size, 3, none⟩ = some (.bool vh) ∧ x.cell? ⟨w.heap.size, 4, none⟩ = some (.string vd) ∧ x.cell? ⟨w.heap.size, 5, none⟩ = some (.slice a1 n1 cap1)) ∧ (x.cell? ⟨w.heap.size + 1, 0, none⟩ = some (.int .i64 t2) ∧ x.cell? ⟨w.heap.size + 1, 1, none⟩ = some (.bool kh2) ∧ x.cell? ⟨w.heap.size + 1, 2, none⟩ = some (.string kd2) ∧ x.cell? ⟨w.heap.size + 1, 3, none⟩ = some (.bool vh2) ∧ x.cell? ⟨w.heap.size + 1, 4, none⟩ = some (.string vd2) ∧ x.cell? ⟨w.heap.size + 1, 5, none⟩ = some (.slice a2 n2 cap2))) ∧ Below (w.heap.size + 2) W2 x) (by kernel_rfl) (held12 H1.out H2.out y1 y2 (Below.drew h0)) (fun hHeld => ?_)
  refine wpAnyH_take (i := 0) (oi := { dst := some 7, op := Op.fieldAddr 49 (Operand.tmp 2) 0, type := 0, pos := "record.go:107", after := #[], guard := none }) (v := ?_) rfl (by kernel_rfl) (by kernel_rfl) (by kernel_rfl) (fun _ _ _ h => h) (Or.inl ⟨by rfl, ?_⟩) (by assumption) ?_
  rotate_left
  · (intro z hSw; (try dsimp only at hSw); go_simp)
    all_goals with_reducible rfl
  try simp only [Act.put, List.setIfInBounds_toArray, List.set_cons_zero, List.set_cons_succ]
  refine wpAnyH_take (i := 1) (oi := { dst := some 8, op := Op.load 2 (Operand.tmp 7), type := 2, pos := "record.go:107", after := #[{ on := 0, ground := Ground.data }], guard := none }) (v := ?_) rfl (by kernel_rfl) (by kernel_rfl) (by kernel_rfl) (fun _ _ _ h => h) (Or.inl ⟨by rfl, ?_⟩) (by assumption) ?_
  rotate_left
  · (intro z hSw; (try dsimp only at hSw); go_simp)
    all_goals with_reducible rfl
  try simp only [Act.put, List.setIfInBounds_toArray, List.set_cons_zero, List.set_cons_succ]
  refine wpAnyH_take (i := 2) (oi := { dst := some 9, op := Op.fieldAddr 49 (Operand.tmp 3) 0, type := 0, pos := "record.go:107", after := #[], guard := none }) (v := ?_) rfl (by kernel_rfl) (by kernel_rfl) (by kernel_rfl) (fun _ _ _ h => h) (Or.inl ⟨by rfl, ?_⟩) (by assumption) ?_
  rotate_left
  · (intro z hSw; (try dsimp only at hSw); go_simp)
    all_goals with_reducible rfl
  try simp only [Act.put, List.setIfInBounds_toArray, List.set_cons_zero, List.set_cons_succ]
  refine wpAnyH_take (i := 3) (oi := { dst := some 10, op := Op.load 2 (Operand.tmp 9), type := 2, pos := "record.go:107", after := #[{ on := 2, ground := Ground.data }], guard := none }) (v := ?_) rfl (by kernel_rfl) (by kernel_rfl) (by kernel_rfl) (fun _ _ _ h => h) (Or.inl ⟨by rfl, ?_⟩) (by assumption) ?_
  rotate_left
  · (intro z hSw; (try dsimp only at hSw); go_simp)
    all_goals with_reducible rfl
  try simp only [Act.put, List.setIfInBounds_toArray, List.set_cons_zero, List.set_cons_succ]
  refine wpAnyH_take (i := 4) (oi := { dst := some 11, op := Op.binOp BinOp.neq 2 (Operand.tmp 8) (Operand.tmp 10) 2, type := 4, pos := "record.go:107", after := #[{ on := 1, ground := Ground.data }, { on := 3, ground := Ground.data }], guard := none }) (v := ?_) rfl (by kernel_rfl) (by kernel_rfl) (by kernel_rfl) (fun _ _ _ h => h) (Or.inl ⟨by rfl, ?_⟩) (by assumption) ?_
  rotate_left
  · (intro z hSw; (try dsimp only at hSw); go_simp)
    all_goals with_reducible rfl
  try simp only [Act.put, List.setIfInBounds_toArray, List.set_cons_zero, List.set_cons_succ]
  refine wpAnyH_take (i := 5) (oi := { dst := some 12, op := Op.move (Operand.tmp 11), type := 4, pos := "record.go:107", after := #[{ on := 4, ground := Ground.data }], guard := none }) (v := ?_) rfl (by kernel_rfl) (by kernel_rfl) (by kernel_rfl) (fun _ _ _ h => h) (Or.inl ⟨by rfl, ?_⟩) (by assumption) ?_
  rotate_left
  · (intro z hSw; (try dsimp only at hSw); go_simp)
    all_goals with_reducible rfl
  try simp only [Act.put, List.setIfInBounds_toArray, List.set_cons_zero, List.set_cons_succ]
  refine wpAnyH_take (i := 6) (oi := { dst := some 13, op := Op.fieldAddr 49 (Operand.tmp 2) 1, type := 0, pos := "record.go:107", after := #[{ on := 5, ground := Ground.guard }], guard := some (5, false) }) (v := undef) rfl (by kernel_rfl) (by kernel_rfl) (by kernel_rfl) (fun _ _ _ h => h) (Or.inr ⟨by rfl, rfl⟩) (by assumption) ?_
  try simp only [Act.put, List.setIfInBounds_toArray, List.set_cons_zero, List.set_cons_succ]
  refine wpAnyH_take (i := 7) (oi := { dst := some 14, op := Op.load 46 (Operand.tmp 13), type := 46, pos := "record.go:107", after := #[{ on := 6, ground := Ground.data }, { on := 5, ground := Ground.guard }], guard := some (5, false) }) (v := undef) rfl (by kernel_rfl) (by kernel_rfl) (by kernel_rfl) (fun _ _ _ h => h) (Or.inr ⟨by rfl, rfl⟩) (by assumption) ?_
  try simp only [Act.put, List.setIfInBounds_toArray, List.set_cons_zero, List.set_cons_succ]
  refine wpAnyH_take (i := 8) (oi := { dst := some 15, op := Op.call { callee := Callee.value (Operand.func 80), args := #[Operand.tmp 14], argTypes := #[46] }, type := 46, pos := "record.go:107", after := #[{ on := 7, ground := Ground.data }, { on := 5, ground := Ground.chain }, { on := 5, ground := Ground.guard }], guard := some (5, false) }) (v := undef) rfl (by kernel_rfl) (by kernel_rfl) (by kernel_rfl) (fun _ _ _ h => h) (Or.inr ⟨by rfl, rfl⟩) (by assumption) ?_
  try simp only [Act.put, List.setIfInBounds_toArray, List.set_cons_zero, List.set_cons_succ]
  refine wpAnyH_take (i := 9) (oi := { dst := some 16, op := Op.fieldAddr 49 (Operand.tmp 3) 1, type := 0, pos := "record.go:107", after := #[{ on := 5, ground := Ground.guard }], guard := some (5, false) }) (v := undef) rfl (by kernel_rfl) (by kernel_rfl) (by kernel_rfl) (fun _ _ _ h => h) (Or.inr ⟨by rfl, rfl⟩) (by assumption) ?_
  try simp only [Act.put, List.setIfInBounds_toArray, List.set_cons_zero, List.set_cons_succ]
  refine wpAnyH_take (i := 10) (oi := { dst := some 17, op := Op.load 46 (Operand.tmp 16), type := 46, pos := "record.go:107", after := #[{ on := 9, ground := Ground.data }, { on := 5, ground := Ground.guard }], guard := some (5, false) }) (v := undef) rfl (by kernel_rfl) (by kernel_rfl) (by kernel_rfl) (fun _ _ _ h => h) (Or.inr ⟨by rfl, rfl⟩) (by assumption) ?_
  try simp only [Act.put, List.setIfInBounds_toArray, List.set_cons_zero, List.set_cons_succ]
  refine wpAnyH_take (i := 11) (oi := { dst := some 18, op := Op.call { callee := Callee.value (Operand.func 80), args := #[Operand.tmp 17], argTypes := #[46] }, type := 46, pos := "record.go:107", after := #[{ on := 10, ground := Ground.data }, { on := 8, ground := Ground.chain }, { on := 5, ground := Ground.guard }], guard := some (5, false) }) (v := undef) rfl (by kernel_rfl) (by kernel_rfl) (by kernel_rfl) (fun _ _ _ h => h) (Or.inr ⟨by rfl, rfl⟩) (by assumption) ?_
  try simp only [Act.put, List.setIfInBounds_toArray, List.set_cons_zero, List.set_cons_succ]
  refine wpAnyH_take (i := 12) (oi := { dst := some 19, op := Op.binOp BinOp.neq 46 (Operand.tmp 15) (Operand.tmp 18) 46, type := 4, pos := "record.go:107", after := #[{ on := 8, ground := Ground.data }, { on := 11, ground := Ground.data }, { on := 5, ground := Ground.guard }], guard := some (5, false) }) (v := undef) rfl (by kernel_rfl) (by kernel_rfl) (by kernel_rfl) (fun _ _ _ h => h) (Or.inr ⟨by rfl, rfl⟩) (by assumption) ?_
  try simp only [Act.put, List.setIfInBounds_toArray, List.set_cons_zero, List.set_cons_succ]
  refine wpAnyH_take (i := 13) (oi := { dst := some 20, op := Op.pick (Operand.tmp 12) (Operand.const (Value.bool true)) (Operand.tmp 19), type := 4, pos := "record.go:107", after := #[{ on := 5, ground := Ground.data }, { on := 12, ground := Ground.data }], guard := none }) (v := ?_) rfl (by kernel_rfl) (by kernel_rfl) (by kernel_rfl) (fun _ _ _ h => h) (Or.inl ⟨by rfl, ?_⟩) (by assumption) ?_
  rotate_left
  · (intro z hSw; (try dsimp only at hSw); go_simp)
    all_goals with_reducible rfl
  try simp only [Act.put, List.setIfInBounds_toArray, List.set_cons_zero, List.set_cons_succ]
  refine wpAnyH_take (i := 14) (oi := { dst := some 21, op := Op.move (Operand.tmp 20), type := 4, pos := "record.go:107", after := #[{ on := 13, ground := Ground.data }, { on := 11, ground := Ground.chain }], guard := none }) (v := ?_) rfl (by kernel_rfl) (by kernel_rfl) (by kernel_rfl) (fun _ _ _ h => h) (Or.inl ⟨by rfl, ?_⟩) (by assumption) ?_
  rotate_left
  · (intro z hSw; (try dsimp only at hSw); go_simp)
    all_goals with_reducible rfl
  try simp only [Act.put, List.setIfInBounds_toArray, List.set_cons_zero, List.set_cons_succ]
  refine wpAnyH_take (i := 15) (oi := { dst := some 22, op := Op.fieldAddr 49 (Operand.tmp 2) 2, type := 0, pos := "record.go:107", after := #[{ on := 14, ground := Ground.guard }], guard := some (14, false) }) (v := undef) rfl (by kernel_rfl) (by kernel_rfl) (by kernel_rfl) (fun _ _ _ h => h) (Or.inr ⟨by rfl, rfl⟩) (by assumption) ?_
  try simp only [Act.put, List.setIfInBounds_toArray, List.set_cons_zero, List.set_cons_succ]
  refine wpAnyH_take (i := 16) (oi := { dst := some 23, op := Op.load 46 (Operand.tmp 22), type := 46, pos := "record.go:107", after := #[{ on := 15, ground := Ground.data }, { on := 14, ground := Ground.guard }], guard := some (14, false) }) (v := undef) rfl (by kernel_rfl) (by kernel_rfl) (by kernel_rfl) (fun _ _ _ h => h) (Or.inr ⟨by rfl, rfl⟩) (by assumption) ?_
  try simp only [Act.put, List.setIfInBounds_toArray, List.set_cons_zero, List.set_cons_succ]
  refine wpAnyH_take (i := 17) (oi := { dst := some 24, op := Op.call { callee := Callee.value (Operand.func 80), args := #[Operand.tmp 23], argTypes := #[46] }, type := 46, pos := "record.go:107", after := #[{ on := 16, ground := Ground.data }, { on := 14, ground := Ground.chain }, { on := 14, ground := Ground.guard }], guard := some (14, false) }) (v := undef) rfl (by kernel_rfl) (by kernel_rfl) (by kernel_rfl) (fun _ _ _ h => h) (Or.inr ⟨by rfl, rfl⟩) (by assumption) ?_
  try simp only [Act.put, List.setIfInBounds_toArray, List.set_cons_zero, List.set_cons_succ]
  refine wpAnyH_take (i := 18) (oi := { dst := some 25, op := Op.fieldAddr 49 (Operand.tmp 3) 2, type := 0, pos := "record.go:107", after := #[{ on := 14, ground := Ground.guard }], guard := some (14, false) }) (v := undef) rfl (by kernel_rfl) (by kernel_rfl) (by kernel_rfl) (fun _ _ _ h => h) (Or.inr ⟨by rfl, rfl⟩) (by assumption) ?_
  try simp only [Act.put, List.setIfInBounds_toArray, List.set_cons_zero, List.set_cons_succ]
  refine wpAnyH_take (i := 19) (oi := { dst := some 26, op := Op.load 46 (Operand.tmp 25), type := 46, pos := "record.go:107", after := #[{ on := 18, ground := Ground.data }, { on := 14, ground := Ground.guard }], guard := some (14, false) }) (v := undef) rfl (by kernel_rfl) (by kernel_rfl) (by kernel_rfl) (fun _ _ _ h => h) (Or.inr ⟨by rfl, rfl⟩) (by assumption) ?_
  try simp only [Act.put, List.setIfInBounds_toArray, List.set_cons_zero, List.set_cons_succ]
  refine wpAnyH_take (i := 20) (oi := { dst := some 27, op := Op.call { callee := Callee.value (Operand.func 80), args := #[Operand.tmp 26], argTypes := #[46] }, type := 46, pos := "record.go:107", after := #[{ on := 19, ground := Ground.data }, { on := 17, ground := Ground.chain }, { on := 14, ground := Ground.guard }], guard := some (14, false) }) (v := undef) rfl (by kernel_rfl) (by kernel_rfl) (by kernel_rfl) (fun _ _ _ h => h) (Or.inr ⟨by rfl, rfl⟩) (by assumption) ?_
  try simp only [Act.put, List.setIfInBounds_toArray, List.set_cons_zero, List.set_cons_succ]
  refine wpAnyH_take (i := 21) (oi := { dst := some 28, op := Op.binOp BinOp.neq 46 (Operand.tmp 24) (Operand.tmp 27) 46, type := 4, pos := "record.go:107", after := #[{ on := 17, ground := Ground.data }, { on := 20, ground := Ground.data }, { on := 14, ground := Ground.guard }], guard := some (14, false) }) (v := undef) rfl (by kernel_rfl) (by kernel_rfl) (by kernel_rfl) (fun _ _ _ h => h) (Or.inr ⟨by rfl, rfl⟩) (by assumption) ?_
  try simp only [Act.put, List.setIfInBounds_toArray, List.set_cons_zero, List.set_cons_succ]
  refine wpAnyH_take (i := 22) (oi := { dst := some 29, op := Op.pick (Operand.tmp 21) (Operand.const (Value.bool true)) (Operand.tmp 28), type := 4, pos := "record.go:107", after := #[{ on := 14, ground := Ground.data }, { on := 21, ground := Ground.data }], guard := none }) (v := ?_) rfl (by kernel_rfl) (by kernel_rfl) (by kernel_rfl) (fun _ _ _ h => h) (Or.inl ⟨by rfl, ?_⟩) (by assumption) ?_
  rotate_left
  · (intro z hSw; (try dsimp only at hSw); go_simp)
    all_goals with_reducible rfl
  try simp only [Act.put, List.setIfInBounds_toArray, List.set_cons_zero, List.set_cons_succ]
  refine wpAnyH_take (i := 23) (oi := { dst := some 30, op := Op.move (Operand.tmp 29), type := 4, pos := "record.go:107", after := #[{ on := 22, ground := Ground.data }, { on := 20, ground := Ground.chain }], guard := none }) (v := ?_) rfl (by kernel_rfl) (by kernel_rfl) (by kernel_rfl) (fun _ _ _ h => h) (Or.inl ⟨by rfl, ?_⟩) (by assumption) ?_
  rotate_left
  · (intro z hSw; (try dsimp only at hSw); go_simp)
    all_goals with_reducible rfl
  try simp only [Act.put, List.setIfInBounds_toArray, List.set_cons_zero, List.set_cons_succ]
  refine wpAnyH_take (i := 24) (oi := { dst := some 31, op := Op.fieldAddr 49 (Operand.tmp 2) 3, type := 0, pos := "record.go:107", after := #[{ on := 23, ground := Ground.guard }], guard := some (23, false) }) (v := undef) rfl (by kernel_rfl) (by kernel_rfl) (by kernel_rfl) (fun _ _ _ h => h) (Or.inr ⟨by rfl, rfl⟩) (by assumption) ?_
  try simp only [Act.put, List.setIfInBounds_toArray, List.set_cons_zero, List.set_cons_succ]
  refine wpAnyH_take (i := 25) (oi := { dst := some 32, op := Op.load 47 (Operand.tmp 31), type := 47, pos := "record.go:107", after := #[{ on := 24, ground := Ground.data }, { on := 23, ground := Ground.guard }], guard := some (23, false) }) (v := undef) rfl (by kernel_rfl) (by kernel_rfl) (by kernel_rfl) (fun _ _ _ h => h) (Or.inr ⟨by rfl, rfl⟩) (by assumption) ?_
  try simp only [Act.put, List.setIfInBounds_toArray, List.set_cons_zero, List.set_cons_succ]
  refine wpAnyH_take (i := 26) (oi := { dst := some 33, op := Op.call { callee := Callee.builtin Builtin.len, args := #[Operand.tmp 32], argTypes := #[47] }, type := 3, pos := "record.go:107", after := #[{ on := 25, ground := Ground.data }, { on := 23, ground := Ground.guard }], guard := some (23, false) }) (v := undef) rfl (by kernel_rfl) (by kernel_rfl) (by kernel_rfl) (fun _ _ _ h => h) (Or.inr ⟨by rfl, rfl⟩) (by assumption) ?_
  try simp only [Act.put, List.setIfInBounds_toArray, List.set_cons_zero, List.set_cons_succ]
  refine wpAnyH_take (i := 27) (oi := { dst := some 34, op := Op.fieldAddr 49 (Operand.tmp 3) 3, type := 0, pos := "record.go:107", after := #[{ on := 23, ground := Ground.guard }], guard := some (23, false) }) (v := undef) rfl (by kernel_rfl) (by kernel_rfl) (by kernel_rfl) (fun _ _ _ h => h) (Or.inr ⟨by rfl, rfl⟩) (by assumption) ?_
  try simp only [Act.put, List.setIfInBounds_toArray, List.set_cons_zero, List.set_cons_succ]
  refine wpAnyH_take (i := 28) (oi := { dst := some 35, op := Op.load 47 (Operand.tmp 34), type := 47, pos := "record.go:107", after := #[{ on := 27, ground := Ground.data }, { on := 23, ground := Ground.guard }], guard := some (23, false) }) (v := undef) rfl (by kernel_rfl) (by kernel_rfl) (by kernel_rfl) (fun _ _ _ h => h) (Or.inr ⟨by rfl, rfl⟩) (by assumption) ?_
  try simp only [Act.put, List.setIfInBounds_toArray, List.set_cons_zero, List.set_cons_succ]
  refine wpAnyH_take (i := 29) (oi := { dst := some 36, op := Op.call { callee := Callee.builtin Builtin.len, args := #[Operand.tmp 35], argTypes := #[47] }, type := 3, pos := "record.go:107", after := #[{ on := 28, ground := Ground.data }, { on := 23, ground := Ground.guard }], guard := some (23, false) }) (v := undef) rfl (by kernel_rfl) (by kernel_rfl) (by kernel_rfl) (fun _ _ _ h => h) (Or.inr ⟨by rfl, rfl⟩) (by assumption) ?_
  try simp only [Act.put, List.setIfInBounds_toArray, List.set_cons_zero, List.set_cons_succ]
  refine wpAnyH_take (i := 30) (oi := { dst := some 37, op := Op.binOp BinOp.neq 3 (Operand.tmp 33) (Operand.tmp 36) 3, type := 4, pos := "record.go:107", after := #[{ on := 26, ground := Ground.data }, { on := 29, ground := Ground.data }, { on := 23, ground := Ground.guard }], guard := some (23, false) }) (v := undef) rfl (by kernel_rfl) (by kernel_rfl) (by kernel_rfl) (fun _ _ _ h => h) (Or.inr ⟨by rfl, rfl⟩) (by assumption) ?_
  try simp only [Act.put, List.setIfInBounds_toArray, List.set_cons_zero, List.set_cons_succ]
  refine wpAnyH_take (i := 31) (oi := { dst := some 38, op := Op.pick (Operand.tmp 30) (Operand.const (Value.bool true)) (Operand.tmp 37), type := 4, pos := "record.go:107", after := #[{ on := 23, ground := Ground.data }, { on := 30, ground := Ground.data }], guard := none }) (v := ?_) rfl (by kernel_rfl) (by kernel_rfl) (by kernel_rfl) (fun _ _ _ h => h) (Or.inl ⟨by rfl, ?_⟩) (by assumption) ?_
  rotate_left
  · (intro z hSw; (try dsimp only at hSw); go_simp)
    all_goals with_reducible rfl
  try simp only [Act.put, List.setIfInBounds_toArray, List.set_cons_zero, List.set_cons_succ]
  refine wpAnyH_done (by kernel_rfl) ?_ _
  have HF := hid (HB1.out.trans (hHeld.2.mono (by omega)))
  clear hHeld
  go_wp2_with fail
  go_ret
  exact ⟨rfl, HF.out⟩
set_option maxHeartbeats 800000 in
set_option maxRecDepth 20000 in
theorem same_no2 (t t2 : Int) (kh kh2 vh vh2 : Bool) (n1 n2 : Nat) (kd kd2 vd vd2 : ByteArray) (a1 a2 : Option Addr) (cap1 cap2 : Nat) (w : World) (h : t = t2) (hk : ¬ (kh = kh2 ∧ bd kh kd = bd kh2 kd2)) :
    Calls Tryz.prog 43 #[.agg #[.int .i64 t, .bool kh, .string kd, .bool vh, .string vd, .slice a1 n1 cap1], .agg #[.int .i64 t2, .bool kh2, .string kd2, .bool vh2, .string vd2, .slice a2 n2 cap2]] w fun e w' => e = .returned (.bool false) ∧ Below w.heap.size w w' := by
  have g1 := fun x y w => run_eqGuard_agg (P := Tryz.prog) w BinOp.neq 46 x y #[.bool kh, .string (bd kh kd)] #[.bool kh2, .string (bd kh2 kd2)] Tryz.optGuard
  have m1 := fun w => neq_opt_ne hk w
  have e1 : ((t : Int) != (t2 : Int)) = false := by rw [bne_eq_false_iff_eq]; exact h
  clear h hk
  go_enter Tryz.func43, Tryz.ntmps43
  go_wp2_with fail
  have h1 : ((w.alloc (.cells #[.int .i64 t, .bool kh, .string kd, .bool vh, .string vd, .slice a1 n1 cap1] 49)).alloc (.cells #[.int .i64 t2, .bool kh2, .string kd2, .bool vh2, .string vd2, .slice a2 n2 cap2] 49)).heap[w.heap.size]? = some (.cells #[.int .i64 t, .bool kh, .string kd, .bool vh, .string vd, .slice a1 n1 cap1] 49 (0, 0)) := heap_alloc_at (heap_new _ _)
  have h2 : ((w.alloc (.cells #[.int .i64 t, .bool kh, .string kd, .bool vh, .string vd, .slice a1 n1 cap1] 49)).alloc (.cells #[.int .i64 t2, .bool kh2, .string kd2, .bool vh2, .string vd2, .slice a2 n2 cap2] 49)).heap[w.heap.size + 1]? = some (.cells #[.int .i64 t2, .bool kh2, .string kd2, .bool vh2, .string vd2, .slice a2 n2 cap2] 49 (0, 0)) := heap_new' _ _ _ (by simp)
  have hb1 : Below w.heap.size w ((w.alloc (.cells #[.int .i64 t, .bool kh, .string kd, .bool vh, .string vd, .slice a1 n1 cap1] 49)).alloc (.cells #[.int .i64 t2, .bool kh2, .string kd2, .bool vh2, .string vd2, .slice a2 n2 cap2] 49)) := ((Below.refl _ w).alloc (Nat.le_refl _) _).alloc (by simp) _
  have hs1 : ((w.alloc (.cells #[.int .i64 t, .bool kh, .string kd, .bool vh, .string vd, .slice a1 n1 cap1] 49)).alloc (.cells #[.int .i64 t2, .bool kh2, .string kd2, .bool vh2, .string vd2, .slice a2 n2 cap2] 49)).heap.size = w.heap.size + 2 := by simp
  generalize ((w.alloc (.cells #[.int .i64 t, .bool kh, .string kd, .bool vh, .string vd, .slice a1 n1 cap1] 49)).alloc (.cells #[.int .i64 t2, .bool kh2, .string kd2, .bool vh2, .string vd2, .slice a2 n2 cap2] 49)) = W2 at *
  have hB : w.heap.size + 2 ≤ W2.heap.size := by omega
  have HB1 := hid hb1
  have h0 : Below (w.heap.size + 2) W2 W2 := Below.refl _ _
  have H1 := hid h1
  have H2 := hid h2
  have y1 : w.heap.size < w.heap.size + 2 := by omega
  have y2 : w.heap.size + 1 < w.heap.size + 2 := by omega
  clear h1 h2 hb1
  refine wp_region_held_drew (S := fun x => ((x.cell? ⟨w.heap.size, 0, none⟩ = some (.int .i64 t) ∧ x.cell? ⟨w.heap.size, 1, none⟩ = some (.bool kh) ∧ x.cell? ⟨w.heap.size, 2, none⟩ = some (.string kd) ∧ x.cell? ⟨w.heap.size, 3, none⟩ = some (.bool vh) ∧ x.cell? ⟨w.heap.size, 4, none⟩ = some (.string vd) ∧ x.cell? ⟨w.heap.size, 5, none⟩ = some (.slice a1 n1 cap1)) ∧ (x.cell? ⟨w.heap.size + 1, 0, none⟩ = some (.int .i64 t2) ∧ x.cell? ⟨w.heap.size + 1, 1, none⟩ = some (.bool kh2) ∧ x.cell? ⟨w.heap.size + 1, 2, none⟩ = some (.string kd2) ∧ x.cell? ⟨w.heap.size + 1, 3, none⟩ = some (.bool vh2) ∧ x.cell? ⟨w.heap.size + 1, 4, none⟩ = some (.string vd2) ∧ x.cell? ⟨w.heap.size + 1, 5, none⟩ = some (.slice a2 n2 cap2))) ∧ Below (w.heap.size + 2) W2 x) (by kernel_rfl) (held12 H1.out H2.out y1 y2 (Below.drew h0)) (fun hHeld => ?_)
  refine wpAnyH_take (i := 0) (oi := { dst := some 7, op := Op.fieldAddr 49 (Operand.tmp 2) 0, type := 0, pos := "record.go:107", after := #[], guard := none }) (v := ?_) rfl (by kernel_rfl) (by kernel_rfl) (by kernel_rfl) (fun _ _ _ h => h) (Or.inl ⟨by rfl, ?_⟩) (by assumption) ?_
  rotate_left
  · (intro z hSw; (try dsimp only at hSw); go_simp)
    all_goals with_reducible rfl
  try simp only [Act.put, List.setIfInBounds_toArray, List.set_cons_zero, List.set_cons_succ]
  refine wpAnyH_take (i := 1) (oi := { dst := some 8, op := Op.load 2 (Operand.tmp 7), type := 2, pos := "record.go:107", after := #[{ on := 0, ground := Ground.data }], guard := none }) (v := ?_) rfl (by kernel_rfl) (by kernel_rfl) (by kernel_rfl) (fun _ _ _ h => h) (Or.inl ⟨by rfl, ?_⟩) (by assumption) ?_
  rotate_left
  · (intro z hSw; (try dsimp only at hSw); go_simp)
    all_goals with_reducible rfl
  try simp only [Act.put, List.setIfInBounds_toArray, List.set_cons_zero, List.set_cons_succ]
  refine wpAnyH_take (i := 2) (oi := { dst := some 9, op := Op.fieldAddr 49 (Operand.tmp 3) 0, type := 0, pos := "record.go:107", after := #[], guard := none }) (v := ?_) rfl (by kernel_rfl) (by kernel_rfl) (by kernel_rfl) (fun _ _ _ h => h) (Or.inl ⟨by rfl, ?_⟩) (by assumption) ?_
  rotate_left
  · (intro z hSw; (try dsimp only at hSw); go_simp)
    all_goals with_reducible rfl
  try simp only [Act.put, List.setIfInBounds_toArray, List.set_cons_zero, List.set_cons_succ]
  refine wpAnyH_take (i := 3) (oi := { dst := some 10, op := Op.load 2 (Operand.tmp 9), type := 2, pos := "record.go:107", after := #[{ on := 2, ground := Ground.data }], guard := none }) (v := ?_) rfl (by kernel_rfl) (by kernel_rfl) (by kernel_rfl) (fun _ _ _ h => h) (Or.inl ⟨by rfl, ?_⟩) (by assumption) ?_
  rotate_left
  · (intro z hSw; (try dsimp only at hSw); go_simp)
    all_goals with_reducible rfl
  try simp only [Act.put, List.setIfInBounds_toArray, List.set_cons_zero, List.set_cons_succ]
  refine wpAnyH_take (i := 4) (oi := { dst := some 11, op := Op.binOp BinOp.neq 2 (Operand.tmp 8) (Operand.tmp 10) 2, type := 4, pos := "record.go:107", after := #[{ on := 1, ground := Ground.data }, { on := 3, ground := Ground.data }], guard := none }) (v := ?_) rfl (by kernel_rfl) (by kernel_rfl) (by kernel_rfl) (fun _ _ _ h => h) (Or.inl ⟨by rfl, ?_⟩) (by assumption) ?_
  rotate_left
  · (intro z hSw; (try dsimp only at hSw); go_simp)
    all_goals with_reducible rfl
  try simp only [Act.put, List.setIfInBounds_toArray, List.set_cons_zero, List.set_cons_succ]
  refine wpAnyH_take (i := 5) (oi := { dst := some 12, op := Op.move (Operand.tmp 11), type := 4, pos := "record.go:107", after := #[{ on := 4, ground := Ground.data }], guard := none }) (v := ?_) rfl (by kernel_rfl) (by kernel_rfl) (by kernel_rfl) (fun _ _ _ h => h) (Or.inl ⟨by rfl, ?_⟩) (by assumption) ?_
  rotate_left
  · (intro z hSw; (try dsimp only at hSw); go_simp)
    all_goals with_reducible rfl
  try simp only [Act.put, List.setIfInBounds_toArray, List.set_cons_zero, List.set_cons_succ]
  refine wpAnyH_take (i := 6) (oi := { dst := some 13, op := Op.fieldAddr 49 (Operand.tmp 2) 1, type := 0, pos := "record.go:107", after := #[{ on := 5, ground := Ground.guard }], guard := some (5, false) }) (v := ?_) rfl (by kernel_rfl) (by kernel_rfl) (by kernel_rfl) (fun _ _ _ h => h) (Or.inl ⟨by rfl, ?_⟩) (by assumption) ?_
  rotate_left
  · (intro z hSw; (try dsimp only at hSw); go_simp)
    all_goals with_reducible rfl
  try simp only [Act.put, List.setIfInBounds_toArray, List.set_cons_zero, List.set_cons_succ]
  refine wpAnyH_take (i := 7) (oi := { dst := some 14, op := Op.load 46 (Operand.tmp 13), type := 46, pos := "record.go:107", after := #[{ on := 6, ground := Ground.data }, { on := 5, ground := Ground.guard }], guard := some (5, false) }) (v := ?_) rfl (by kernel_rfl) (by kernel_rfl) (by kernel_rfl) (fun _ _ _ h => h) (Or.inl ⟨by rfl, ?_⟩) (by assumption) ?_
  rotate_left
  · (intro z hSw; (try dsimp only at hSw); go_simp)
    all_goals with_reducible rfl
  try simp only [Act.put, List.setIfInBounds_toArray, List.set_cons_zero, List.set_cons_succ]
  refine wpAnyH_take (i := 9) (oi := { dst := some 16, op := Op.fieldAddr 49 (Operand.tmp 3) 1, type := 0, pos := "record.go:107", after := #[{ on := 5, ground := Ground.guard }], guard := some (5, false) }) (v := ?_) rfl (by kernel_rfl) (by kernel_rfl) (by kernel_rfl) (fun _ _ _ h => h) (Or.inl ⟨by rfl, ?_⟩) (by assumption) ?_
  rotate_left
  · (intro z hSw; (try dsimp only at hSw); go_simp)
    all_goals with_reducible rfl
  try simp only [Act.put, List.setIfInBounds_toArray, List.set_cons_zero, List.set_cons_succ]
  refine wpAnyH_take (i := 10) (oi := { dst := some 17, op := Op.load 46 (Operand.tmp 16), type := 46, pos := "record.go:107", after := #[{ on := 9, ground := Ground.data }, { on := 5, ground := Ground.guard }], guard := some (5, false) }) (v := ?_) rfl (by kernel_rfl) (by kernel_rfl) (by kernel_rfl) (fun _ _ _ h => h) (Or.inl ⟨by rfl, ?_⟩) (by assumption) ?_
  rotate_left
  · (intro z hSw; (try dsimp only at hSw); go_simp)
    all_goals with_reducible rfl
  try simp only [Act.put, List.setIfInBounds_toArray, List.set_cons_zero, List.set_cons_succ]
  refine wpAnyH_ready (rs := [8]) (by kernel_rfl) (by simp) ?_
  refine AllReadyH.cons (o := { dst := some 15, op := Op.call { callee := Callee.value (Operand.func 80), args := #[Operand.tmp 14], argTypes := #[46] }, type := 46, pos := "record.go:107", after := #[{ on := 7, ground := Ground.data }, { on := 5, ground := Ground.chain }, { on := 5, ground := Ground.guard }], guard := some (5, false) }) rfl (fun K hK => ?_) AllReadyH.nil
  go_simp
  go_at_call 80
  refine (bareB _ _ (w.heap.size + 2) W2 _ hB (by first | assumption | exact hHeld.2)).mono ?_
  rintro e wc1 ⟨rfl, hbel1⟩
  go_wp2_with fail
  refine hK.out _ _ (held12 H1.out H2.out y1 y2 hbel1) (fun hHeld => ?_)
  clear hK K
  try simp only [Act.put, List.setIfInBounds_toArray, List.set_cons_zero, List.set_cons_succ]
  refine wpAnyH_ready (rs := [11]) (by kernel_rfl) (by simp) ?_
  refine AllReadyH.cons (o := { dst := some 18, op := Op.call { callee := Callee.value (Operand.func 80), args := #[Operand.tmp 17], argTypes := #[46] }, type := 46, pos := "record.go:107", after := #[{ on := 10, ground := Ground.data }, { on := 8, ground := Ground.chain }, { on := 5, ground := Ground.guard }], guard := some (5, false) }) rfl (fun K hK => ?_) AllReadyH.nil
  go_simp
  go_at_call 80
  refine (bareB _ _ (w.heap.size + 2) W2 _ hB (by first | assumption | exact hHeld.2)).mono ?_
  rintro e wc2 ⟨rfl, hbel2⟩
  go_wp2_with fail
  refine hK.out _ _ (held12 H1.out H2.out y1 y2 hbel2) (fun hHeld => ?_)
  clear hK K
  try simp only [Act.put, List.setIfInBounds_toArray, List.set_cons_zero, List.set_cons_succ]
  refine wpAnyH_take (i := 12) (oi := { dst := some 19, op := Op.binOp BinOp.neq 46 (Operand.tmp 15) (Operand.tmp 18) 46, type := 4, pos := "record.go:107", after := #[{ on := 8, ground := Ground.data }, { on := 11, ground := Ground.data }, { on := 5, ground := Ground.guard }], guard := some (5, false) }) (v := ?_) rfl (by kernel_rfl) (by kernel_rfl) (by kernel_rfl) (fun _ _ _ h => h) (Or.inl ⟨by rfl, ?_⟩) (by assumption) ?_
  rotate_left
  · (intro z hSw; (try dsimp only at hSw); go_simp)
    all_goals with_reducible rfl
  try simp only [Act.put, List.setIfInBounds_toArray, List.set_cons_zero, List.set_cons_succ]
  refine wpAnyH_take (i := 13) (oi := { dst := some 20, op := Op.pick (Operand.tmp 12) (Operand.const (Value.bool true)) (Operand.tmp 19), type := 4, pos := "record.go:107", after := #[{ on := 5, ground := Ground.data }, { on := 12, ground := Ground.data }], guard := none }) (v := ?_) rfl (by kernel_rfl) (by kernel_rfl) (by kernel_rfl) (fun _ _ _ h => h) (Or.inl ⟨by rfl, ?_⟩) (by assumption) ?_
  rotate_left
  · (intro z hSw; (try dsimp only at hSw); go_simp)
    all_goals with_reducible rfl
  try simp only [Act.put, List.setIfInBounds_toArray, List.set_cons_zero, List.set_cons_succ]
  refine wpAnyH_take (i := 14) (oi := { dst := some 21, op := Op.move (Operand.tmp 20), type := 4, pos := "record.go:107", after := #[{ on := 13, ground := Ground.data }, { on := 11, ground := Ground.chain }], guard := none }) (v := ?_) rfl (by kernel_rfl) (by kernel_rfl) (by kernel_rfl) (fun _ _ _ h => h) (Or.inl ⟨by rfl, ?_⟩) (by assumption) ?_
  rotate_left
  · (intro z hSw; (try dsimp only at hSw); go_simp)
    all_goals with_reducible rfl
  try simp only [Act.put, List.setIfInBounds_toArray, List.set_cons_zero, List.set_cons_succ]
  refine wpAnyH_take (i := 15) (oi := { dst := some 22, op := Op.fieldAddr 49 (Operand.tmp 2) 2, type := 0, pos := "record.go:107", after := #[{ on := 14, ground := Ground.guard }], guard := some (14, false) }) (v := undef) rfl (by kernel_rfl) (by kernel_rfl) (by kernel_rfl) (fun _ _ _ h => h) (Or.inr ⟨by rfl, rfl⟩) (by assumption) ?_
  try simp only [Act.put, List.setIfInBounds_toArray, List.set_cons_zero, List.set_cons_succ]
  refine wpAnyH_take (i := 16) (oi := { dst := some 23, op := Op.load 46 (Operand.tmp 22), type := 46, pos := "record.go:107", after := #[{ on := 15, ground := Ground.data }, { on := 14, ground := Ground.guard }], guard := some (14, false) }) (v := undef) rfl (by kernel_rfl) (by kernel_rfl) (by kernel_rfl) (fun _ _ _ h => h) (Or.inr ⟨by rfl, rfl⟩) (by assumption) ?_
  try simp only [Act.put, List.setIfInBounds_toArray, List.set_cons_zero, List.set_cons_succ]
  refine wpAnyH_take (i := 17) (oi := { dst := some 24, op := Op.call { callee := Callee.value (Operand.func 80), args := #[Operand.tmp 23], argTypes := #[46] }, type := 46, pos := "record.go:107", after := #[{ on := 16, ground := Ground.data }, { on := 14, ground := Ground.chain }, { on := 14, ground := Ground.guard }], guard := some (14, false) }) (v := undef) rfl (by kernel_rfl) (by kernel_rfl) (by kernel_rfl) (fun _ _ _ h => h) (Or.inr ⟨by rfl, rfl⟩) (by assumption) ?_
  try simp only [Act.put, List.setIfInBounds_toArray, List.set_cons_zero, List.set_cons_succ]
  refine wpAnyH_take (i := 18) (oi := { dst := some 25, op := Op.fieldAddr 49 (Operand.tmp 3) 2, type := 0, pos := "record.go:107", after := #[{ on := 14, ground := Ground.guard }], guard := some (14, false) }) (v := undef) rfl (by kernel_rfl) (by kernel_rfl) (by kernel_rfl) (fun _ _ _ h => h) (Or.inr ⟨by rfl, rfl⟩) (by assumption) ?_
  try simp only [Act.put, List.setIfInBounds_toArray, List.set_cons_zero, List.set_cons_succ]
  refine wpAnyH_take (i := 19) (oi := { dst := some 26, op := Op.load 46 (Operand.tmp 25), type := 46, pos := "record.go:107", after := #[{ on := 18, ground := Ground.data }, { on := 14, ground := Ground.guard }], guard := some (14, false) }) (v := undef) rfl (by kernel_rfl) (by kernel_rfl) (by kernel_rfl) (fun _ _ _ h => h) (Or.inr ⟨by rfl, rfl⟩) (by assumption) ?_
  try simp only [Act.put, List.setIfInBounds_toArray, List.set_cons_zero, List.set_cons_succ]
  refine wpAnyH_take (i := 20) (oi := { dst := some 27, op := Op.call { callee := Callee.value (Operand.func 80), args := #[Operand.tmp 26], argTypes := #[46] }, type := 46, pos := "record.go:107", after := #[{ on := 19, ground := Ground.data }, { on := 17, ground := Ground.chain }, { on := 14, ground := Ground.guard }], guard := some (14, false) }) (v := undef) rfl (by kernel_rfl) (by kernel_rfl) (by kernel_rfl) (fun _ _ _ h => h) (Or.inr ⟨by rfl, rfl⟩) (by assumption) ?_
  try simp only [Act.put, List.setIfInBounds_toArray, List.set_cons_zero, List.set_cons_succ]
  refine wpAnyH_take (i := 21) (oi := { dst := some 28, op := Op.binOp BinOp.neq 46 (Operand.tmp 24) (Operand.tmp 27) 46, type := 4, pos := "record.go:107", after := #[{ on := 17, ground := Ground.data }, { on := 20, ground := Ground.data }, { on := 14, ground := Ground.guard }], guard := some (14, false) }) (v := undef) rfl (by kernel_rfl) (by kernel_rfl) (by kernel_rfl) (fun _ _ _ h => h) (Or.inr ⟨by rfl, rfl⟩) (by assumption) ?_
  try simp only [Act.put, List.setIfInBounds_toArray, List.set_cons_zero, List.set_cons_succ]
  refine wpAnyH_take (i := 22) (oi := { dst := some 29, op := Op.pick (Operand.tmp 21) (Operand.const (Value.bool true)) (Operand.tmp 28), type := 4, pos := "record.go:107", after := #[{ on := 14, ground := Ground.data }, { on := 21, ground := Ground.data }], guard := none }) (v := ?_) rfl (by kernel_rfl) (by kernel_rfl) (by kernel_rfl) (fun _ _ _ h => h) (Or.inl ⟨by rfl, ?_⟩) (by assumption) ?_
  rotate_left
  · (intro z hSw; (try dsimp only at hSw); go_simp)
    all_goals with_reducible rfl
  try simp only [Act.put, List.setIfInBounds_toArray, List.set_cons_zero, List.set_cons_succ]
  refine wpAnyH_take (i := 23) (oi := { dst := some 30, op := Op.move (Operand.tmp 29), type := 4, pos := "record.go:107", after := #[{ on := 22, ground := Ground.data }, { on := 20, ground := Ground.chain }], guard := none }) (v := ?_) rfl (by kernel_rfl) (by kernel_rfl) (by kernel_rfl) (fun _ _ _ h => h) (Or.inl ⟨by rfl, ?_⟩) (by assumption) ?_
  rotate_left
  · (intro z hSw; (try dsimp only at hSw); go_simp)
    all_goals with_reducible rfl
  try simp only [Act.put, List.setIfInBounds_toArray, List.set_cons_zero, List.set_cons_succ]
  refine wpAnyH_take (i := 24) (oi := { dst := some 31, op := Op.fieldAddr 49 (Operand.tmp 2) 3, type := 0, pos := "record.go:107", after := #[{ on := 23, ground := Ground.guard }], guard := some (23, false) }) (v := undef) rfl (by kernel_rfl) (by kernel_rfl) (by kernel_rfl) (fun _ _ _ h => h) (Or.inr ⟨by rfl, rfl⟩) (by assumption) ?_
  try simp only [Act.put, List.setIfInBounds_toArray, List.set_cons_zero, List.set_cons_succ]
  refine wpAnyH_take (i := 25) (oi := { dst := some 32, op := Op.load 47 (Operand.tmp 31), type := 47, pos := "record.go:107", after := #[{ on := 24, ground := Ground.data }, { on := 23, ground := Ground.guard }], guard := some (23, false) }) (v := undef) rfl (by kernel_rfl) (by kernel_rfl) (by kernel_rfl) (fun _ _ _ h => h) (Or.inr ⟨by rfl, rfl⟩) (by assumption) ?_
  try simp only [Act.put, List.setIfInBounds_toArray, List.set_cons_zero, List.set_cons_succ]
  refine wpAnyH_take (i := 26) (oi := { dst := some 33, op := Op.call { callee := Callee.builtin Builtin.len, args := #[Operand.tmp 32], argTypes := #[47] }, type := 3, pos := "record.go:107", after := #[{ on := 25, ground := Ground.data }, { on := 23, ground := Ground.guard }], guard := some (23, false) }) (v := undef) rfl (by kernel_rfl) (by kernel_rfl) (by kernel_rfl) (fun _ _ _ h => h) (Or.inr ⟨by rfl, rfl⟩) (by assumption) ?_
  try simp only [Act.put, List.setIfInBounds_toArray, List.set_cons_zero, List.set_cons_succ]
  refine wpAnyH_take (i := 27) (oi := { dst := some 34, op := Op.fieldAddr 49 (Operand.tmp 3) 3, type := 0, pos := "record.go:107", after := #[{ on := 23, ground := Ground.guard }], guard := some (23, false) }) (v := undef) rfl (by kernel_rfl) (by kernel_rfl) (by kernel_rfl) (fun _ _ _ h => h) (Or.inr ⟨by rfl, rfl⟩) (by assumption) ?_
  try simp only [Act.put, List.setIfInBounds_toArray, List.set_cons_zero, List.set_cons_succ]
  refine wpAnyH_take (i := 28) (oi := { dst := some 35, op := Op.load 47 (Operand.tmp 34), type := 47, pos := "record.go:107", after := #[{ on := 27, ground := Ground.data }, { on := 23, ground := Ground.guard }], guard := some (23, false) }) (v := undef) rfl (by kernel_rfl) (by kernel_rfl) (by kernel_rfl) (fun _ _ _ h => h) (Or.inr ⟨by rfl, rfl⟩) (by assumption) ?_
  try simp only [Act.put, List.setIfInBounds_toArray, List.set_cons_zero, List.set_cons_succ]
  refine wpAnyH_take (i := 29) (oi := { dst := some 36, op := Op.call { callee := Callee.builtin Builtin.len, args := #[Operand.tmp 35], argTypes := #[47] }, type := 3, pos := "record.go:107", after := #[{ on := 28, ground := Ground.data }, { on := 23, ground := Ground.guard }], guard := some (23, false) }) (v := undef) rfl (by kernel_rfl) (by kernel_rfl) (by kernel_rfl) (fun _ _ _ h => h) (Or.inr ⟨by rfl, rfl⟩) (by assumption) ?_
  try simp only [Act.put, List.setIfInBounds_toArray, List.set_cons_zero, List.set_cons_succ]
  refine wpAnyH_take (i := 30) (oi := { dst := some 37, op := Op.binOp BinOp.neq 3 (Operand.tmp 33) (Operand.tmp 36) 3, type := 4, pos := "record.go:107", after := #[{ on := 26, ground := Ground.data }, { on := 29, ground := Ground.data }, { on := 23, ground := Ground.guard }], guard := some (23, false) }) (v := undef) rfl (by kernel_rfl) (by kernel_rfl) (by kernel_rfl) (fun _ _ _ h => h) (Or.inr ⟨by rfl, rfl⟩) (by assumption) ?_
  try simp only [Act.put, List.setIfInBounds_toArray, List.set_cons_zero, List.set_cons_succ]
  refine wpAnyH_take (i := 31) (oi := { dst := some 38, op := Op.pick (Operand.tmp 30) (Operand.const (Value.bool true)) (Operand.tmp 37), type := 4, pos := "record.go:107", after := #[{ on := 23, ground := Ground.data }, { on := 30, ground := Ground.data }], guard := none }) (v := ?_) rfl (by kernel_rfl) (by kernel_rfl) (by kernel_rfl) (fun _ _ _ h => h) (Or.inl ⟨by rfl, ?_⟩) (by assumption) ?_
  rotate_left
  · (intro z hSw; (try dsimp only at hSw); go_simp)
    all_goals with_reducible rfl
  try simp only [Act.put, List.setIfInBounds_toArray, List.set_cons_zero, List.set_cons_succ]
  refine wpAnyH_done (by kernel_rfl) ?_ _
  have HF := hid (HB1.out.trans (hHeld.2.mono (by omega)))
  clear hHeld
  go_wp2_with fail
  go_ret
  exact ⟨rfl, HF.out⟩
set_option maxHeartbeats 800000 in
set_option maxRecDepth 20000 in
theorem same_no3 (t t2 : Int) (kh kh2 vh vh2 : Bool) (n1 n2 : Nat) (kd kd2 vd vd2 : ByteArray) (a1 a2 : Option Addr) (cap1 cap2 : Nat) (w : World) (h : t = t2) (hk : kh = kh2 ∧ bd kh kd = bd kh2 kd2) (hv : ¬ (vh = vh2 ∧ bd vh vd = bd vh2 vd2)) :
    Calls Tryz.prog 43 #[.agg #[.int .i64 t, .bool kh, .string kd, .bool vh, .string vd, .slice a1 n1 cap1], .agg #[.int .i64 t2, .bool kh2, .string kd2, .bool vh2, .string vd2, .slice a2 n2 cap2]] w fun e w' => e = .returned (.bool false) ∧ Below w.heap.size w w' := by
  have g1 := fun x y w => run_eqGuard_agg (P := Tryz.prog) w BinOp.neq 46 x y #[.bool kh, .string (bd kh kd)] #[.bool kh2, .string (bd kh2 kd2)] Tryz.optGuard
  have g2 := fun x y w => run_eqGuard_agg (P := Tryz.prog) w BinOp.neq 46 x y #[.bool vh, .string (bd vh vd)] #[.bool vh2, .string (bd vh2 vd2)] Tryz.optGuard
  have m1 : ∀ w, (binOp .neq 46 (.agg #[.bool kh, .string (bd kh kd)]) (.agg #[.bool kh2, .string (bd kh2 kd2)])).run Tryz.prog w = .ok (.bool false) w := fun w => by rw [hk.2, hk.1]; exact neq_opt _ _ w
  have m2 := fun w => neq_opt_ne hv w
  have e1 : ((t : Int) != (t2 : Int)) = false := by rw [bne_eq_false_iff_eq]; exact h
  clear h hk hv
  go_enter Tryz.func43, Tryz.ntmps43
  go_wp2_with fail
  have h1 : ((w.alloc (.cells #[.int .i64 t, .bool kh, .string kd, .bool vh, .string vd, .slice a1 n1 cap1] 49)).alloc (.cells #[.int .i64 t2, .bool kh2, .string kd2, .bool vh2, .string vd2, .slice a2 n2 cap2] 49)).heap[w.heap.size]? = some (.cells #[.int .i64 t, .bool kh, .string kd, .bool vh, .string vd, .slice a1 n1 cap1] 49 (0, 0)) := heap_alloc_at (heap_new _ _)
  have h2 : ((w.alloc (.cells #[.int .i64 t, .bool kh, .string kd, .bool vh, .string vd, .slice a1 n1 cap1] 49)).alloc (.cells #[.int .i64 t2, .bool kh2, .string kd2, .bool vh2, .string vd2, .slice a2 n2 cap2] 49)).heap[w.heap.size + 1]? = some (.cells #[.int .i64 t2, .bool kh2, .string kd2, .bool vh2, .string vd2, .slice a2 n2 cap2] 49 (0, 0)) := heap_new' _ _ _ (by simp)
  have hb1 : Below w.heap.size w ((w.alloc (.cells #[.int .i64 t, .bool kh, .string kd, .bool vh, .string vd, .slice a1 n1 cap1] 49)).alloc (.cells #[.int .i64 t2, .bool kh2, .string kd2, .bool vh2, .string vd2, .slice a2 n2 cap2] 49)) := ((Below.refl _ w).alloc (Nat.le_refl _) _).alloc (by simp) _
  have hs1 : ((w.alloc (.cells #[.int .i64 t, .bool kh, .string kd, .bool vh, .string vd, .slice a1 n1 cap1] 49)).alloc (.cells #[.int .i64 t2, .bool kh2, .string kd2, .bool vh2, .string vd2, .slice a2 n2 cap2] 49)).heap.size = w.heap.size + 2 := by simp
  generalize ((w.alloc (.cells #[.int .i64 t, .bool kh, .string kd, .bool vh, .string vd, .slice a1 n1 cap1] 49)).alloc (.cells #[.int .i64 t2, .bool kh2, .string kd2, .bool vh2, .string vd2, .slice a2 n2 cap2] 49)) = W2 at *
  have hB : w.heap.size + 2 ≤ W2.heap.size := by omega
  have HB1 := hid hb1
  have h0 : Below (w.heap.size + 2) W2 W2 := Below.refl _ _
  have H1 := hid h1
  have H2 := hid h2
  have y1 : w.heap.size < w.heap.size + 2 := by omega
  have y2 : w.heap.size + 1 < w.heap.size + 2 := by omega
  clear h1 h2 hb1
  refine wp_region_held_drew (S := fun x => ((x.cell? ⟨w.heap.size, 0, none⟩ = some (.int .i64 t) ∧ x.cell? ⟨w.heap.size, 1, none⟩ = some (.bool kh) ∧ x.cell? ⟨w.heap.size, 2, none⟩ = some (.string kd) ∧ x.cell? ⟨w.heap.size, 3, none⟩ = some (.bool vh) ∧ x.cell? ⟨w.heap.size, 4, none⟩ = some (.string vd) ∧ x.cell? ⟨w.heap.size, 5, none⟩ = some (.slice a1 n1 cap1)) ∧ (x.cell? ⟨w.heap.size + 1, 0, none⟩ = some (.int .i64 t2) ∧ x.cell? ⟨w.heap.size + 1, 1, none⟩ = some (.bool kh2) ∧ x.cell? ⟨w.heap.size + 1, 2, none⟩ = some (.string kd2) ∧ x.cell? ⟨w.heap.size + 1, 3, none⟩ = some (.bool vh2) ∧ x.cell? ⟨w.heap.size + 1, 4, none⟩ = some (.string vd2) ∧ x.cell? ⟨w.heap.size + 1, 5, none⟩ = some (.slice a2 n2 cap2))) ∧ Below (w.heap.size + 2) W2 x) (by kernel_rfl) (held12 H1.out H2.out y1 y2 (Below.drew h0)) (fun hHeld => ?_)
  refine wpAnyH_take (i := 0) (oi := { dst := some 7, op := Op.fieldAddr 49 (Operand.tmp 2) 0, type := 0, pos := "record.go:107", after := #[], guard := none }) (v := ?_) rfl (by kernel_rfl) (by kernel_rfl) (by kernel_rfl) (fun _ _ _ h => h) (Or.inl ⟨by rfl, ?_⟩) (by assumption) ?_
  rotate_left
  · (intro z hSw; (try dsimp only at hSw); go_simp)
    all_goals with_reducible rfl
  try simp only [Act.put, List.setIfInBounds_toArray, List.set_cons_zero, List.set_cons_succ]
  refine wpAnyH_take (i := 1) (oi := { dst := some 8, op := Op.load 2 (Operand.tmp 7), type := 2, pos := "record.go:107", after := #[{ on := 0, ground := Ground.data }], guard := none }) (v := ?_) rfl (by kernel_rfl) (by kernel_rfl) (by kernel_rfl) (fun _ _ _ h => h) (Or.inl ⟨by rfl, ?_⟩) (by assumption) ?_
  rotate_left
  · (intro z hSw; (try dsimp only at hSw); go_simp)
    all_goals with_reducible rfl
  try simp only [Act.put, List.setIfInBounds_toArray, List.set_cons_zero, List.set_cons_succ]
  refine wpAnyH_take (i := 2) (oi := { dst := some 9, op := Op.fieldAddr 49 (Operand.tmp 3) 0, type := 0, pos := "record.go:107", after := #[], guard := none }) (v := ?_) rfl (by kernel_rfl) (by kernel_rfl) (by kernel_rfl) (fun _ _ _ h => h) (Or.inl ⟨by rfl, ?_⟩) (by assumption) ?_
  rotate_left
  · (intro z hSw; (try dsimp only at hSw); go_simp)
    all_goals with_reducible rfl
  try simp only [Act.put, List.setIfInBounds_toArray, List.set_cons_zero, List.set_cons_succ]
  refine wpAnyH_take (i := 3) (oi := { dst := some 10, op := Op.load 2 (Operand.tmp 9), type := 2, pos := "record.go:107", after := #[{ on := 2, ground := Ground.data }], guard := none }) (v := ?_) rfl (by kernel_rfl) (by kernel_rfl) (by kernel_rfl) (fun _ _ _ h => h) (Or.inl ⟨by rfl, ?_⟩) (by assumption) ?_
  rotate_left
  · (intro z hSw; (try dsimp only at hSw); go_simp)
    all_goals with_reducible rfl
  try simp only [Act.put, List.setIfInBounds_toArray, List.set_cons_zero, List.set_cons_succ]
  refine wpAnyH_take (i := 4) (oi := { dst := some 11, op := Op.binOp BinOp.neq 2 (Operand.tmp 8) (Operand.tmp 10) 2, type := 4, pos := "record.go:107", after := #[{ on := 1, ground := Ground.data }, { on := 3, ground := Ground.data }], guard := none }) (v := ?_) rfl (by kernel_rfl) (by kernel_rfl) (by kernel_rfl) (fun _ _ _ h => h) (Or.inl ⟨by rfl, ?_⟩) (by assumption) ?_
  rotate_left
  · (intro z hSw; (try dsimp only at hSw); go_simp)
    all_goals with_reducible rfl
  try simp only [Act.put, List.setIfInBounds_toArray, List.set_cons_zero, List.set_cons_succ]
  refine wpAnyH_take (i := 5) (oi := { dst := some 12, op := Op.move (Operand.tmp 11), type := 4, pos := "record.go:107", after := #[{ on := 4, ground := Ground.data }], guard := none }) (v := ?_) rfl (by kernel_rfl) (by kernel_rfl) (by kernel_rfl) (fun _ _ _ h => h) (Or.inl ⟨by rfl, ?_⟩) (by assumption) ?_
  rotate_left
  · (intro z hSw; (try dsimp only at hSw); go_simp)
    all_goals with_reducible rfl
  try simp only [Act.put, List.setIfInBounds_toArray, List.set_cons_zero, List.set_cons_succ]
  refine wpAnyH_take (i := 6) (oi := { dst := some 13, op := Op.fieldAddr 49 (Operand.tmp 2) 1, type := 0, pos := "record.go:107", after := #[{ on := 5, ground := Ground.guard }], guard := some (5, false) }) (v := ?_) rfl (by kernel_rfl) (by kernel_rfl) (by kernel_rfl) (fun _ _ _ h => h) (Or.inl ⟨by rfl, ?_⟩) (by assumption) ?_
  rotate_left
  · (intro z hSw; (try dsimp only at hSw); go_simp)
    all_goals with_reducible rfl
  try simp only [Act.put, List.setIfInBounds_toArray, List.set_cons_zero, List.set_cons_succ]
  refine wpAnyH_take (i := 7) (oi := { dst := some 14, op := Op.load 46 (Operand.tmp 13), type := 46, pos := "record.go:107", after := #[{ on := 6, ground := Ground.data }, { on := 5, ground := Ground.guard }], guard := some (5, false) }) (v := ?_) rfl (by kernel_rfl) (by kernel_rfl) (by kernel_rfl) (fun _ _ _ h => h) (Or.inl ⟨by rfl, ?_⟩) (by assumption) ?_
  rotate_left
  · (intro z hSw; (try dsimp only at hSw); go_simp)
    all_goals with_reducible rfl
  try simp only [Act.put, List.setIfInBounds_toArray, List.set_cons_zero, List.set_cons_succ]
  refine wpAnyH_take (i := 9) (oi := { dst := some 16, op := Op.fieldAddr 49 (Operand.tmp 3) 1, type := 0, pos := "record.go:107", after := #[{ on := 5, ground := Ground.guard }], guard := some (5, false) }) (v := ?_) rfl (by kernel_rfl) (by kernel_rfl) (by kernel_rfl) (fun _ _ _ h => h) (Or.inl ⟨by rfl, ?_⟩) (by assumption) ?_
  rotate_left
  · (intro z hSw; (try dsimp only at hSw); go_simp)
    all_goals with_reducible rfl
  try simp only [Act.put, List.setIfInBounds_toArray, List.set_cons_zero, List.set_cons_succ]
  refine wpAnyH_take (i := 10) (oi := { dst := some 17, op := Op.load 46 (Operand.tmp 16), type := 46, pos := "record.go:107", after := #[{ on := 9, ground := Ground.data }, { on := 5, ground := Ground.guard }], guard := some (5, false) }) (v := ?_) rfl (by kernel_rfl) (by kernel_rfl) (by kernel_rfl) (fun _ _ _ h => h) (Or.inl ⟨by rfl, ?_⟩) (by assumption) ?_
  rotate_left
  · (intro z hSw; (try dsimp only at hSw); go_simp)
    all_goals with_reducible rfl
  try simp only [Act.put, List.setIfInBounds_toArray, List.set_cons_zero, List.set_cons_succ]
  refine wpAnyH_ready (rs := [8]) (by kernel_rfl) (by simp) ?_
  refine AllReadyH.cons (o := { dst := some 15, op := Op.call { callee := Callee.value (Operand.func 80), args := #[Operand.tmp 14], argTypes := #[46] }, type := 46, pos := "record.go:107", after := #[{ on := 7, ground := Ground.data }, { on := 5, ground := Ground.chain }, { on := 5, ground := Ground.guard }], guard := some (5, false) }) rfl (fun K hK => ?_) AllReadyH.nil
  go_simp
  go_at_call 80
  refine (bareB _ _ (w.heap.size + 2) W2 _ hB (by first | assumption | exact hHeld.2)).mono ?_
  rintro e wc1 ⟨rfl, hbel1⟩
  go_wp2_with fail
  refine hK.out _ _ (held12 H1.out H2.out y1 y2 hbel1) (fun hHeld => ?_)
  clear hK K
  try simp only [Act.put, List.setIfInBounds_toArray, List.set_cons_zero, List.set_cons_succ]
  refine wpAnyH_ready (rs := [11]) (by kernel_rfl) (by simp) ?_
  refine AllReadyH.cons (o := { dst := some 18, op := Op.call { callee := Callee.value (Operand.func 80), args := #[Operand.tmp 17], argTypes := #[46] }, type := 46, pos := "record.go:107", after := #[{ on := 10, ground := Ground.data }, { on := 8, ground := Ground.chain }, { on := 5, ground := Ground.guard }], guard := some (5, false) }) rfl (fun K hK => ?_) AllReadyH.nil
  go_simp
  go_at_call 80
  refine (bareB _ _ (w.heap.size + 2) W2 _ hB (by first | assumption | exact hHeld.2)).mono ?_
  rintro e wc2 ⟨rfl, hbel2⟩
  go_wp2_with fail
  refine hK.out _ _ (held12 H1.out H2.out y1 y2 hbel2) (fun hHeld => ?_)
  clear hK K
  try simp only [Act.put, List.setIfInBounds_toArray, List.set_cons_zero, List.set_cons_succ]
  refine wpAnyH_take (i := 12) (oi := { dst := some 19, op := Op.binOp BinOp.neq 46 (Operand.tmp 15) (Operand.tmp 18) 46, type := 4, pos := "record.go:107", after := #[{ on := 8, ground := Ground.data }, { on := 11, ground := Ground.data }, { on := 5, ground := Ground.guard }], guard := some (5, false) }) (v := ?_) rfl (by kernel_rfl) (by kernel_rfl) (by kernel_rfl) (fun _ _ _ h => h) (Or.inl ⟨by rfl, ?_⟩) (by assumption) ?_
  rotate_left
  · (intro z hSw; (try dsimp only at hSw); go_simp)
    all_goals with_reducible rfl
  try simp only [Act.put, List.setIfInBounds_toArray, List.set_cons_zero, List.set_cons_succ]
  refine wpAnyH_take (i := 13) (oi := { dst := some 20, op := Op.pick (Operand.tmp 12) (Operand.const (Value.bool true)) (Operand.tmp 19), type := 4, pos := "record.go:107", after := #[{ on := 5, ground := Ground.data }, { on := 12, ground := Ground.data }], guard := none }) (v := ?_) rfl (by kernel_rfl) (by kernel_rfl) (by kernel_rfl) (fun _ _ _ h => h) (Or.inl ⟨by rfl, ?_⟩) (by assumption) ?_
  rotate_left
  · (intro z hSw; (try dsimp only at hSw); go_simp)
    all_goals with_reducible rfl
  try simp only [Act.put, List.setIfInBounds_toArray, List.set_cons_zero, List.set_cons_succ]
  refine wpAnyH_take (i := 14) (oi := { dst := some 21, op := Op.move (Operand.tmp 20), type := 4, pos := "record.go:107", after := #[{ on := 13, ground := Ground.data }, { on := 11, ground := Ground.chain }], guard := none }) (v := ?_) rfl (by kernel_rfl) (by kernel_rfl) (by kernel_rfl) (fun _ _ _ h => h) (Or.inl ⟨by rfl, ?_⟩) (by assumption) ?_
  rotate_left
  · (intro z hSw; (try dsimp only at hSw); go_simp)
    all_goals with_reducible rfl
  try simp only [Act.put, List.setIfInBounds_toArray, List.set_cons_zero, List.set_cons_succ]
  refine wpAnyH_take (i := 15) (oi := { dst := some 22, op := Op.fieldAddr 49 (Operand.tmp 2) 2, type := 0, pos := "record.go:107", after := #[{ on := 14, ground := Ground.guard }], guard := some (14, false) }) (v := ?_) rfl (by kernel_rfl) (by kernel_rfl) (by kernel_rfl) (fun _ _ _ h => h) (Or.inl ⟨by rfl, ?_⟩) (by assumption) ?_
  rotate_left
  · (intro z hSw; (try dsimp only at hSw); go_simp)
    all_goals with_reducible rfl
  try simp only [Act.put, List.setIfInBounds_toArray, List.set_cons_zero, List.set_cons_succ]
  refine wpAnyH_take (i := 16) (oi := { dst := some 23, op := Op.load 46 (Operand.tmp 22), type := 46, pos := "record.go:107", after := #[{ on := 15, ground := Ground.data }, { on := 14, ground := Ground.guard }], guard := some (14, false) }) (v := ?_) rfl (by kernel_rfl) (by kernel_rfl) (by kernel_rfl) (fun _ _ _ h => h) (Or.inl ⟨by rfl, ?_⟩) (by assumption) ?_
  rotate_left
  · (intro z hSw; (try dsimp only at hSw); go_simp)
    all_goals with_reducible rfl
  try simp only [Act.put, List.setIfInBounds_toArray, List.set_cons_zero, List.set_cons_succ]
  refine wpAnyH_take (i := 18) (oi := { dst := some 25, op := Op.fieldAddr 49 (Operand.tmp 3) 2, type := 0, pos := "record.go:107", after := #[{ on := 14, ground := Ground.guard }], guard := some (14, false) }) (v := ?_) rfl (by kernel_rfl) (by kernel_rfl) (by kernel_rfl) (fun _ _ _ h => h) (Or.inl ⟨by rfl, ?_⟩) (by assumption) ?_
  rotate_left
  · (intro z hSw; (try dsimp only at hSw); go_simp)
    all_goals with_reducible rfl
  try simp only [Act.put, List.setIfInBounds_toArray, List.set_cons_zero, List.set_cons_succ]
  refine wpAnyH_take (i := 19) (oi := { dst := some 26, op := Op.load 46 (Operand.tmp 25), type := 46, pos := "record.go:107", after := #[{ on := 18, ground := Ground.data }, { on := 14, ground := Ground.guard }], guard := some (14, false) }) (v := ?_) rfl (by kernel_rfl) (by kernel_rfl) (by kernel_rfl) (fun _ _ _ h => h) (Or.inl ⟨by rfl, ?_⟩) (by assumption) ?_
  rotate_left
  · (intro z hSw; (try dsimp only at hSw); go_simp)
    all_goals with_reducible rfl
  try simp only [Act.put, List.setIfInBounds_toArray, List.set_cons_zero, List.set_cons_succ]
  refine wpAnyH_ready (rs := [17]) (by kernel_rfl) (by simp) ?_
  refine AllReadyH.cons (o := { dst := some 24, op := Op.call { callee := Callee.value (Operand.func 80), args := #[Operand.tmp 23], argTypes := #[46] }, type := 46, pos := "record.go:107", after := #[{ on := 16, ground := Ground.data }, { on := 14, ground := Ground.chain }, { on := 14, ground := Ground.guard }], guard := some (14, false) }) rfl (fun K hK => ?_) AllReadyH.nil
  go_simp
  go_at_call 80
  refine (bareB _ _ (w.heap.size + 2) W2 _ hB (by first | assumption | exact hHeld.2)).mono ?_
  rintro e wc3 ⟨rfl, hbel3⟩
  go_wp2_with fail
  refine hK.out _ _ (held12 H1.out H2.out y1 y2 hbel3) (fun hHeld => ?_)
  clear hK K
  try simp only [Act.put, List.setIfInBounds_toArray, List.set_cons_zero, List.set_cons_succ]
  refine wpAnyH_ready (rs := [20]) (by kernel_rfl) (by simp) ?_
  refine AllReadyH.cons (o := { dst := some 27, op := Op.call { callee := Callee.value (Operand.func 80), args := #[Operand.tmp 26], argTypes := #[46] }, type := 46, pos := "record.go:107", after := #[{ on := 19, ground := Ground.data }, { on := 17, ground := Ground.chain }, { on := 14, ground := Ground.guard }], guard := some (14, false) }) rfl (fun K hK => ?_) AllReadyH.nil
  go_simp
  go_at_call 80
  refine (bareB _ _ (w.heap.size + 2) W2 _ hB (by first | assumption | exact hHeld.2)).mono ?_
  rintro e wc4 ⟨rfl, hbel4⟩
  go_wp2_with fail
  refine hK.out _ _ (held12 H1.out H2.out y1 y2 hbel4) (fun hHeld => ?_)
  clear hK K
  try simp only [Act.put, List.setIfInBounds_toArray, List.set_cons_zero, List.set_cons_succ]
  refine wpAnyH_take (i := 21) (oi := { dst := some 28, op := Op.binOp BinOp.neq 46 (Operand.tmp 24) (Operand.tmp 27) 46, type := 4, pos := "record.go:107", after := #[{ on := 17, ground := Ground.data }, { on := 20, ground := Ground.data }, { on := 14, ground := Ground.guard }], guard := some (14, false) }) (v := ?_) rfl (by kernel_rfl) (by kernel_rfl) (by kernel_rfl) (fun _ _ _ h => h) (Or.inl ⟨by rfl, ?_⟩) (by assumption) ?_
  rotate_left
  · (intro z hSw; (try dsimp only at hSw); go_simp)
    all_goals with_reducible rfl
  try simp only [Act.put, List.setIfInBounds_toArray, List.set_cons_zero, List.set_cons_succ]
  refine wpAnyH_take (i := 22) (oi := { dst := some 29, op := Op.pick (Operand.tmp 21) (Operand.const (Value.bool true)) (Operand.tmp 28), type := 4, pos := "record.go:107", after := #[{ on := 14, ground := Ground.data }, { on := 21, ground := Ground.data }], guard := none }) (v := ?_) rfl (by kernel_rfl) (by kernel_rfl) (by kernel_rfl) (fun _ _ _ h => h) (Or.inl ⟨by rfl, ?_⟩) (by assumption) ?_
  rotate_left
  · (intro z hSw; (try dsimp only at hSw); go_simp)
    all_goals with_reducible rfl
  try simp only [Act.put, List.setIfInBounds_toArray, List.set_cons_zero, List.set_cons_succ]
  refine wpAnyH_take (i := 23) (oi := { dst := some 30, op := Op.move (Operand.tmp 29), type := 4, pos := "record.go:107", after := #[{ on := 22, ground := Ground.data }, { on := 20, ground := Ground.chain }], guard := none }) (v := ?_) rfl (by kernel_rfl) (by kernel_rfl) (by kernel_rfl) (fun _ _ _ h => h) (Or.inl ⟨by rfl, ?_⟩) (by assumption) ?_
  rotate_left
  · (intro z hSw; (try dsimp only at hSw); go_simp)
    all_goals with_reducible rfl
  try simp only [Act.put, List.setIfInBounds_toArray, List.set_cons_zero, List.set_cons_succ]
  refine wpAnyH_take (i := 24) (oi := { dst := some 31, op := Op.fieldAddr 49 (Operand.tmp 2) 3, type := 0, pos := "record.go:107", after := #[{ on := 23, ground := Ground.guard }], guard := some (23, false) }) (v := undef) rfl (by kernel_rfl) (by kernel_rfl) (by kernel_rfl) (fun _ _ _ h => h) (Or.inr ⟨by rfl, rfl⟩) (by assumption) ?_
  try simp only [Act.put, List.setIfInBounds_toArray, List.set_cons_zero, List.set_cons_succ]
  refine wpAnyH_take (i := 25) (oi := { dst := some 32, op := Op.load 47 (Operand.tmp 31), type := 47, pos := "record.go:107", after := #[{ on := 24, ground := Ground.data }, { on := 23, ground := Ground.guard }], guard := some (23, false) }) (v := undef) rfl (by kernel_rfl) (by kernel_rfl) (by kernel_rfl) (fun _ _ _ h => h) (Or.inr ⟨by rfl, rfl⟩) (by assumption) ?_
  try simp only [Act.put, List.setIfInBounds_toArray, List.set_cons_zero, List.set_cons_succ]
  refine wpAnyH_take (i := 26) (oi := { dst := some 33, op := Op.call { callee := Callee.builtin Builtin.len, args := #[Operand.tmp 32], argTypes := #[47] }, type := 3, pos := "record.go:107", after := #[{ on := 25, ground := Ground.data }, { on := 23, ground := Ground.guard }], guard := some (23, false) }) (v := undef) rfl (by kernel_rfl) (by kernel_rfl) (by kernel_rfl) (fun _ _ _ h => h) (Or.inr ⟨by rfl, rfl⟩) (by assumption) ?_
  try simp only [Act.put, List.setIfInBounds_toArray, List.set_cons_zero, List.set_cons_succ]
  refine wpAnyH_take (i := 27) (oi := { dst := some 34, op := Op.fieldAddr 49 (Operand.tmp 3) 3, type := 0, pos := "record.go:107", after := #[{ on := 23, ground := Ground.guard }], guard := some (23, false) }) (v := undef) rfl (by kernel_rfl) (by kernel_rfl) (by kernel_rfl) (fun _ _ _ h => h) (Or.inr ⟨by rfl, rfl⟩) (by assumption) ?_
  try simp only [Act.put, List.setIfInBounds_toArray, List.set_cons_zero, List.set_cons_succ]
  refine wpAnyH_take (i := 28) (oi := { dst := some 35, op := Op.load 47 (Operand.tmp 34), type := 47, pos := "record.go:107", after := #[{ on := 27, ground := Ground.data }, { on := 23, ground := Ground.guard }], guard := some (23, false) }) (v := undef) rfl (by kernel_rfl) (by kernel_rfl) (by kernel_rfl) (fun _ _ _ h => h) (Or.inr ⟨by rfl, rfl⟩) (by assumption) ?_
  try simp only [Act.put, List.setIfInBounds_toArray, List.set_cons_zero, List.set_cons_succ]
  refine wpAnyH_take (i := 29) (oi := { dst := some 36, op := Op.call { callee := Callee.builtin Builtin.len, args := #[Operand.tmp 35], argTypes := #[47] }, type := 3, pos := "record.go:107", after := #[{ on := 28, ground := Ground.data }, { on := 23, ground := Ground.guard }], guard := some (23, false) }) (v := undef) rfl (by kernel_rfl) (by kernel_rfl) (by kernel_rfl) (fun _ _ _ h => h) (Or.inr ⟨by rfl, rfl⟩) (by assumption) ?_
  try simp only [Act.put, List.setIfInBounds_toArray, List.set_cons_zero, List.set_cons_succ]
  refine wpAnyH_take (i := 30) (oi := { dst := some 37, op := Op.binOp BinOp.neq 3 (Operand.tmp 33) (Operand.tmp 36) 3, type := 4, pos := "record.go:107", after := #[{ on := 26, ground := Ground.data }, { on := 29, ground := Ground.data }, { on := 23, ground := Ground.guard }], guard := some (23, false) }) (v := undef) rfl (by kernel_rfl) (by kernel_rfl) (by kernel_rfl) (fun _ _ _ h => h) (Or.inr ⟨by rfl, rfl⟩) (by assumption) ?_
  try simp only [Act.put, List.setIfInBounds_toArray, List.set_cons_zero, List.set_cons_succ]
  refine wpAnyH_take (i := 31) (oi := { dst := some 38, op := Op.pick (Operand.tmp 30) (Operand.const (Value.bool true)) (Operand.tmp 37), type := 4, pos := "record.go:107", after := #[{ on := 23, ground := Ground.data }, { on := 30, ground := Ground.data }], guard := none }) (v := ?_) rfl (by kernel_rfl) (by kernel_rfl) (by kernel_rfl) (fun _ _ _ h => h) (Or.inl ⟨by rfl, ?_⟩) (by assumption) ?_
  rotate_left
  · (intro z hSw; (try dsimp only at hSw); go_simp)
    all_goals with_reducible rfl
  try simp only [Act.put, List.setIfInBounds_toArray, List.set_cons_zero, List.set_cons_succ]
  refine wpAnyH_done (by kernel_rfl) ?_ _
  have HF := hid (HB1.out.trans (hHeld.2.mono (by omega)))
  clear hHeld
  go_wp2_with fail
  go_ret
  exact ⟨rfl, HF.out⟩
end Go.Proofs.YtihokphamgkkcaaGreat
namespace Go.Proofs.YtihokphamgkkcaaGreat
open Go.RowKit
set_option maxHeartbeats 800000 in
set_option maxRecDepth 20000 in
theorem same_no5 (t : Int) (kh vh : Bool) (kd kd2 vd vd2 : ByteArray) (hs hs2 : List Hdr) (a1 a2 : Option Addr) (cap1 cap2 : Nat) (w : World) (V1 : Hds w a1 hs) (V2 : Hds w a2 hs2) (hz : hs.length ≤ 9223372036854775807) (hK : bd kh kd2 = bd kh kd) (hV : bd vh vd2 = bd vh vd) (hl2 : hs2.length = hs.length)
    (j0 : Nat) (hj0 : j0 < hs.length) (hH : ∀ j, j < j0 → (hs2.getD j df).1 = (hs.getD j df).1 ∧ (hs2.getD j df).2.1 = (hs.getD j df).2.1 ∧ bd (hs2.getD j df).2.1 (hs2.getD j df).2.2 = bd (hs.getD j df).2.1 (hs.getD j df).2.2)
    (hX : ¬ ((hs.getD j0 df).1 = (hs2.getD j0 df).1 ∧ (hs.getD j0 df).2.1 = (hs2.getD j0 df).2.1 ∧ bd (hs.getD j0 df).2.1 (hs.getD j0 df).2.2 = bd (hs2.getD j0 df).2.1 (hs2.getD j0 df).2.2)) :
    Calls Tryz.prog 43 #[.agg #[.int .i64 t, .bool kh, .string kd, .bool vh, .string vd, .slice a1 hs.length cap1], .agg #[.int .i64 t, .bool kh, .string kd2, .bool vh, .string vd2, .slice a2 hs.length cap2]] w fun e w' => e = .returned (.bool false) ∧ Below w.heap.size w w' := by
  have n1 : ∀ w, (binOp .neq 46 (.agg #[.bool kh, .string (bd kh kd)]) (.agg #[.bool kh, .string (bd kh kd2)])).run Tryz.prog w = .ok (.bool false) w := fun w => by rw [hK]; exact neq_opt _ _ w
  have n2 : ∀ w, (binOp .neq 46 (.agg #[.bool vh, .string (bd vh vd)]) (.agg #[.bool vh, .string (bd vh vd2)])).run Tryz.prog w = .ok (.bool false) w := fun w => by rw [hV]; exact neq_opt _ _ w
  have g1 := fun x y w => run_eqGuard_agg (P := Tryz.prog) w BinOp.neq 46 x y #[.bool kh, .string (bd kh kd)] #[.bool kh, .string (bd kh kd2)] Tryz.optGuard
  have g2 := fun x y w => run_eqGuard_agg (P := Tryz.prog) w BinOp.neq 46 x y #[.bool vh, .string (bd vh vd)] #[.bool vh, .string (bd vh vd2)] Tryz.optGuard
  have HH := hid hH
  have HX := hid hX
  have HJ0 := hid hj0
  have HV1 := hid V1
  have HV2 := hid V2
  have HL2 := hid hl2
  clear hH hX hj0 V1 V2 hK hV hl2
  go_enter Tryz.func43, Tryz.ntmps43
  go_wp2_with fail
  have h1 : ((w.alloc (.cells #[.int .i64 t, .bool kh, .string kd, .bool vh, .string vd, .slice a1 hs.length cap1] 49)).alloc (.cells #[.int .i64 t, .bool kh, .string kd2, .bool vh, .string vd2, .slice a2 hs.length cap2] 49)).heap[w.heap.size]? = some (.cells #[.int .i64 t, .bool kh, .string kd, .bool vh, .string vd, .slice a1 hs.length cap1] 49 (0, 0)) := heap_alloc_at (heap_new _ _)
  have h2 : ((w.alloc (.cells #[.int .i64 t, .bool kh, .string kd, .bool vh, .string vd, .slice a1 hs.length cap1] 49)).alloc (.cells #[.int .i64 t, .bool kh, .string kd2, .bool vh, .string vd2, .slice a2 hs.length cap2] 49)).heap[w.heap.size + 1]? = some (.cells #[.int .i64 t, .bool kh, .string kd2, .bool vh, .string vd2, .slice a2 hs.length cap2] 49 (0, 0)) := heap_new' _ _ _ (by simp)
  have hb1 : Below w.heap.size w ((w.alloc (.cells #[.int .i64 t, .bool kh, .string kd, .bool vh, .string vd, .slice a1 hs.length cap1] 49)).alloc (.cells #[.int .i64 t, .bool kh, .string kd2, .bool vh, .string vd2, .slice a2 hs.length cap2] 49)) := ((Below.refl _ w).alloc (Nat.le_refl _) _).alloc (by simp) _
  have hs1 : ((w.alloc (.cells #[.int .i64 t, .bool kh, .string kd, .bool vh, .string vd, .slice a1 hs.length cap1] 49)).alloc (.cells #[.int .i64 t, .bool kh, .string kd2, .bool vh, .string vd2, .slice a2 hs.length cap2] 49)).heap.size = w.heap.size + 2 := by simp
  generalize (w.alloc (.cells #[.int .i64 t, .bool kh, .string kd, .bool vh, .string vd, .slice a1 hs.length cap1] 49)).alloc (.cells #[.int .i64 t, .bool kh, .string kd2, .bool vh, .string vd2, .slice a2 hs.length cap2] 49) = W2 at *
  have hB : w.heap.size + 2 ≤ W2.heap.size := by omega
  have HB1 := hid hb1
  have h0 : Below (w.heap.size + 2) W2 W2 := Below.refl _ _
  have H1 := hid h1
  have H2 := hid h2
  have y1 : w.heap.size < w.heap.size + 2 := by omega
  have y2 : w.heap.size + 1 < w.heap.size + 2 := by omega
  clear h1 h2 hb1
  go_region_held3 (fun x => ((x.cell? ⟨w.heap.size, 0, none⟩ = some (.int .i64 t) ∧ x.cell? ⟨w.heap.size, 1, none⟩ = some (.bool kh) ∧ x.cell? ⟨w.heap.size, 2, none⟩ = some (.string kd) ∧ x.cell? ⟨w.heap.size, 3, none⟩ = some (.bool vh) ∧ x.cell? ⟨w.heap.size, 4, none⟩ = some (.string vd) ∧ x.cell? ⟨w.heap.size, 5, none⟩ = some (.slice a1 hs.length cap1)) ∧ (x.cell? ⟨w.heap.size + 1, 0, none⟩ = some (.int .i64 t) ∧ x.cell? ⟨w.heap.size + 1, 1, none⟩ = some (.bool kh) ∧ x.cell? ⟨w.heap.size + 1, 2, none⟩ = some (.string kd2) ∧ x.cell? ⟨w.heap.size + 1, 3, none⟩ = some (.bool vh) ∧ x.cell? ⟨w.heap.size + 1, 4, none⟩ = some (.string vd2) ∧ x.cell? ⟨w.heap.size + 1, 5, none⟩ = some (.slice a2 hs.length cap2))) ∧ Below (w.heap.size + 2) W2 x) (first | with_reducible exact held12 H1.out H2.out y1 y2 (by assumption) | with_reducible exact held12 H1.out H2.out y1 y2 (Below.drew (by assumption))) (first | (go_at_call 80; refine (bareB _ _ (w.heap.size + 2) W2 _ hB ?_).mono ?_; (first | assumption | exact Below.drew (by assumption)); rintro e w' ⟨rfl, hbel⟩))
  rename_i hHeld
  obtain ⟨⟨⟨_, _, _, _, _, c5⟩, ⟨_, _, _, _, _, d5⟩⟩, hbx⟩ := hHeld
  clear n1 n2 g1 g2
  go_wp2_with fail
  go_loopg [5, 42] (j0 + 1) (fun k _ i wr => ∃ j : Nat, j + k = j0 + 1 ∧ j ≤ j0 ∧ i = .int .i64 j ∧ Hid (Below (w.heap.size + 2) W2 wr))
  case atStart => exact ⟨0, by omega, by omega, rfl, hbx⟩
  case round =>
    obtain ⟨j, hk, hle, rfl, HB⟩ := hrel
    have hlt : j < hs.length := by have := HJ0.out; omega
    obtain ⟨k, rfl⟩ : ∃ k, gk = k + 1 := ⟨gk - 1, by omega⟩
    by_cases hjj : j < j0
    · obtain ⟨e1, e2, e3⟩ := HH.out j hjj
      rcases HV1.out with h | ⟨b, off, rfl, hbl, hc⟩
      · rw [h] at hlt; simp at hlt
      rcases HV2.out with h | ⟨b2, off2, rfl, hbl2, hc2⟩
      · have := HL2.out; rw [h] at this; simp at this; omega
      obtain ⟨q0, q1, q2⟩ := hc j hlt
      obtain ⟨p0, p1, p2⟩ := hc2 j (by have := HL2.out; omega)
      have hcw : ∀ b o, b < w.heap.size → wr.cell? ⟨b, o, none⟩ = w.cell? ⟨b, o, none⟩ := fun b o h => (HB.out.cell (p := ⟨b, o, none⟩) (by show b < _; omega)).trans (HB1.out.cell (p := ⟨b, o, none⟩) h)
      generalize hs.getD j df = x at *
      generalize hs2.getD j df = z at *
      obtain ⟨xk, xh, xd⟩ := x
      obtain ⟨zk, zh, zd⟩ := z
      simp only at q0 q1 q2 p0 p1 p2 e1 e2 e3
      subst e1 e2
      have l0 := (hcw b (off + j * 3) hbl).trans q0
      have l1 := (hcw b (off + j * 3 + 1) hbl).trans q1
      have l2 := (hcw b (off + j * 3 + 2) hbl).trans q2
      have o0 := (hcw b2 (off2 + j * 3) hbl2).trans p0
      have o1 := (hcw b2 (off2 + j * 3 + 1) hbl2).trans p1
      have o2 := (hcw b2 (off2 + j * 3 + 2) hbl2).trans p2
      have o5 : wr.cell? ⟨w.heap.size + 1, 5, none⟩ = some (.slice (some ⟨b2, off2, none⟩) hs.length cap2) := held_at H2.out y2 rfl HB.out
      have hbw := HB.out.size
      have i1 : (0 : Int) ≤ (j : Int) := by omega
      have i2 : (j : Int) < hs.length := by omega
      clear hcw q0 q1 q2 p0 p1 p2 hc hc2
      go_wp2_with fail
      have f1 : (wr.alloc (.cells #[.string zk, .bool zh, .string xd] 51)).heap[wr.heap.size]? = some (.cells #[.string zk, .bool zh, .string xd] 51 (0, 0)) := heap_new _ _
      have fb : Below wr.heap.size wr (wr.alloc (.cells #[.string zk, .bool zh, .string xd] 51)) := (Below.refl _ _).alloc (Nat.le_refl _) _
      have fs : (wr.alloc (.cells #[.string zk, .bool zh, .string xd] 51)).heap.size = wr.heap.size + 1 := by simp
      generalize wr.alloc (.cells #[.string zk, .bool zh, .string xd] 51) = W3 at *
      have hB3 : wr.heap.size + 1 ≤ W3.heap.size := by omega
      have z0 := (fb.cell (p := ⟨b2, off2 + j * 3, none⟩) (by show b2 < _; omega)).trans o0
      have z1 := (fb.cell (p := ⟨b2, off2 + j * 3 + 1, none⟩) (by show b2 < _; omega)).trans o1
      have z2 := (fb.cell (p := ⟨b2, off2 + j * 3 + 2, none⟩) (by show b2 < _; omega)).trans o2
      have z5 := (fb.cell (p := ⟨w.heap.size + 1, 5, none⟩) (by show w.heap.size + 1 < _; omega)).trans o5
      have HS : Hid (∀ x, Below (wr.heap.size + 1) W3 x → ((x.cell? ⟨wr.heap.size, 0, none⟩ = some (.string zk) ∧ x.cell? ⟨wr.heap.size, 1, none⟩ = some (.bool zh) ∧ x.cell? ⟨wr.heap.size, 2, none⟩ = some (.string xd)) ∧ x.cell? ⟨w.heap.size + 1, 5, none⟩ = some (.slice (some ⟨b2, off2, none⟩) hs.length cap2) ∧ (x.cell? ⟨b2, off2 + j * 3, none⟩ = some (.string zk) ∧ x.cell? ⟨b2, off2 + j * 3 + 1, none⟩ = some (.bool zh) ∧ x.cell? ⟨b2, off2 + j * 3 + 2, none⟩ = some (.string zd))) ∧ Below (wr.heap.size + 1) W3 x) := fun x hx =>
        ⟨⟨cells3 ((hx.block _ (Nat.lt_succ_self _)).trans f1), (hx.cell (p := ⟨w.heap.size + 1, 5, none⟩) (by show w.heap.size + 1 < _; omega)).trans z5, (hx.cell (p := ⟨b2, off2 + j * 3, none⟩) (by show b2 < _; omega)).trans z0, (hx.cell (p := ⟨b2, off2 + j * 3 + 1, none⟩) (by show b2 < _; omega)).trans z1, (hx.cell (p := ⟨b2, off2 + j * 3 + 2, none⟩) (by show b2 < _; omega)).trans z2⟩, hx⟩
      have n3 : ∀ w, (binOp .neq 51 (.agg #[.string zk, .bool zh, .string (bd zh xd)]) (.agg #[.string zk, .bool zh, .string (bd zh zd)])).run Tryz.prog w = .ok (.bool false) w := fun w => by rw [e3]; exact neq_hdr _ _ _ w
      have g3 := fun x y w => run_eqGuard_agg (P := Tryz.prog) w BinOp.neq 51 x y #[.string zk, .bool zh, .string (bd zh xd)] #[.string zk, .bool zh, .string (bd zh zd)] Tryz.hdrGuard
      have h03 : Below (wr.heap.size + 1) W3 W3 := Below.refl _ _
      have HBB := hid (HB.out.trans (fb.mono (by omega)))
      clear l0 l1 l2 o0 o1 o2 o5 z0 z1 z2 z5 f1 fb e3
      go_region_held3 (fun x => ((x.cell? ⟨wr.heap.size, 0, none⟩ = some (.string zk) ∧ x.cell? ⟨wr.heap.size, 1, none⟩ = some (.bool zh) ∧ x.cell? ⟨wr.heap.size, 2, none⟩ = some (.string xd)) ∧ x.cell? ⟨w.heap.size + 1, 5, none⟩ = some (.slice (some ⟨b2, off2, none⟩) hs.length cap2) ∧ (x.cell? ⟨b2, off2 + j * 3, none⟩ = some (.string zk) ∧ x.cell? ⟨b2, off2 + j * 3 + 1, none⟩ = some (.bool zh) ∧ x.cell? ⟨b2, off2 + j * 3 + 2, none⟩ = some (.string zd))) ∧ Below (wr.heap.size + 1) W3 x) (first | with_reducible exact HS.out _ (by assumption) | with_reducible exact HS.out _ (Below.drew (by assumption))) (first | (go_at_call 81; refine (barehB _ _ _ (wr.heap.size + 1) W3 _ hB3 ?_).mono ?_; (first | assumption | exact Below.drew (by assumption)); rintro e w' ⟨rfl, hbel⟩))
      all_goals
        rename_i hH3
        clear n3 g3
        go_wp2_with fail
        go_roundg k
        case measure => omega
        case rel => exact ⟨j + 1, by omega, by omega, by go_num, HBB.out.trans (hH3.2.mono (by omega))⟩
    · obtain rfl : j = j0 := by omega
      have hx := HX.out
      rcases HV1.out with h | ⟨b, off, rfl, hbl, hc⟩
      · rw [h] at hlt; simp at hlt
      rcases HV2.out with h | ⟨b2, off2, rfl, hbl2, hc2⟩
      · have := HL2.out; rw [h] at this; simp at this; omega
      obtain ⟨q0, q1, q2⟩ := hc j hlt
      obtain ⟨p0, p1, p2⟩ := hc2 j (by have := HL2.out; omega)
      have hcw : ∀ b o, b < w.heap.size → wr.cell? ⟨b, o, none⟩ = w.cell? ⟨b, o, none⟩ := fun b o h => (HB.out.cell (p := ⟨b, o, none⟩) (by show b < _; omega)).trans (HB1.out.cell (p := ⟨b, o, none⟩) h)
      generalize hs.getD j df = x at *
      generalize hs2.getD j df = z at *
      obtain ⟨xk, xh, xd⟩ := x
      obtain ⟨zk, zh, zd⟩ := z
      simp only at q0 q1 q2 p0 p1 p2 hx
      have l0 := (hcw b (off + j * 3) hbl).trans q0
      have l1 := (hcw b (off + j * 3 + 1) hbl).trans q1
      have l2 := (hcw b (off + j * 3 + 2) hbl).trans q2
      have o0 := (hcw b2 (off2 + j * 3) hbl2).trans p0
      have o1 := (hcw b2 (off2 + j * 3 + 1) hbl2).trans p1
      have o2 := (hcw b2 (off2 + j * 3 + 2) hbl2).trans p2
      have o5 : wr.cell? ⟨w.heap.size + 1, 5, none⟩ = some (.slice (some ⟨b2, off2, none⟩) hs.length cap2) := held_at H2.out y2 rfl HB.out
      have hbw := HB.out.size
      have i1 : (0 : Int) ≤ (j : Int) := by omega
      have i2 : (j : Int) < hs.length := by omega
      clear hcw q0 q1 q2 p0 p1 p2 hc hc2
      go_wp2_with fail
      have f1 : (wr.alloc (.cells #[.string xk, .bool xh, .string xd] 51)).heap[wr.heap.size]? = some (.cells #[.string xk, .bool xh, .string xd] 51 (0, 0)) := heap_new _ _
      have fb : Below wr.heap.size wr (wr.alloc (.cells #[.string xk, .bool xh, .string xd] 51)) := (Below.refl _ _).alloc (Nat.le_refl _) _
      have fs : (wr.alloc (.cells #[.string xk, .bool xh, .string xd] 51)).heap.size = wr.heap.size + 1 := by simp
      generalize wr.alloc (.cells #[.string xk, .bool xh, .string xd] 51) = W3 at *
      have hB3 : wr.heap.size + 1 ≤ W3.heap.size := by omega
      have z0 := (fb.cell (p := ⟨b2, off2 + j * 3, none⟩) (by show b2 < _; omega)).trans o0
      have z1 := (fb.cell (p := ⟨b2, off2 + j * 3 + 1, none⟩) (by show b2 < _; omega)).trans o1
      have z2 := (fb.cell (p := ⟨b2, off2 + j * 3 + 2, none⟩) (by show b2 < _; omega)).trans o2
      have z5 := (fb.cell (p := ⟨w.heap.size + 1, 5, none⟩) (by show w.heap.size + 1 < _; omega)).trans o5
      have HS : Hid (∀ x, Below (wr.heap.size + 1) W3 x → ((x.cell? ⟨wr.heap.size, 0, none⟩ = some (.string xk) ∧ x.cell? ⟨wr.heap.size, 1, none⟩ = some (.bool xh) ∧ x.cell? ⟨wr.heap.size, 2, none⟩ = some (.string xd)) ∧ x.cell? ⟨w.heap.size + 1, 5, none⟩ = some (.slice (some ⟨b2, off2, none⟩) hs.length cap2) ∧ (x.cell? ⟨b2, off2 + j * 3, none⟩ = some (.string zk) ∧ x.cell? ⟨b2, off2 + j * 3 + 1, none⟩ = some (.bool zh) ∧ x.cell? ⟨b2, off2 + j * 3 + 2, none⟩ = some (.string zd))) ∧ Below (wr.heap.size + 1) W3 x) := fun x hx =>
        ⟨⟨cells3 ((hx.block _ (Nat.lt_succ_self _)).trans f1), (hx.cell (p := ⟨w.heap.size + 1, 5, none⟩) (by show w.heap.size + 1 < _; omega)).trans z5, (hx.cell (p := ⟨b2, off2 + j * 3, none⟩) (by show b2 < _; omega)).trans z0, (hx.cell (p := ⟨b2, off2 + j * 3 + 1, none⟩) (by show b2 < _; omega)).trans z1, (hx.cell (p := ⟨b2, off2 + j * 3 + 2, none⟩) (by show b2 < _; omega)).trans z2⟩, hx⟩
      have n3 := fun w => neq_hdr_ne hx w
      have g3 := fun x y w => run_eqGuard_agg (P := Tryz.prog) w BinOp.neq 51 x y #[.string xk, .bool xh, .string (bd xh xd)] #[.string zk, .bool zh, .string (bd zh zd)] Tryz.hdrGuard
      have h03 : Below (wr.heap.size + 1) W3 W3 := Below.refl _ _
      have HBB := hid (HB.out.trans (fb.mono (by omega)))
      clear l0 l1 l2 o0 o1 o2 o5 z0 z1 z2 z5 f1 fb hx
      go_region_held3 (fun x => ((x.cell? ⟨wr.heap.size, 0, none⟩ = some (.string xk) ∧ x.cell? ⟨wr.heap.size, 1, none⟩ = some (.bool xh) ∧ x.cell? ⟨wr.heap.size, 2, none⟩ = some (.string xd)) ∧ x.cell? ⟨w.heap.size + 1, 5, none⟩ = some (.slice (some ⟨b2, off2, none⟩) hs.length cap2) ∧ (x.cell? ⟨b2, off2 + j * 3, none⟩ = some (.string zk) ∧ x.cell? ⟨b2, off2 + j * 3 + 1, none⟩ = some (.bool zh) ∧ x.cell? ⟨b2, off2 + j * 3 + 2, none⟩ = some (.string zd))) ∧ Below (wr.heap.size + 1) W3 x) (first | with_reducible exact HS.out _ (by assumption) | with_reducible exact HS.out _ (Below.drew (by assumption))) (first | (go_at_call 81; refine (barehB _ _ _ (wr.heap.size + 1) W3 _ hB3 ?_).mono ?_; (first | assumption | exact Below.drew (by assumption)); rintro e w' ⟨rfl, hbel⟩))
      all_goals
        rename_i hH3
        have HF := hid (HB1.out.trans ((HBB.out.trans (hH3.2.mono (by omega))).mono (by omega)))
        clear n3 g3 hH3
        go_wp2_with fail
        go_ret
        exact ⟨rfl, HF.out⟩
end Go.Proofs.YtihokphamgkkcaaGreat
namespace Go.Proofs.YtihokphamgkkcaaGreat
open Go.RowKit
/-- Two headers say the same. -/
def hq (x z : Hdr) : Prop := x.1 = z.1 ∧ x.2.1 = z.2.1 ∧ bd x.2.1 x.2.2 = bd z.2.1 z.2.2
/-- Two records say the same. -/
def SamR (r s : Rec) : Prop := r.t = s.t ∧ (r.kh = s.kh ∧ bd r.kh r.kd = bd s.kh s.kd) ∧ (r.vh = s.vh ∧ bd r.vh r.vd = bd s.vh s.vd) ∧ r.hs.length = s.hs.length ∧ ∀ j, j < r.hs.length → hq (r.hs.getD j df) (s.hs.getD j df)
noncomputable def sameB (r s : Rec) : Bool := @decide (SamR r s) (Classical.propDecidable _)
theorem sameB_yes {r s : Rec} (h : SamR r s) : sameB r s = true := @decide_eq_true _ (Classical.propDecidable _) h
theorem sameB_no {r s : Rec} (h : ¬ SamR r s) : sameB r s = false := @decide_eq_false _ (Classical.propDecidable _) h
theorem first_bad (P : Nat → Prop) : ∀ n, (∀ j, j < n → P j) ∨ ∃ j0, j0 < n ∧ ¬ P j0 ∧ ∀ j, j < j0 → P j
  | 0 => Or.inl (fun j hj => by omega)
  | n + 1 => by
    rcases first_bad P n with h | ⟨j0, h1, h2, h3⟩
    · rcases Classical.em (P n) with hp | hp
      · exact Or.inl (fun j hj => by
          rcases Nat.lt_or_ge j n with h4 | h4
          · exact h j h4
          · have : j = n := by omega
            rw [this]; exact hp)
      · exact Or.inr ⟨n, by omega, hp, h⟩
    · exact Or.inr ⟨j0, by omega, h2, h3⟩
theorem same_any (r s : Rec) (a1 a2 : Option Addr) (cap1 cap2 : Nat) (w : World) (V1 : Hds w a1 r.hs) (V2 : Hds w a2 s.hs) (hz : r.hs.length ≤ 9223372036854775807) :
    Calls Tryz.prog 43 #[.agg #[.int .i64 r.t, .bool r.kh, .string r.kd, .bool r.vh, .string r.vd, .slice a1 r.hs.length cap1], .agg #[.int .i64 s.t, .bool s.kh, .string s.kd, .bool s.vh, .string s.vd, .slice a2 s.hs.length cap2]] w fun e w' => e = .returned (.bool (sameB r s)) ∧ Below w.heap.size w w' := by
  obtain ⟨t, kh, kd, vh, vd, hs⟩ := r
  obtain ⟨t2, kh2, kd2, vh2, vd2, hs2⟩ := s
  dsimp only at V1 V2 hz ⊢
  by_cases h1 : t = t2
  · by_cases h2 : kh = kh2 ∧ bd kh kd = bd kh2 kd2
    · by_cases h3 : vh = vh2 ∧ bd vh vd = bd vh2 vd2
      · obtain ⟨rfl, hk⟩ := h2
        obtain ⟨rfl, hv⟩ := h3
        subst h1
        by_cases h4 : hs.length = hs2.length
        · rcases first_bad (fun j => hq (hs.getD j df) (hs2.getD j df)) hs.length with h5 | ⟨j0, h5, h6, h7⟩
          · rw [sameB_yes (r := ⟨t, kh, kd, vh, vd, hs⟩) (s := ⟨t, kh, kd2, vh, vd2, hs2⟩) ⟨rfl, ⟨rfl, hk⟩, ⟨rfl, hv⟩, h4, h5⟩, ← h4]
            exact same_yes t kh vh kd kd2 vd vd2 hs hs2 a1 a2 cap1 cap2 w V1 V2 hz hk.symm hv.symm h4.symm (fun j hj => ⟨(h5 j hj).1.symm, (h5 j hj).2.1.symm, (h5 j hj).2.2.symm⟩)
          · rw [sameB_no (r := ⟨t, kh, kd, vh, vd, hs⟩) (s := ⟨t, kh, kd2, vh, vd2, hs2⟩) (fun h => h6 (h.2.2.2.2 j0 h5)), ← h4]
            exact same_no5 t kh vh kd kd2 vd vd2 hs hs2 a1 a2 cap1 cap2 w V1 V2 hz hk.symm hv.symm h4.symm j0 h5 (fun j hj => ⟨(h7 j hj).1.symm, (h7 j hj).2.1.symm, (h7 j hj).2.2.symm⟩) h6
        · rw [sameB_no (r := ⟨t, kh, kd, vh, vd, hs⟩) (s := ⟨t, kh, kd2, vh, vd2, hs2⟩) (fun h => h4 h.2.2.2.1)]
          exact same_no4 t kh vh hs.length hs2.length kd kd2 vd vd2 a1 a2 cap1 cap2 w hk hv h4
      · rw [sameB_no (r := ⟨t, kh, kd, vh, vd, hs⟩) (s := ⟨t2, kh2, kd2, vh2, vd2, hs2⟩) (fun h => h3 h.2.2.1)]
        exact same_no3 t t2 kh kh2 vh vh2 hs.length hs2.length kd kd2 vd vd2 a1 a2 cap1 cap2 w h1 h2 h3
    · rw [sameB_no (r := ⟨t, kh, kd, vh, vd, hs⟩) (s := ⟨t2, kh2, kd2, vh2, vd2, hs2⟩) (fun h => h2 h.2.1)]
      exact same_no2 t t2 kh kh2 vh vh2 hs.length hs2.length kd kd2 vd vd2 a1 a2 cap1 cap2 w h1 h2
  · rw [sameB_no (r := ⟨t, kh, kd, vh, vd, hs⟩) (s := ⟨t2, kh2, kd2, vh2, vd2, hs2⟩) (fun h => h1 h.1)]
    exact same_no1 t t2 kh kh2 vh vh2 hs.length hs2.length kd kd2 vd vd2 a1 a2 cap1 cap2 w h1
end Go.Proofs.YtihokphamgkkcaaGreat
