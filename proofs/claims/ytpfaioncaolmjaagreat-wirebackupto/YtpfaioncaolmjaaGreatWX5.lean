/- The document's writer: the text of a number of n bytes. -/
import Derived.Test.YtpfaioncaolmjaaGreatWX4
namespace Go.Proofs.YtpfaioncaolmjaaGreat
open Go.RowKit
theorem nb_cons : ∀ (m V : Nat), nb (m + 1) V = (V / 256 ^ m % 256) :: nb m V
  | 0, V => by simp [nb]
  | m + 1, V => by
    show nb (m + 1) (V / 256) ++ [V % 256] = _
    rw [nb_cons m (V / 256)]
    show (V / 256 / 256 ^ m % 256) :: (nb m (V / 256) ++ [V % 256]) = _ :: (nb m (V / 256) ++ [V % 256])
    rw [Nat.div_div_eq_div_mul, ← Nat.pow_succ']
theorem made1 (x : Value) (n : Nat) : (madeCells #[x] n).toList = List.replicate n x := by
  apply List.ext_getElem
  · simp [madeCells]
  · intro i h1 h2
    simp [madeCells, Nat.mod_one]
theorem set_rep (j : Nat) (L : List Nat) (b : Nat) : (List.replicate (j + 1) 0 ++ L).set j b = List.replicate j 0 ++ (b :: L) := by
  rw [List.replicate_succ', List.append_assoc, List.set_append_right _ _ (by simp)]
  simp
theorem bc_set (l : List Nat) (j b : Nat) : (bc l).set j (.int .u8 b) = bc (l.set j b) := by
  unfold bc
  rw [List.map_set]
set_option maxHeartbeats 1000000 in
set_option maxRecDepth 20000 in
theorem xnumber_any (V n : Nat) (w : World) (hV : V < 18446744073709551616) (hn : n ≤ 8) :
    Calls Tryz.prog 82 #[.int .u64 V, .int .i64 n] w fun e w' => e = .returned (.string (bs (nb n V))) ∧ Below w.heap.size w w' := by
  have hmk : (Instr.makeSlice 48 (.int .i64 n) (.int .i64 n)).run Tryz.prog w = .ok (.slice (some ⟨w.heap.size, 0, none⟩) n n) (w.alloc (.cells (madeCells #[.int .u8 0] n) 5)) :=
    Go.run_make_row' (P := Tryz.prog) 48 5 (.int .u8 0) 1 Tryz.underBytes Tryz.info5 rfl .i64 .i64 n (by omega) (by omega) w
  have g0 : (w.alloc (.cells (madeCells #[.int .u8 0] n) 5)).heap[w.heap.size]? = some (.cells (madeCells #[.int .u8 0] n) 5 (0, 0)) := heap_new _ _
  have b0 : Below w.heap.size w (w.alloc (.cells (madeCells #[.int .u8 0] n) 5)) := (Below.refl _ w).alloc (Nat.le_refl _) _
  have o0 : (w.alloc (.cells (madeCells #[.int .u8 0] n) 5)).ownsRow w.heap.size 5 1 (.slice (some ⟨w.heap.size, 0, none⟩) n n) n (bc (List.replicate n 0 ++ nb 0 V)) :=
    ⟨by rw [bc_len]; simp [nb], Or.inr ⟨w.heap.size, n, _, rfl, Nat.le_refl _, g0, Nat.le_refl _, by unfold maxLen; omega, by simp [madeCells], by
      rw [List.take_of_length_le (by simp [madeCells]), made1]
      simp [nb, bc]⟩⟩
  have HO0 := hid o0
  have HB0 := hid b0
  clear g0 o0 b0
  go_enter Tryz.func82, Tryz.ntmps82
  go_wp2_with fail
  clear hmk
  generalize w.alloc (.cells (madeCells #[.int .u8 0] n) 5) = W at *
  go_loopg [0, 6] n (fun k x i wr => k ≤ n ∧ i = .int .i64 ((k : Int) - 1) ∧ x = .int .u64 (V / 256 ^ (n - k) : Nat) ∧ Hid (wr.ownsRow w.heap.size 5 1 (.slice (some ⟨w.heap.size, 0, none⟩) n n) n (bc (List.replicate k 0 ++ nb (n - k) V))) ∧ Hid (Below w.heap.size w wr))
  case atStart => exact ⟨Nat.le_refl _, by first | rfl | go_num, by rw [Nat.sub_self, Nat.pow_zero, Nat.div_one], by show World.ownsRow _ _ _ _ _ _ _; rw [Nat.sub_self]; exact HO0.out, HB0⟩
  case round =>
    clear HO0 HB0
    obtain ⟨hk, rfl, rfl, HO, HB⟩ := hrel
    by_cases hlt : 0 < gk
    · obtain ⟨j, rfl⟩ : ∃ j, gk = j + 1 := ⟨gk - 1, by omega⟩
      have e1 : ((j + 1 : Nat) : Int) - 1 = j := by omega
      rw [e1]
      clear e1
      obtain ⟨X, hX⟩ : ∃ X, V / 256 ^ (n - (j + 1)) = X := ⟨_, rfl⟩
      have hX2 : V / 256 ^ (n - j) = X / 256 := by
        rw [← hX, Nat.div_div_eq_div_mul, ← Nat.pow_succ, show (n - (j + 1)).succ = n - j by omega]
      rw [hX]
      have hst := HO.out.stored j (.int .u8 (X % 256 : Nat))
      have hO2 : Hid ((wr.setCell ⟨w.heap.size, j, none⟩ (.int .u8 (X % 256 : Nat))).ownsRow w.heap.size 5 1 (.slice (some ⟨w.heap.size, 0, none⟩) n n) n (bc (List.replicate j 0 ++ nb (n - j) V))) := by
        have h := hst.1
        rw [bc_set, set_rep, ← hX, ← nb_cons, show n - (j + 1) + 1 = n - j by omega, hX] at h
        exact h
      have HB2 : Hid (Below w.heap.size w (wr.setCell ⟨w.heap.size, j, none⟩ (.int .u8 (X % 256 : Nat)))) := HB.out.setCell (Nat.le_refl _) _
      have hl : (bc (List.replicate (j + 1) 0 ++ nb (n - (j + 1)) V)).length = n := by rw [bc_len]; simp [nb_len]; omega
      obtain ⟨y, hy⟩ : ∃ y, (bc (List.replicate (j + 1) 0 ++ nb (n - (j + 1)) V))[j]? = some y := ⟨_, List.getElem?_eq_getElem (by omega)⟩
      have hc : wr.cell? ⟨w.heap.size, j, none⟩ = some y := by rw [HO.out.cellAt j (by omega)]; exact hy
      have hf := HO.out.frozenAt j
      have hw : IntKind.u8.wrap ((X : Int) % 256) = ((X % 256 : Nat) : Int) := by rw [IntKind.wrap_u8]; omega
      have hwd : (X : Int) / 256 = ((X / 256 : Nat) : Int) := by omega
      have hXV : X ≤ V := by rw [← hX]; exact Nat.div_le_self _ _
      have hwr : IntKind.u64.wrap ((X / 256 : Nat) : Int) = ((X / 256 : Nat) : Int) := by rw [IntKind.wrap_u64]; omega
      have j0 : (0 : Int) ≤ (j : Int) := by omega
      have j1 : (j : Int) < (n : Int) := by omega
      have HX2 := hid hX2
      generalize hQ : X % 256 = Q at *
      generalize hR : X / 256 = R at *
      clear hst hl hy hX hX2 hQ hR HO HB hXV
      go_wp2_with fail
      go_roundg j
      case measure => omega
      case rel => exact ⟨by omega, by first | rfl | go_num, by rw [HX2.out], hO2, HB2⟩
    · have hm0 : gk = 0 := by omega
      subst hm0
      have ho := HO.out
      rw [Nat.sub_zero, List.replicate_zero, List.nil_append] at ho
      have hcv := conv_own (l := nb n V) (nb_byte n V) ho
      have hneg : ¬ (0 : Int) ≤ ((0 : Nat) : Int) - 1 := by omega
      clear ho
      go_wp2_with fail
      go_ret
      exact ⟨rfl, HB.out⟩
end Go.Proofs.YtpfaioncaolmjaaGreat
