/- What appendForm and the document's 'one' lay down: the form of the number, behind what was there; nothing that was there before is turned. -/
import Derived.Test.YtkaoipckjilnbaaKinds
namespace Go.Proofs.Ytkaoipckjilnbaa
open Go.RowKit
theorem Try.info5 : (Try.prog.info? 5).map (fun i => (i.zero, i.size, i.bytes)) = some (some (.int .u8 0), 1, 1) := by kernel_rfl
theorem Try.under85 : Try.prog.underlying 85 = some (.slice 5) := by kernel_rfl
/-- Bytes as cells. -/
def bc (l : List Nat) : List Value := l.map fun b : Nat => Value.int .u8 (b : Int)
theorem bc_len (l : List Nat) : (bc l).length = l.length := by simp [bc]
theorem bc_app (l m : List Nat) : bc (l ++ m) = bc l ++ bc m := by simp [bc]
theorem one_cell (b : Int) : ∀ u ∈ [Value.int .u8 b], u.oneCell' = true := by intro u hu; simp at hu; subst hu; rfl
theorem bel_step {base n size : Nat} {e : TypeId} {w wr w1 : World} {o : Value} {l : List Value} {obj : Obj} (hbel : Below base w wr) (hown : wr.ownsRow base e size o n l) (hb : base ≤ wr.heap.size) (hg : (wr.alloc obj).grownBy w1 o.ownBlock) : Below base w w1 :=
  (hbel.alloc hb obj).grown hg (by simp; omega) (fun k hk => (hown.lt k hk).1)
theorem own_snoc {base n : Nat} {w1 : World} {v' : Value} {l : List Nat} {b : Nat} (hn : l.length = n) (h : w1.ownsRow base 5 1 v' (n + 1) (bc l ++ [.int .u8 (b : Int)])) : w1.ownsRow base 5 1 v' (l ++ [b]).length (bc (l ++ [b])) := by
  have e : (l ++ [b]).length = n + 1 := by simp [hn]
  rw [bc_app, e]; exact h
theorem or_byte (x : Nat) : bits BinOp.or IntKind.u8 ((x : Int) % 256) 128 = ((x % 128 + 128 : Nat) : Int) := by
  rw [u8_or _ _ (by omega) (by omega) (by omega) (by omega)]
  have e1 : ((x : Int) % 256).toNat = x % 256 := by omega
  have e2 : (128 : Int).toNat = 128 := rfl
  rw [e1, e2]
  congr 1
  have h := nat_join 7 128 (x % 128) (by decide) (by omega)
  have h2 : x % 256 = x % 128 ∨ x % 256 = 128 + x % 128 := by omega
  rcases h2 with h2 | h2
  · rw [h2, Nat.or_comm, h]; omega
  · rw [h2, ← h, Nat.or_comm, ← Nat.or_assoc, Nat.or_self, h]; omega
set_option maxHeartbeats 1000000 in
set_option maxRecDepth 20000 in
theorem af_any (base : Nat) (xs : List Nat) (ov : Value) (V : Nat) (w : World) (hV : V < 18446744073709551616) (hown : w.ownsRow base 5 1 ov xs.length (bc xs)) (hlen : xs.length ≤ 140737488355000) (hbase : base ≤ w.heap.size) :
    Calls Try.prog 49 #[ov, .int .u64 V] w fun e w' => ∃ v', e = .returned v' ∧ w'.ownsRow base 5 1 v' (xs ++ M.form V).length (bc (xs ++ M.form V)) ∧ Below base w w' := by
  obtain ⟨i0, hi, hz0, hz1, hz2⟩ := info_parts Try.info5
  go_enter Try.func49, Try.ntmps49
  go_wp2
  go_loopw [0, 1] (fun o v wr => ∃ (pre : List Nat) (f x : Nat), x < 2 * 128 ^ f ∧ x < 18446744073709551616 ∧ v = .int .u64 x ∧ M.form V = pre ++ M.formF f x ∧ pre.length ≤ 9 ∧ wr.ownsRow base 5 1 o (xs ++ pre).length (bc (xs ++ pre)) ∧ Below base w wr) (fun _ v _ => (intOf v).toNat)
  case atStart => exact ⟨[], 9, V, by simpa using hV, hV, rfl, rfl, by simp, by simpa using hown, Below.refl _ _⟩
  case round =>
    obtain ⟨pre, f, x, hx, hx64, rfl, hform, hpre, hown', hbel⟩ := hrel
    have hsz := hbel.size
    have hL : (xs ++ pre).length ≤ 140737488355009 := by simp; omega
    generalize hn : (xs ++ pre).length = n at hown' hL
    have HN : Hid ((xs ++ pre).length = n) := hn
    clear hn
    by_cases hl : 128 ≤ x
    · have hbyte := or_byte x
      have HF : Hid (M.form V = pre ++ M.formF f x) := hform
      have HX : Hid (x < 2 * 128 ^ f) := hx
      clear hform hx
      go_wp2_with (at_builtin; refine wpList_append_own _ rfl _ _ 85 rfl base 5 i0 (.int .u8 0) 1 1 Try.under85 hi hz0 hz1 hz2 rfl (by decide) _ _ _ rfl (hown'.alloc _) ⟨wr.heap.size, 0, none⟩ 1 1 [.int .u8 ((x % 128 + 128 : Nat) : Int)] rfl rfl ?c1 ?c2 ?c3 ?c4 ?c5 ?_)
      case c1 => exact cell_one_new _ _ _
      case c2 => exact one_cell _
      case c3 => unfold maxLen; omega
      case c4 => omega
      case c5 => simp; omega
      · intro v' w1 hown1 hgrow _
        have HB : Hid (Below base w w1) := bel_step hbel hown' (by omega) hgrow
        have HO : Hid (w1.ownsRow base 5 1 v' (xs ++ pre ++ [x % 128 + 128]).length (bc (xs ++ pre ++ [x % 128 + 128]))) := own_snoc HN.out hown1
        clear hown1 hgrow hown' hbel
        go_wp2
        go_roundw
        case rel =>
          obtain ⟨f', rfl⟩ : ∃ f', f = f' + 1 := by
            cases f with
            | zero => have := HX.out; simp at this; omega
            | succ f' => exact ⟨f', rfl⟩
          have h1 := HX.out
          rw [Nat.pow_succ] at h1
          refine ⟨pre ++ [x % 128 + 128], f', x / 128, by omega, by omega, by go_num, by rw [HF.out, M.formF_high hl]; simp, ?_, by simpa using HO.out, HB.out⟩
          have h2 := congrArg List.length HF.out
          rw [List.length_append] at h2
          have h3 := M.form_le V
          have h4 := M.formF_pos f' (x / 128)
          rw [M.formF_high hl] at h2
          simp at h2 ⊢
          omega
        case measure => simp [intOf]; omega
    · go_wp2_with (at_builtin; refine wpList_append_own _ rfl _ _ 85 rfl base 5 i0 (.int .u8 0) 1 1 Try.under85 hi hz0 hz1 hz2 rfl (by decide) _ _ _ rfl (hown'.alloc _) ⟨wr.heap.size, 0, none⟩ 1 1 [.int .u8 (x : Int)] rfl rfl ?d1 ?d2 ?d3 ?d4 ?d5 ?_)
      case d1 => exact cell_one_new _ _ _
      case d2 => exact one_cell _
      case d3 => unfold maxLen; omega
      case d4 => omega
      case d5 => simp; omega
      · intro v' w1 hown1 hgrow _
        have HB : Hid (Below base w w1) := bel_step hbel hown' (by omega) hgrow
        have HO : Hid (w1.ownsRow base 5 1 v' (xs ++ pre ++ [x]).length (bc (xs ++ pre ++ [x]))) := own_snoc HN.out hown1
        have HE : Hid (xs ++ pre ++ [x] = xs ++ M.form V) := by unfold Hid; rw [hform, M.formF_low (by omega)]; simp
        clear hown1 hgrow hown' hbel hform
        go_wp2
        go_ret
        have h := HO.out
        rw [HE.out] at h
        exact ⟨v', rfl, h, HB.out⟩
set_option maxHeartbeats 1000000 in
set_option maxRecDepth 20000 in
theorem one_any (V : Nat) (w : World) (hV : V < 18446744073709551616) :
    Calls Try.prog 50 #[.int .u64 V] w fun e w' => ∃ v', e = .returned v' ∧ w'.ownsRow w.heap.size 5 1 v' (M.form V).length (bc (M.form V)) ∧ Below w.heap.size w w' := by
  obtain ⟨i0, hi, hz0, hz1, hz2⟩ := info_parts Try.info5
  go_enter Try.func50, Try.ntmps50
  go_wp2
  go_loopw [0, 3] (fun v o wr => ∃ (pre : List Nat) (f x : Nat), x < 2 * 128 ^ f ∧ x < 18446744073709551616 ∧ v = .int .u64 x ∧ M.form V = pre ++ M.formF f x ∧ pre.length ≤ 9 ∧ wr.ownsRow w.heap.size 5 1 o pre.length (bc pre) ∧ Below w.heap.size w wr) (fun v _ _ => (intOf v).toNat)
  case atStart => exact ⟨[], 9, V, by simpa using hV, hV, rfl, rfl, by simp, World.ownsRow_nil _ _ _ _, Below.refl _ _⟩
  case round =>
    obtain ⟨pre, f, x, hx, hx64, rfl, hform, hpre, hown', hbel⟩ := hrel
    have hsz := hbel.size
    generalize hn : pre.length = n at hown' hpre
    have HN : Hid (pre.length = n) := hn
    clear hn
    by_cases hl : 128 ≤ x
    · have HF : Hid (M.form V = pre ++ M.formF f x) := hform
      have HX : Hid (x < 2 * 128 ^ f) := hx
      clear hform hx
      go_wp2_with (at_builtin; refine wpList_append_own _ rfl _ _ 85 rfl w.heap.size 5 i0 (.int .u8 0) 1 1 Try.under85 hi hz0 hz1 hz2 rfl (by decide) _ _ _ rfl (hown'.alloc _) ⟨wr.heap.size, 0, none⟩ 1 1 [.int .u8 ((x % 128 + 128 : Nat) : Int)] rfl rfl ?c1 ?c2 ?c3 ?c4 ?c5 ?_)
      case c1 => exact cell_one_new _ _ _
      case c2 => exact one_cell _
      case c3 => unfold maxLen; omega
      case c4 => omega
      case c5 => simp; omega
      · intro v' w1 hown1 hgrow _
        have HB : Hid (Below w.heap.size w w1) := bel_step hbel hown' (by omega) hgrow
        have HO : Hid (w1.ownsRow w.heap.size 5 1 v' (pre ++ [x % 128 + 128]).length (bc (pre ++ [x % 128 + 128]))) := own_snoc HN.out hown1
        clear hown1 hgrow hown' hbel
        go_wp2
        go_roundw
        case rel =>
          obtain ⟨f', rfl⟩ : ∃ f', f = f' + 1 := by
            cases f with
            | zero => have := HX.out; simp at this; omega
            | succ f' => exact ⟨f', rfl⟩
          have h1 := HX.out
          rw [Nat.pow_succ] at h1
          refine ⟨pre ++ [x % 128 + 128], f', x / 128, by omega, by omega, by go_num, by rw [HF.out, M.formF_high hl]; simp, ?_, HO.out, HB.out⟩
          have h2 := congrArg List.length HF.out
          rw [List.length_append] at h2
          have h3 := M.form_le V
          have h4 := M.formF_pos f' (x / 128)
          rw [M.formF_high hl] at h2
          simp at h2 ⊢
          omega
        case measure => simp [intOf]; omega
    · go_wp2_with (at_builtin; refine wpList_append_own _ rfl _ _ 85 rfl w.heap.size 5 i0 (.int .u8 0) 1 1 Try.under85 hi hz0 hz1 hz2 rfl (by decide) _ _ _ rfl (hown'.alloc _) ⟨wr.heap.size, 0, none⟩ 1 1 [.int .u8 (x : Int)] rfl rfl ?d1 ?d2 ?d3 ?d4 ?d5 ?_)
      case d1 => exact cell_one_new _ _ _
      case d2 => exact one_cell _
      case d3 => unfold maxLen; omega
      case d4 => omega
      case d5 => simp; omega
      · intro v' w1 hown1 hgrow _
        have HB : Hid (Below w.heap.size w w1) := bel_step hbel hown' (by omega) hgrow
        have HO : Hid (w1.ownsRow w.heap.size 5 1 v' (pre ++ [x]).length (bc (pre ++ [x]))) := own_snoc HN.out hown1
        have HE : Hid (pre ++ [x] = M.form V) := by unfold Hid; rw [hform, M.formF_low (by omega)]
        clear hown1 hgrow hown' hbel hform
        go_wp2
        go_ret
        have h := HO.out
        rw [HE.out] at h
        exact ⟨v', rfl, h, HB.out⟩
end Go.Proofs.Ytkaoipckjilnbaa
