/- Texts of the proof, put together: RBig, RBx. -/
import Derived.Test.YtajmcnlbkdfloaaGreatMB1
import Derived.Test.YtajmcnlbkdfloaaGreatVput
namespace Go.Proofs.YtajmcnlbkdfloaaGreat
open Go.RowKit
theorem bel_nx {w x y : World} (h : Below w.heap.size w x) (k : Below x.heap.size x y) : Below w.heap.size w y := h.trans (k.mono h.size)
set_option maxHeartbeats 1000000 in
set_option maxRecDepth 20000 in
theorem big_any (v n : Nat) (w : World) (hn : n ≤ 8) :
    Calls Tryz.prog 31 #[.int .u64 v, .int .i64 n] w fun e w' => e = .returned (.string (bs (nb n v))) ∧ Below w.heap.size w w' := by
  obtain ⟨i0, hi, hz0, hz1, hz2⟩ := info_parts Tryz.info5
  have hw1 : IntKind.i64.wrap ((n : Int) - 1) = (n : Int) - 1 := wrap_in (by omega) (by omega)
  go_enter Tryz.func31, Tryz.ntmps31
  go_wp2_with fail
  go_loopg [5, 6] n (fun k o i wr => k ≤ n ∧ i = .int .i64 ((k : Int) - 1) ∧ Hid (wr.ownsRow w.heap.size 5 1 o (nb (n - k) (v / 256 ^ k)).length (bc (nb (n - k) (v / 256 ^ k)))) ∧ Hid (Below w.heap.size w wr))
  case atStart => exact ⟨Nat.le_refl _, by first | rfl | go_num, by show World.ownsRow _ _ _ _ _ _ _; rw [Nat.sub_self]; exact World.ownsRow_nil _ _ _ _, Below.refl _ _⟩
  case round =>
    obtain ⟨hk, rfl, HO, HB⟩ := hrel
    have hsz := HB.out.size
    by_cases hlt : 0 < gk
    · obtain ⟨j, rfl⟩ : ∃ j, gk = j + 1 := ⟨gk - 1, by omega⟩
      have e1 : ((j + 1 : Nat) : Int) - 1 = j := by omega
      rw [e1]
      clear e1
      have ho := HO.out
      have hX : (nb (n - (j + 1)) (v / 256 ^ (j + 1))).length ≤ 8 := by rw [nb_len]; omega
      generalize hX' : (nb (n - (j + 1)) (v / 256 ^ (j + 1))).length = X at hX ho
      have hp8 := p8 j
      have hw8 : IntKind.i64.wrap (8 * (j : Int)) = 8 * (j : Int) := wrap_in (by omega) (by omega)
      have h80 : ¬ 8 * (j : Int) < 0 := by omega
      have j0 : (0 : Int) ≤ j := by omega
      have hw9 : IntKind.u64.wrap (8 * (j : Int)) = 8 * (j : Int) := by rw [IntKind.wrap_u64]; omega
      go_wp2_with (at_builtin; refine wpList_append_own _ rfl _ _ 61 rfl w.heap.size 5 i0 (.int .u8 0) 1 1 Tryz.underBytes hi hz0 hz1 hz2 rfl (by decide) _ _ _ rfl (ho.alloc _) ⟨wr.heap.size, 0, none⟩ 1 1 [.int .u8 ((v / 256 ^ j % 256 : Nat) : Int)] rfl rfl ?c1 ?c2 ?c3 ?c4 ?c5 ?_)
      case c2 => first | rfl | (intro u hu; simp at hu; subst hu; rfl)
      case c3 => unfold maxLen; omega
      case c4 => omega
      case c5 => omega
      intro v' w1 hown1 hgrow1 _
      have HB1 := hid (bel_step HB.out ho hsz hgrow1)
      have e1 : n - j = n - (j + 1) + 1 := by omega
      have HO1 : Hid (w1.ownsRow w.heap.size 5 1 v' (nb (n - j) (v / 256 ^ j)).length (bc (nb (n - j) (v / 256 ^ j)))) := by
        show World.ownsRow _ _ _ _ _ _ _
        rw [e1, nb_next]
        exact own_snoc hX' hown1
      clear hown1 hgrow1 ho
      go_wp2_with fail
      go_roundg j
      case measure => omega
      case rel => exact ⟨by omega, by first | rfl | go_num, HO1, HB1⟩
    · have hm0 : gk = 0 := by omega
      subst hm0
      have ho := HO.out
      have e0 : nb (n - 0) (v / 256 ^ 0) = nb n v := by rw [Nat.sub_zero, Nat.pow_zero, Nat.div_one]
      rw [e0] at ho
      have hcv := conv_own (l := nb n v) (nb_byte n v) ho
      have hneg : ¬ (0 : Int) ≤ ((0 : Nat) : Int) - 1 := by omega
      clear ho
      go_wp2_with fail
      go_ret
      exact ⟨rfl, HB.out⟩
end Go.Proofs.YtajmcnlbkdfloaaGreat
namespace Go.Proofs.YtajmcnlbkdfloaaGreat
open Go.RowKit
set_option maxHeartbeats 400000 in
set_option maxRecDepth 20000 in
theorem xrebase_any (s : ByteArray) (base : Int) (w : World) (hs : s.size ≤ 9223372036854775000) :
    Calls Tryz.prog 22 #[.string s, .int .i64 base] w fun e w' => e = .returned (.tuple #[.string (rbt s base), .int .i64 (rbe s base)]) ∧ Below w.heap.size w w' := by
  by_cases h1 : s.size < 51
  · have e : rbe s base = 20 := by unfold rbe; rw [if_pos h1]
    have e2 : rbt s base = ⟨#[]⟩ := by unfold rbt; rw [e, if_neg (by decide)]
    rw [e, e2]
    have d1 : decide ((s.size : Int) < 51) = true := decide_eq_true (by omega)
    clear h1 e e2
    go_enter Tryz.func22, Tryz.ntmps22
    go_wp2_with fail
    go_ret2
    exact ⟨rfl, Below.refl _ _⟩
  · have d1 : decide ((s.size : Int) < 51) = false := decide_eq_false (by omega)
    by_cases h2 : 0 ≤ base ∧ base < 4611686018427387904
    · obtain ⟨B, rfl⟩ : ∃ B : Nat, base = (B : Int) := ⟨base.toNat, by omega⟩
      have e : rbe s B = 0 := by unfold rbe; rw [if_neg h1, if_neg (by simpa using h2)]
      have e2 : rbt s B = bs (nb 8 B) ++ s.extract 8 s.size := by unfold rbt; rw [e, if_pos rfl, Int.toNat_natCast]
      rw [e, e2]
      have hwb : IntKind.u64.wrap (B : Int) = (B : Int) := by rw [IntKind.wrap_u64]; omega
      have CB : Hid (∀ x, Below w.heap.size w x → Calls Tryz.prog 31 #[.int .u64 B, .int .i64 8] x fun e w' => e = .returned (.string (bs (nb 8 B))) ∧ Below w.heap.size w w') := fun x hx => (big_any B 8 x (by omega)).mono fun _ _ h => ⟨h.1, bel_nx hx h.2⟩
      have h0 : Below w.heap.size w w := Below.refl _ _
      have hsz : (bs (nb 8 B)).size = 8 := by rw [bs_size]; exact nb_len _ _
      have hcat : ¬ 9223372036854775807 < (bs (nb 8 B)).size + (s.extract 8 s.size).size := by rw [hsz, ByteArray.size_extract]; omega
      have h8 : (8 : Int) ≤ s.size := by omega
      have b1 : decide ((B : Int) < 0) = false := decide_eq_false (by omega)
      have b2 : decide ((4611686018427387904 : Int) ≤ (B : Int)) = false := decide_eq_false (by omega)
      clear h1 h2 e e2 hs
      go_enter Tryz.func22, Tryz.ntmps22
      go_wp2_with fail
      have hcat2 : ¬ 9223372036854775807 < (bs (nb 8 B)).size + (s.size - 8) := by rw [ByteArray.size_extract] at hcat; omega
      generalize hNB : bs (nb 8 B) = NB at *
      clear hsz
      go_region_held3 (fun x => True ∧ Below w.heap.size w x) (first | with_reducible exact ⟨trivial, by assumption⟩ | with_reducible exact ⟨trivial, Below.drew (by assumption)⟩) (first | (go_at_call 31; refine (CB.out _ ?_).mono ?_; (first | assumption | exact Below.drew (by assumption)); rintro e w' ⟨rfl, hbel⟩))
      all_goals
        rename_i hHeld
        have HB := hid hHeld.2
        clear hHeld
        go_wp2_with fail
        go_ret2
        exact ⟨by subst hNB; rfl, HB.out⟩
    · have e : rbe s base = 1 := by unfold rbe; rw [if_neg h1, if_pos h2]
      have e2 : rbt s base = ⟨#[]⟩ := by unfold rbt; rw [e, if_neg (by decide)]
      rw [e, e2]
      by_cases hb : base < 0
      · clear h1 h2 e e2
        go_enter Tryz.func22, Tryz.ntmps22
        go_wp2_with fail
        go_ret2
        exact ⟨rfl, Below.refl _ _⟩
      · have b1 : decide (base < 0) = false := decide_eq_false hb
        have b2 : decide ((4611686018427387904 : Int) ≤ base) = true := decide_eq_true (by omega)
        clear h1 h2 e e2 hb
        go_enter Tryz.func22, Tryz.ntmps22
        go_wp2_with fail
        go_ret2
        exact ⟨rfl, Below.refl _ _⟩
end Go.Proofs.YtajmcnlbkdfloaaGreat
