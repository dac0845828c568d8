/- Copies of a row of entries; Entries and Clone of the program's index; whether two rows are one. -/
import Derived.Test.YtldfbddccmnchaaOxi
import Derived.Lib.SliceRun
import Derived.Laws.AppendOwnNone
namespace Go.Proofs.Ytldfbddccmnchaa
open Go.RowKit
set_option maxRecDepth 20000 in
set_option maxHeartbeats 1000000 in
theorem clone_any (l : List En) (a : Option Addr) (cap : Nat) (w : World) (hv : Ens w a l) (hn : l.length ≤ 8796093022208) :
    Calls Try.prog 34 #[.slice a l.length cap] w fun e w' => (∃ v, e = .returned v ∧ OwE w' w.heap.size v l) ∧ Below w.heap.size w w' := by
  obtain ⟨i0, hi, hz0, hz1, hz2⟩ := info_parts Try.infoE
  have q22 : ∀ (w : World) (a : Option Addr) (n c n' c' : Nat), (binOp .eql 35 (.slice a n c) (.slice none n' c')).run Try.prog w = .ok (.bool a.isNone) w := fun w a n c n' c' => Lib.run_eql_slice_nil w _ _ a n c n' c' Try.underlying35
  cases a with
  | none =>
    have hl : l = [] := by
      rcases hv with h | ⟨b, off, h, _⟩
      · exact h
      · cases h
    subst hl
    go_enter Try.func34, Try.ntmps34
    go_wp2
    go_ret
    exact ⟨⟨_, rfl, OwE.nil _ _⟩, Below.refl _ _⟩
  | some ad =>
    have HC : Hid (∀ wx, Below w.heap.size w wx → ∀ j u, (ecs l)[j]? = some u → wx.cell? (ad.add j) = some u) := fun wx hx j u hu => by
      rcases hv with h | ⟨b, off, h, hb, hc⟩
      · rw [h] at hu; simp [ecs] at hu
      · injection h with h
        subst h
        have hj : j < l.length * 2 := by
          have := (List.getElem?_eq_some_iff.1 hu).1
          rw [ecs_len] at this
          exact this
        obtain ⟨h0, h1⟩ := hc (j / 2) (by omega)
        have hmod : j = j / 2 * 2 + j % 2 := by omega
        rw [hmod, ecs_at (by omega) (by omega)] at hu
        rw [Addr.add_lit]
        rcases (by omega : j % 2 = 0 ∨ j % 2 = 1) with e | e
        · rw [e] at hu
          have : j = j / 2 * 2 := by omega
          rw [this]
          exact ((hx.cell (p := ⟨b, off + j / 2 * 2, none⟩) hb).trans h0).trans hu
        · rw [e] at hu
          have : j = j / 2 * 2 + 1 := by omega
          rw [this]
          exact ((hx.cell (p := ⟨b, off + j / 2 * 2 + 1, none⟩) hb).trans h1).trans hu
    obtain ⟨N, hN⟩ : ∃ N, N = l.length := ⟨_, rfl⟩
    have HN := hid hN
    rw [← hN] at hn ⊢
    clear hv hN
    go_enter Try.func34, Try.ntmps34
    go_wp2_with (at_builtin; refine wpList_append_own _ rfl _ _ 35 rfl w.heap.size 30 i0 (.agg #[.int .i64 0, .int .i64 0]) 2 16 Try.underlying35 hi hz0 hz1 hz2 rfl (by decide) _ _ _ rfl (World.ownsRow_made w #[] 0 (Nat.le_refl _) (Nat.zero_le _) rfl) ad N cap (ecs l) rfl ?qc1 ?qc2 ?qc3 ?qc4 ?qc5 ?qc6 ?_)
    case qc1 => rw [ecs_len, HN.out]
    case qc2 => exact HC.out _ ((Below.refl _ _).alloc (Nat.le_refl _) _)
    case qc3 => exact ecs_one l
    case qc4 => unfold maxLen; omega
    case qc5 => omega
    case qc6 => simp
    intro v' w1 hown hgrow hnil
    go_wp2
    go_ret
    refine ⟨⟨v', rfl, ?_⟩, ?_⟩
    · unfold OwE
      rw [← HN.out]
      simpa using hown
    · exact ((Below.refl _ w).alloc (Nat.le_refl _) _).grown hgrow (by simp) (by intro k hk; simp [Value.ownBlock] at hk; omega)
theorem entries_any (p : Option Addr) (v : Value) (l : List En) (w : World) (h : Ip w p v l) (hn : l.length ≤ 8796093022208) : Calls Try.prog 27 #[.pointer p] w fun e w' => (∃ v', e = .returned v' ∧ OwE w' w.heap.size v' l) ∧ Below w.heap.size w w' := by
  go_enter Try.func27, Try.ntmps27
  go_wp2_with (go_at_call 50; refine (source_any p v l _ h).mono ?_; rintro e w1 ⟨x, rfl, hx, hq⟩; obtain ⟨a, cap, rfl, hens⟩ := hx.row.ens; have c0 := hx.c0)
  refine (clone_any l a cap w1 hens hn).mono ?_
  rintro e w2 ⟨⟨v', rfl, ho⟩, hb⟩
  go_wp2
  go_ret
  exact ⟨⟨v', rfl, ho.low hq.below.size⟩, hq.below.trans (hb.mono hq.below.size)⟩
theorem iclone_none (w : World) : Calls Try.prog 13 #[.pointer none] w fun e w' => e = .returned (.pointer none) ∧ w' = w := by
  go_enter Try.func13, Try.ntmps13
  go_wp2
  go_ret
  exact ⟨rfl, rfl⟩
theorem iclone_any (x : Nat) (v : Value) (l : List En) (w : World) (h : Ix 63 w x v l) (hn : l.length ≤ 8796093022208) : Calls Try.prog 13 #[.pointer (some ⟨x, 0, none⟩)] w fun e w' => (∃ x' v', e = .returned (.pointer (some ⟨x', 0, none⟩)) ∧ Io w' w.heap.size x' v' l) ∧ Below w.heap.size w w' := by
  obtain ⟨a, cap, rfl, hens⟩ := h.row.ens
  have c0 := h.c0
  clear h
  go_enter Try.func13, Try.ntmps13
  go_wp2_with fail
  refine (clone_any l a cap w hens hn).mono ?_
  rintro e w2 ⟨⟨v', rfl, ho⟩, hb⟩
  obtain ⟨N, a', cap', hN, rfl, _⟩ := ho.ensN
  have HO := hid ho
  have HB := hid hb
  clear ho hb hN
  go_wp2
  go_ret
  refine ⟨⟨_, _, rfl, ⟨⟨heap_new _ _, ?_⟩, HB.out.size, fun g hg => (HO.out.own hg).1⟩⟩, HB.out.alloc HB.out.size _⟩
  exact (HO.out.low (Nat.zero_le _)).keep fun g _ hg => Below.heap_alloc _ _ g hg
set_option maxRecDepth 20000 in
set_option maxHeartbeats 1000000 in
theorem same_yes (l : List En) (a b : Option Addr) (ca cb : Nat) (w : World) (ha : Ens w a l) (hb : Ens w b l) (hn : l.length ≤ 140737488355328) :
    Calls Try.prog 18 #[.slice a l.length ca, .slice b l.length cb] w fun e w' => e = .returned (.bool true) ∧ Below w.heap.size w w' := by
  have HA := hid ha
  have HB := hid hb
  obtain ⟨N, hN⟩ : ∃ N, N = l.length := ⟨_, rfl⟩
  have HN := hid hN
  rw [← hN] at hn ⊢
  clear ha hb hN
  go_enter Try.func18, Try.ntmps18
  go_wp2_with fail
  go_loopg [5] N (fun k i wr => ∃ j : Nat, j + k = N ∧ i = .int .i64 (j : Int) ∧ Hid (Below w.heap.size w wr))
  case atStart => exact ⟨0, by omega, rfl, Below.refl _ _⟩
  case round =>
    obtain ⟨j, hj, rfl, HW⟩ := hrel
    by_cases hlt : j < N
    · obtain ⟨k', rfl⟩ : ∃ k', gk = k' + 1 := ⟨gk - 1, by omega⟩
      have hltI : (j : Int) < N := by omega
      have hjl : j < l.length := by rw [← HN.out]; exact hlt
      rcases HA.out with e | ⟨b1, o1, rfl, hb1, hc1⟩
      · exact absurd hjl (by rw [e]; simp)
      rcases HB.out with e | ⟨b2, o2, rfl, hb2, hc2⟩
      · exact absurd hjl (by rw [e]; simp)
      have hw0 := HW.out
      have p0 := (hw0.cell (p := ⟨b1, o1 + j * 2, none⟩) hb1).trans (hc1 j hjl).1
      have p1 := (hw0.cell (p := ⟨b1, o1 + j * 2 + 1, none⟩) hb1).trans (hc1 j hjl).2
      have q0 := (hw0.cell (p := ⟨b2, o2 + j * 2, none⟩) hb2).trans (hc2 j hjl).1
      have q1 := (hw0.cell (p := ⟨b2, o2 + j * 2 + 1, none⟩) hb2).trans (hc2 j hjl).2
      generalize l.getD j en0 = s at *
      obtain ⟨sk, sa⟩ := s
      simp only at p0 p1 q0 q1
      have HJ := hid hj
      clear hc1 hc2 hj HW
      have HW0 := hid hw0
      clear hw0
      go_wp2_with fail
      go_big_quiet (fail)
      go_wp2_with fail
      go_roundg k'
      case measure => omega
      case rel => exact ⟨j + 1, by have := HJ.out; omega, congrArg (Value.int .i64) (by omega), HW0.out.trans ⟨rfl, rfl, rfl, Nat.le_refl _, fun _ _ => rfl⟩⟩
    · have hltI : ¬ (j : Int) < N := by omega
      have HW' := HW
      clear HW
      go_wp2_with fail
      go_ret
      exact ⟨rfl, HW'.out⟩
end Go.Proofs.Ytldfbddccmnchaa
