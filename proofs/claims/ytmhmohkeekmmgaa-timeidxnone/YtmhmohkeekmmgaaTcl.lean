/- Copies of a row of entries; Entries and Clone of the program's index; whether two rows are one. -/
import Derived.Test.YtmhmohkeekmmgaaTxd
import Derived.Lib.SliceRun
import Derived.Laws.AppendOwnNone
namespace Go.Proofs.Ytmhmohkeekmmgaa
open Go.RowKit
set_option maxRecDepth 20000 in
set_option maxHeartbeats 1000000 in
theorem clone_any (l : List En) (a : Option Addr) (cap : Nat) (w : World) (hv : Ens w a l) (hn : l.length ≤ 8796093022208) :
    Calls Try.prog 36 #[.slice a l.length cap] w fun e w' => (∃ v, e = .returned v ∧ OwE w' w.heap.size v l) ∧ Below w.heap.size w w' := by
  obtain ⟨i0, hi, hz0, hz1, hz2⟩ := info_parts Try.infoE
  have q22 : ∀ (w : World) (a : Option Addr) (n c n' c' : Nat), (binOp .eql 45 (.slice a n c) (.slice none n' c')).run Try.prog w = .ok (.bool a.isNone) w := fun w a n c n' c' => Lib.run_eql_slice_nil w _ _ a n c n' c' Try.underlying45
  cases a with
  | none =>
    have hl : l = [] := by
      rcases hv with h | ⟨b, off, h, _⟩
      · exact h
      · cases h
    subst hl
    go_enter Try.func36, Try.ntmps36
    go_wp2
    go_ret
    exact ⟨⟨_, rfl, OwE.nil _ _⟩, Below.refl _ _⟩
  | some ad =>
    have HC : Hid (∀ wx, Below w.heap.size w wx → ∀ j u, (ecs l)[j]? = some u → wx.cell? (ad.add j) = some u) := fun wx hx j u hu => by
      rcases hv with h | ⟨b, off, h, hb, hc⟩
      · rw [h] at hu; simp [ecs] at hu
      · injection h with h
        subst h
        have hj : j < l.length * 2 := by
          have := (List.getElem?_eq_some_iff.1 hu).1
          rw [ecs_len] at this
          exact this
        obtain ⟨h0, h1⟩ := hc (j / 2) (by omega)
        have hmod : j = j / 2 * 2 + j % 2 := by omega
        rw [hmod, ecs_at (by omega) (by omega)] at hu
        rw [Addr.add_lit]
        rcases (by omega : j % 2 = 0 ∨ j % 2 = 1) with e | e
        · rw [e] at hu
          have : j = j / 2 * 2 := by omega
          rw [this]
          exact ((hx.cell (p := ⟨b, off + j / 2 * 2, none⟩) hb).trans h0).trans hu
        · rw [e] at hu
          have : j = j / 2 * 2 + 1 := by omega
          rw [this]
          exact ((hx.cell (p := ⟨b, off + j / 2 * 2 + 1, none⟩) hb).trans h1).trans hu
    obtain ⟨N, hN⟩ : ∃ N, N = l.length := ⟨_, rfl⟩
    have HN := hid hN
    rw [← hN] at hn ⊢
    clear hv hN
    go_enter Try.func36, Try.ntmps36
    go_wp2_with (at_builtin; refine wpList_append_own _ rfl _ _ 45 rfl w.heap.size 29 i0 (.agg #[.int .i64 0, .int .i64 0]) 2 16 Try.underlying45 hi hz0 hz1 hz2 rfl (by decide) _ _ _ rfl (World.ownsRow_made w #[] 0 (Nat.le_refl _) (Nat.zero_le _) rfl) ad N cap (ecs l) rfl ?qc1 ?qc2 ?qc3 ?qc4 ?qc5 ?qc6 ?_)
    case qc1 => rw [ecs_len, HN.out]
    case qc2 => exact HC.out _ ((Below.refl _ _).alloc (Nat.le_refl _) _)
    case qc3 => exact ecs_one l
    case qc4 => unfold maxLen; omega
    case qc5 => omega
    case qc6 => simp
    intro v' w1 hown hgrow hnil
    go_wp2
    go_ret
    refine ⟨⟨v', rfl, ?_⟩, ?_⟩
    · unfold OwE
      rw [← HN.out]
      simpa using hown
    · exact ((Below.refl _ w).alloc (Nat.le_refl _) _).grown hgrow (by simp) (by intro k hk; simp [Value.ownBlock] at hk; omega)
theorem Left.some {w w' : World} {x : Nat} {v : Value} {l' : List En} (h : Left w w' (some ⟨x, 0, none⟩) v l') : ∃ v', Ix 60 w' x v' l' ∧ Ch (IS x v) w w' ∧ Moved w v v' := by
  rcases h with ⟨x', v', h1, h2, h3, h4⟩ | ⟨h1, _⟩
  · cases h1; exact ⟨v', h2, h3, h4⟩
  · cases h1
/-- An index that is the call's own: its block and its row lie from B on. -/
structure Io (w : World) (B x : Nat) (v : Value) (l : List En) : Prop where
  ix : Ix 60 w x v l
  at0 : B ≤ x
  at1 : ∀ g, v.ownBlock = some g → B ≤ g
theorem Io.below {w w' : World} {B x : Nat} {v : Value} {l : List En} (h : Io w B x v l) (hb : Below w.heap.size w w') : Io w' B x v l := ⟨h.ix.below hb, h.at0, h.at1⟩
theorem Io.left {w w' : World} {B x : Nat} {v : Value} {l l' : List En} (h : Io w B x v l) (hB : B ≤ w.heap.size) (hl : Left w w' (some ⟨x, 0, none⟩) v l') : ∃ v', Io w' B x v' l' ∧ Below B w w' := by
  obtain ⟨v', h1, h2, h3⟩ := hl.some
  refine ⟨v', ⟨h1, h.at0, fun g hg => ?_⟩, h2.below hB (fun i hi hs => ?_)⟩
  · rcases h3 g hg with h4 | h4
    · exact h.at1 g h4
    · omega
  · rcases hs with rfl | hs
    · have := h.at0; omega
    · have := h.at1 i hs; omega
theorem Io.ip {w : World} {B x : Nat} {v : Value} {l : List En} (h : Io w B x v l) : Ip w (some ⟨x, 0, none⟩) v l := Or.inl ⟨x, rfl, h.ix⟩
theorem iclone_none (w : World) : Calls Try.prog 17 #[.pointer none] w fun e w' => e = .returned (.pointer none) ∧ w' = w := by
  go_enter Try.func17, Try.ntmps17
  go_wp2
  go_ret
  exact ⟨rfl, rfl⟩
theorem iclone_any (x : Nat) (v : Value) (l : List En) (w : World) (h : Ix 60 w x v l) (hn : l.length ≤ 8796093022208) : Calls Try.prog 17 #[.pointer (some ⟨x, 0, none⟩)] w fun e w' => (∃ x' v', e = .returned (.pointer (some ⟨x', 0, none⟩)) ∧ Io w' w.heap.size x' v' l) ∧ Below w.heap.size w w' := by
  obtain ⟨a, cap, rfl, hens⟩ := h.row.ens
  have c0 := h.c0
  clear h
  go_enter Try.func17, Try.ntmps17
  go_wp2_with fail
  refine (clone_any l a cap w hens hn).mono ?_
  rintro e w2 ⟨⟨v', rfl, ho⟩, hb⟩
  obtain ⟨N, a', cap', hN, rfl, _⟩ := ho.ensN
  have HO := hid ho
  have HB := hid hb
  clear ho hb hN
  go_wp2
  go_ret
  refine ⟨⟨_, _, rfl, ⟨⟨heap_new _ _, ?_⟩, HB.out.size, fun g hg => (HO.out.own hg).1⟩⟩, HB.out.alloc HB.out.size _⟩
  exact (HO.out.low (Nat.zero_le _)).keep fun g _ hg => Below.heap_alloc _ _ g hg
end Go.Proofs.Ytmhmohkeekmmgaa
