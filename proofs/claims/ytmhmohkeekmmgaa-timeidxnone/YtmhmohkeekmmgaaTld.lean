/- The program's Load. -/
import Derived.Test.YtmhmohkeekmmgaaTrd
namespace Go.Proofs.Ytmhmohkeekmmgaa
open Go.RowKit
/-- What the first of them that does not fit is refused with, from what is there on. -/
def rdC : List En → List En → Int
  | _, [] => 0
  | l, e :: r => if fitB l e then rdC (l ++ [e]) r else addC l e
theorem rdC_step {l : List En} {j : Nat} (hj : j < l.length) : rdC (l.take j) (l.drop j) = if fitB (l.take j) (l.getD j en0) then rdC (l.take (j + 1)) (l.drop (j + 1)) else addC (l.take j) (l.getD j en0) := by
  rw [List.drop_eq_getElem_cons hj, rdC, getD_of hj, List.take_succ_eq_append_getElem hj]
theorem ord_fit {l : List En} (h : Ord l) {j : Nat} (hj : j < l.length) : fitB (l.take j) (l.getD j en0) = true := by
  have h0 := h.2 (l.getD j en0) (by rw [getD_of hj]; exact List.getElem_mem _)
  rcases Nat.eq_zero_or_pos j with rfl | hp
  · rw [List.take_zero, fitB_nil]
    simpa using h0
  · have e1 : l.take j = l.take (j - 1) ++ [l.getD (j - 1) en0] := by
      conv => lhs; rw [show j = j - 1 + 1 from by omega]
      rw [List.take_succ_eq_append_getElem (by omega), getD_of (by omega)]
    rw [e1, fitB_snoc]
    have := List.pairwise_iff_getElem.1 h.1 (j - 1) j (by omega) hj (by omega)
    rw [getD_of hj] at h0
    rw [getD_of hj, getD_of (show j - 1 < l.length by omega), decide_eq_true h0, decide_eq_true this.1, decide_eq_true this.2]
    rfl
theorem ord_all {l : List En} (h : Ord l) : rdC [] l = 0 := by
  have : ∀ n j, j + n = l.length → rdC (l.take j) (l.drop j) = 0 := by
    intro n
    induction n with
    | zero => intro j hj; rw [show l.drop j = [] from List.drop_of_length_le (by omega)]; rfl
    | succ n ih =>
      intro j hj
      rw [rdC_step (by omega), if_pos (ord_fit h (by omega))]
      exact ih (j + 1) (by omega)
  simpa using this l.length 0 (by omega)
theorem addC_ne {l : List En} {e : En} (h : fitB l e = false) : addC l e = 1 ∨ addC l e = 30 := by
  have h1 : ¬ addC l e = 0 := fun h2 => by rw [fitB_C] at h2; rw [h2] at h; cases h
  unfold addC at *
  split
  · exact Or.inl rfl
  · rename_i h2
    rw [if_neg h2] at h1
    split
    · rename_i h3; rw [if_pos h3] at h1; exact absurd rfl h1
    · exact Or.inr rfl
theorem all_ord {l : List En} (h : rdC [] l = 0) : Ord l := by
  have : ∀ n j, j + n = l.length → Ord (l.take j) → rdC (l.take j) (l.drop j) = 0 → Ord l := by
    intro n
    induction n with
    | zero => intro j hj h1 _; rw [List.take_of_length_le (by omega)] at h1; exact h1
    | succ n ih =>
      intro j hj h1 h2
      rw [rdC_step (by omega)] at h2
      split at h2
      · rename_i h3
        refine ih (j + 1) (by omega) ?_ h2
        rw [List.take_succ_eq_append_getElem (by omega)]
        rw [getD_of (by omega)] at h3
        exact h1.snoc h3
      · rename_i h3
        rcases addC_ne (Bool.eq_false_iff.2 h3) with h4 | h4 <;> rw [h4] at h2 <;> cases h2
  exact this l.length 0 (by omega) (by simpa using Ord.nil) (by simpa using h)
set_option maxRecDepth 20000 in
set_option maxHeartbeats 2000000 in
theorem load_bad (s : ByteArray) (w : World) (h : s.size % 16 ≠ 0) (hs : s.size ≤ 140737488355328) : Calls Try.prog 19 #[.string s] w fun e w' => e = .returned (.tuple #[.pointer none, .int .i64 29]) ∧ w' = w := by
  have HR := hid (read_bad s w h hs)
  clear h
  go_enter Try.func19, Try.ntmps19
  go_wp2_with (go_at_call 39; refine HR.out.mono ?_; rintro e w' ⟨rfl, rfl⟩)
  go_ret2
  exact ⟨rfl, rfl⟩
/-- What Read answers of entries' bytes. -/
def LoadP (w : World) (L : List En) (e : Ending) (w' : World) : Prop := ((rdC [] L = 0 ∧ ∃ x v, e = .returned (.tuple #[.pointer (some ⟨x, 0, none⟩), .int .i64 0]) ∧ Io w' w.heap.size x v L) ∨ ((rdC [] L = 1 ∨ rdC [] L = 30) ∧ e = .returned (.tuple #[.pointer none, .int .i64 (rdC [] L)]))) ∧ Below w.heap.size w w'
/-- Under way in Load: the index with the first entries, and the row of all. -/
structure Lw (w wr : World) (x : Nat) (v : Value) (l L : List En) (a : Option Addr) : Prop where
  io : Io wr x x v l
  ens : Ens wr a L
  ab : ∀ ad, a = some ad → ad.block < x
  bel : Below w.heap.size w wr
  le : w.heap.size ≤ x
theorem Lw.later {w wr wx : World} {x : Nat} {v : Value} {l L : List En} {a : Option Addr} (h : Lw w wr x v l L a) (hb : Below wr.heap.size wr wx) : Lw w wx x v l L a :=
  ⟨h.io.below hb, h.ens.kept hb (Nat.le_refl _), h.ab, h.bel.trans (hb.mono h.bel.size), h.le⟩
theorem Lw.app {w wr w' : World} {x : Nat} {v v' : Value} {l L l' : List En} {a : Option Addr} (h : Lw w wr x v l L a) (h3 : Ix 60 w' x v' l') (h4 : Ch (IS x v) wr w') (h5 : Moved wr v v') : Lw w w' x v' l' L a := by
  have hx := lt_of_heap h.io.ix.blk
  obtain ⟨h1, h2⟩ := h.io.ch (by omega) h3 h4 h5
  refine ⟨h1, h.ens.keep h2.size (fun ad e hlt => h2.block _ (h.ab ad e)), h.ab, ?_, h.le⟩
  exact h.bel.trans (h2.mono h.le)
set_option maxRecDepth 20000 in
set_option maxHeartbeats 2000000 in
theorem load_ok (s : ByteArray) (w : World) (h : s.size % 16 = 0) (hs : s.size ≤ 140737488355328) : Calls Try.prog 19 #[.string s] w (LoadP w (rdE (bl s))) := by
  have HR := hid (read_ok s w h hs)
  have hl : (rdE (bl s)).length ≤ 8796093022208 := by rw [rdE_len, bl_len]; omega
  generalize rdE (bl s) = L at *
  have HA : Hid (∀ wx x v l e, l.length < L.length → Lw w wx x v l L e → ∀ en : En, Calls Try.prog 12 #[.pointer (some ⟨x, 0, none⟩), enV en] wx fun r w' => r = .returned (.int .i64 (addC l en)) ∧ ∃ v', Lw w w' x v' (addE l en) L e) := fun wx x v l e hlen hx en => (append_any _ en v l wx hx.io.ix (by omega)).mono fun r w' ⟨h1, v', h2, h3, h4⟩ => ⟨h1, v', hx.app h2 h3 h4⟩
  obtain ⟨N, hN⟩ : ∃ N, L.length = N := ⟨_, rfl⟩
  rw [hN] at hl HA
  have HN := hid hN
  clear h hN
  go_enter Try.func19, Try.ntmps19
  go_wp2_with (first | (go_at_call 39; refine HR.out.mono ?_; rintro e w1 ⟨⟨v1, rfl, ho⟩, hb1⟩; obtain ⟨n1, a1, c1, hn1, rfl, hens, _, hab⟩ := (show ∃ n1 a1 c1, n1 = N ∧ v1 = .slice a1 n1 c1 ∧ Ens w1 a1 L ∧ True ∧ (∀ ad, a1 = some ad → ad.block < w1.heap.size) from (by obtain ⟨a, c, h1, h2, _, h4⟩ := ho.ens4; exact ⟨_, a, c, HN.out, h1, h2, trivial, fun ad e => (ho.own (h4 ad e).1).2⟩)); obtain rfl := hn1; have HE := hid hens; have HAB := hid hab; have HB1 := hid hb1; clear ho hens hab hb1) | (go_at_call 10; refine (new_any _).mono ?_; rintro e w' ⟨rfl, rfl⟩))
  have HSt : Hid (Lw w (w1.alloc (.cells #[.slice none 0 0] 60)) w1.heap.size (.slice none 0 0) [] L a1) := ⟨⟨Ix.new _ _, Nat.le_refl _, (fun g hg => by cases hg)⟩, HE.out.kept ((Below.refl w1.heap.size w1).alloc (Nat.le_refl _) _) (Nat.le_refl _), HAB.out, HB1.out.alloc HB1.out.size _, HB1.out.size⟩
  go_loopg [21] n1 (fun k i wr => ∃ (j : Nat) (v : Value), j + k = n1 ∧ i = .int .i64 j ∧ Hid (Lw w wr w1.heap.size v (L.take j) L a1) ∧ Hid (rdC [] L = rdC (L.take j) (L.drop j)))
  case atStart => exact ⟨0, _, by omega, rfl, HSt.out, by show _ = _; simp⟩
  case round =>
    clear HSt
    obtain ⟨j, v, hj, rfl, HW, HF⟩ := hrel
    by_cases hlt : j < n1
    · obtain ⟨k', rfl⟩ : ∃ k', gk = k' + 1 := ⟨gk - 1, by omega⟩
      have hltI : (j : Int) < n1 := by omega
      have hjL : j < L.length := by rw [HN.out]; exact hlt
      rcases HW.out.ens with e | ⟨b, off, rfl, hb, hc⟩
      · rw [e] at hjL; cases hjL
      obtain ⟨p0, p1⟩ := hc j hjL
      have HT : Hid (L.take (j + 1) = L.take j ++ [L.getD j en0]) := by
        show _ = _
        rw [List.take_succ_eq_append_getElem hjL, getD_of hjL]
      have HF1 := hid (rdC_step hjL)
      have HTl : Hid ((L.take j).length < n1) := by show _ < _; rw [List.length_take]; omega
      generalize L.getD j en0 = s at *
      obtain ⟨sk, sa⟩ := s
      simp only at p0 p1
      have HWa := hid (HW.out.later ((Below.refl _ _).alloc (Nat.le_refl _) (.cells #[.int .i64 sk, .int .i64 sa] 29)))
      have HA1 := hid (HA.out _ _ _ _ _ HTl.out HWa.out ⟨sk, sa⟩)
      unfold enV addE at HA1
      simp only at HA1
      have HJ := hid hj
      have HBl := hid HW.out.bel
      clear hc hb hj hjL
      cases hfit : fitB (L.take j) ⟨sk, sa⟩ with
      | true =>
        rw [hfit] at HA1 HF1
        rw [(fitB_C _ _).2 hfit] at HA1
        simp only [if_true] at HA1 HF1
        clear hfit
        go_wp2_with (go_at_call 12; refine HA1.out.mono ?_; rintro r w2 ⟨rfl, v2, h2⟩; have HW2 := hid h2; clear h2)
        go_roundg k'
        case measure => omega
        case rel => exact ⟨j + 1, v2, by have := HJ.out; omega, congrArg (Value.int .i64) (by omega), by rw [HT.out]; exact HW2.out, by rw [HF.out]; exact HF1.out⟩
      | false =>
        rw [hfit] at HA1 HF1
        simp only [Bool.false_eq_true, if_false] at HA1 HF1
        rcases addC_ne hfit with h9 | h9
        all_goals
          rw [h9] at HA1 HF1
          clear hfit h9
          have HRC : Hid (rdC [] L = _) := HF.out.trans HF1.out
          clear HF HF1
          go_wp2_with (go_at_call 12; refine HA1.out.mono ?_; rintro r w2 ⟨rfl, v2, h2⟩; have HW2 := hid h2; clear h2)
          go_ret2
          exact ⟨Or.inr ⟨by rw [HRC.out]; decide, by rw [HRC.out]; rfl⟩, HW2.out.bel⟩
    · have hltI : ¬ (j : Int) < n1 := by omega
      have hjN : j = L.length := by rw [HN.out]; omega
      have HF2 : Hid (rdC [] L = 0) := by show _ = _; rw [HF.out, hjN, List.drop_length]; rfl
      rw [show L.take j = L from by rw [hjN, List.take_length]] at HW
      clear hjN
      go_wp2_with fail
      go_ret2
      exact ⟨Or.inl ⟨HF2.out, _, v, rfl, ⟨HW.out.io.ix, HW.out.le, fun g hg => Nat.le_trans HW.out.le (HW.out.io.at1 g hg)⟩⟩, HW.out.bel⟩
end Go.Proofs.Ytmhmohkeekmmgaa
