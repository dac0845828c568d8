/- The program's Load. -/
import Derived.Test.YtldfbddccmnchaaOrd
namespace Go.Proofs.Ytldfbddccmnchaa
open Go.RowKit
/-- Do all of them keep the order, from what is there on? -/
def allFit : List En → List En → Bool
  | _, [] => true
  | l, e :: r => fitB l e && allFit (l ++ [e]) r
theorem allFit_step {l : List En} {j : Nat} (hj : j < l.length) : allFit (l.take j) (l.drop j) = (fitB (l.take j) (l.getD j en0) && allFit (l.take (j + 1)) (l.drop (j + 1))) := by
  rw [List.drop_eq_getElem_cons hj, allFit, getD_of hj, List.take_succ_eq_append_getElem hj]
theorem ord_fit {l : List En} (h : Ord l) {j : Nat} (hj : j < l.length) : fitB (l.take j) (l.getD j en0) = true := by
  rw [fitB_iff]
  rcases Nat.eq_zero_or_pos j with rfl | hp
  · have := h.2 (l.getD 0 en0) (by rw [getD_of hj]; exact List.getElem_mem _)
    show (-1 : Int) < _ ∧ (-1 : Int) < _
    omega
  · have e : lastE (l.take j) = l.getD (j - 1) en0 := by
      have e1 : l.take j = l.take (j - 1) ++ [l.getD (j - 1) en0] := by
        conv => lhs; rw [show j = j - 1 + 1 from by omega]
        rw [List.take_succ_eq_append_getElem (by omega), getD_of (by omega)]
      rw [e1, lastE_snoc]
    rw [e, getD_of (by omega), getD_of hj]
    exact List.pairwise_iff_getElem.1 h.1 (j - 1) j (by omega) hj (by omega)
theorem ord_all {l : List En} (h : Ord l) : allFit [] l = true := by
  have : ∀ n j, j + n = l.length → allFit (l.take j) (l.drop j) = true := by
    intro n
    induction n with
    | zero => intro j hj; rw [List.drop_eq_nil_of_le (by omega)]; rfl
    | succ n ih => intro j hj; rw [allFit_step (by omega), ord_fit h (by omega), ih (j + 1) (by omega)]; rfl
  simpa using this l.length 0 (by omega)
theorem all_ord {l : List En} (h : allFit [] l = true) : Ord l := by
  have : ∀ n j, j + n = l.length → Ord (l.take j) → allFit (l.take j) (l.drop j) = true → Ord l := by
    intro n
    induction n with
    | zero => intro j hj h1 _; rw [List.take_of_length_le (by omega)] at h1; exact h1
    | succ n ih =>
      intro j hj h1 h2
      rw [allFit_step (by omega), Bool.and_eq_true] at h2
      refine ih (j + 1) (by omega) ?_ h2.2
      rw [List.take_succ_eq_append_getElem (by omega)]
      rw [getD_of (by omega)] at h2
      exact h1.snoc h2.1
  exact this l.length 0 (by omega) (by simpa using Ord.nil) (by simpa using h)
set_option maxRecDepth 20000 in
set_option maxHeartbeats 2000000 in
theorem load_bad (s : ByteArray) (w : World) (h : s.size % 16 ≠ 0) (hs : s.size ≤ 140737488355328) : Calls Try.prog 21 #[.string s] w fun e w' => e = .returned (.tuple #[.pointer none, .int .i64 29]) ∧ w' = w := by
  have HR := hid (read_bad s w h hs)
  clear h
  go_enter Try.func21, Try.ntmps21
  go_wp2_with (go_at_call 19; refine HR.out.mono ?_; rintro e w' ⟨rfl, rfl⟩)
  go_ret2
  exact ⟨rfl, rfl⟩
/-- What Load answers of entries' bytes. -/
def LoadP (w : World) (L : List En) (e : Ending) (w' : World) : Prop := ((allFit [] L = true ∧ ∃ x v, e = .returned (.tuple #[.pointer (some ⟨x, 0, none⟩), .int .i64 0]) ∧ Io w' w.heap.size x v L) ∨ (allFit [] L = false ∧ e = .returned (.tuple #[.pointer none, .int .i64 30]))) ∧ Below w.heap.size w w'
/-- Under way in Load: the index with the first entries, and the row of all. -/
structure Lw (w wr : World) (x : Nat) (v : Value) (l L : List En) (a : Option Addr) : Prop where
  io : Io wr x x v l
  ens : Ens wr a L
  ab : ∀ ad, a = some ad → ad.block < x
  bel : Below w.heap.size w wr
  le : w.heap.size ≤ x
theorem Lw.later {w wr wx : World} {x : Nat} {v : Value} {l L : List En} {a : Option Addr} (h : Lw w wr x v l L a) (hb : Below wr.heap.size wr wx) : Lw w wx x v l L a :=
  ⟨h.io.below hb, h.ens.kept hb (Nat.le_refl _), h.ab, h.bel.trans (hb.mono h.bel.size), h.le⟩
theorem Lw.left {w wr w' : World} {x : Nat} {v : Value} {l L l' : List En} {a : Option Addr} (h : Lw w wr x v l L a) (hl : Left wr w' (some ⟨x, 0, none⟩) v l') : ∃ v', Lw w w' x v' l' L a := by
  have hx := lt_of_heap h.io.ix.blk
  obtain ⟨v', h1, h2⟩ := h.io.left (by omega) hl
  refine ⟨v', h1, h.ens.keep h2.size (fun ad e hlt => h2.block _ (h.ab ad e)), h.ab, ?_, h.le⟩
  exact h.bel.trans (h2.mono h.le)
set_option maxRecDepth 20000 in
set_option maxHeartbeats 2000000 in
theorem load_ok (s : ByteArray) (w : World) (h : s.size % 16 = 0) (hs : s.size ≤ 140737488355328) : Calls Try.prog 21 #[.string s] w (LoadP w (rdE (bl s))) := by
  have HR := hid (read_ok s w h hs)
  have hl : (rdE (bl s)).length ≤ 8796093022208 := by rw [rdE_len, bl_len]; omega
  generalize rdE (bl s) = L at *
  have HA : Hid (∀ wx x v l e, l.length < L.length → Lw w wx x v l L e → ∀ en : En, Calls Try.prog 30 #[.pointer (some ⟨x, 0, none⟩), enV en] wx fun r w' => r = .returned (.int .i64 (addC l en)) ∧ ∃ v', Lw w w' x v' (addE l en) L e) := fun wx x v l e hlen hx en => (add_any _ en v l wx hx.io.ip (by omega)).mono fun r w' ⟨h1, h2⟩ => ⟨h1, hx.left h2⟩
  obtain ⟨N, hN⟩ : ∃ N, L.length = N := ⟨_, rfl⟩
  rw [hN] at hl HA
  have HN := hid hN
  clear h hN
  go_enter Try.func21, Try.ntmps21
  go_wp2_with (first | (go_at_call 19; refine HR.out.mono ?_; rintro e w1 ⟨⟨v1, rfl, ho⟩, hb1⟩; obtain ⟨n1, a1, c1, hn1, rfl, hens, _, hab⟩ := (show ∃ n1 a1 c1, n1 = N ∧ v1 = .slice a1 n1 c1 ∧ Ens w1 a1 L ∧ True ∧ (∀ ad, a1 = some ad → ad.block < w1.heap.size) from (by obtain ⟨a, c, h1, h2, _, h4⟩ := ho.ens4; exact ⟨_, a, c, HN.out, h1, h2, trivial, fun ad e => (ho.own (h4 ad e).1).2⟩)); obtain rfl := hn1; have HE := hid hens; have HAB := hid hab; have HB1 := hid hb1; clear ho hens hab hb1) | (go_at_call 10; refine (new_any _).mono ?_; rintro e w' ⟨rfl, rfl⟩))
  have HSt : Hid (Lw w (w1.alloc (.cells #[.slice none 0 0] 63)) w1.heap.size (.slice none 0 0) [] L a1) := ⟨⟨Ix.new _ _, Nat.le_refl _, (fun g hg => by cases hg)⟩, HE.out.kept ((Below.refl w1.heap.size w1).alloc (Nat.le_refl _) _) (Nat.le_refl _), HAB.out, HB1.out.alloc HB1.out.size _, HB1.out.size⟩
  go_loopg [21] n1 (fun k i wr => ∃ (j : Nat) (v : Value), j + k = n1 ∧ i = .int .i64 j ∧ Hid (Lw w wr w1.heap.size v (L.take j) L a1) ∧ Hid (allFit [] L = allFit (L.take j) (L.drop j)))
  case atStart => exact ⟨0, _, by omega, rfl, HSt.out, by show _ = _; simp⟩
  case round =>
    clear HSt
    obtain ⟨j, v, hj, rfl, HW, HF⟩ := hrel
    by_cases hlt : j < n1
    · obtain ⟨k', rfl⟩ : ∃ k', gk = k' + 1 := ⟨gk - 1, by omega⟩
      have hltI : (j : Int) < n1 := by omega
      have hjL : j < L.length := by rw [HN.out]; exact hlt
      rcases HW.out.ens with e | ⟨b, off, rfl, hb, hc⟩
      · rw [e] at hjL; cases hjL
      obtain ⟨p0, p1⟩ := hc j hjL
      have HT : Hid (L.take (j + 1) = L.take j ++ [L.getD j en0]) := by
        show _ = _
        rw [List.take_succ_eq_append_getElem hjL, getD_of hjL]
      have HF1 := hid (allFit_step hjL)
      have HTl : Hid ((L.take j).length < n1) := by show _ < _; rw [List.length_take]; omega
      generalize L.getD j en0 = s at *
      obtain ⟨sk, sa⟩ := s
      simp only at p0 p1
      have HWa := hid (HW.out.later ((Below.refl _ _).alloc (Nat.le_refl _) (.cells #[.int .i64 sk, .int .i64 sa] 30)))
      have HA1 := hid (HA.out _ _ _ _ _ HTl.out HWa.out ⟨sk, sa⟩)
      unfold enV addC addE at HA1
      simp only at HA1
      have HJ := hid hj
      have HBl := hid HW.out.bel
      clear hc hb hj hjL
      cases hfit : fitB (L.take j) ⟨sk, sa⟩ with
      | true =>
        rw [hfit] at HA1 HF1
        simp only [if_true, Bool.true_and] at HA1 HF1
        clear hfit
        go_wp2_with (go_at_call 30; refine HA1.out.mono ?_; rintro r w2 ⟨rfl, v2, h2⟩; have HW2 := hid h2; clear h2)
        go_roundg k'
        case measure => omega
        case rel => exact ⟨j + 1, v2, by have := HJ.out; omega, congrArg (Value.int .i64) (by omega), by rw [HT.out]; exact HW2.out, by rw [HF.out]; exact HF1.out⟩
      | false =>
        rw [hfit] at HA1 HF1
        simp only [Bool.false_eq_true, if_false, Bool.false_and] at HA1 HF1
        clear hfit
        go_wp2_with (go_at_call 30; refine HA1.out.mono ?_; rintro r w2 ⟨rfl, v2, h2⟩; have HW2 := hid h2; clear h2)
        go_ret2
        exact ⟨Or.inr ⟨by rw [HF.out]; exact HF1.out, rfl⟩, HW2.out.bel⟩
    · have hltI : ¬ (j : Int) < n1 := by omega
      have hjN : j = L.length := by rw [HN.out]; omega
      have HF2 : Hid (allFit [] L = true) := by show _ = _; rw [HF.out, hjN, List.drop_length]; rfl
      rw [show L.take j = L from by rw [hjN, List.take_length]] at HW
      clear hjN
      go_wp2_with fail
      go_ret2
      exact ⟨Or.inl ⟨HF2.out, _, v, rfl, ⟨HW.out.io.ix, HW.out.le, fun g hg => Nat.le_trans HW.out.le (HW.out.io.at1 g hg)⟩⟩, HW.out.bel⟩
end Go.Proofs.Ytldfbddccmnchaa
