/- What ReadAll and the document's ReadAll answer of every text: the numbers in new memory, how far it went, the error; nothing that was there before is turned. And 'same'. -/
import Derived.Test.YtkaoipckjilnbaaRefPut
import Derived.Deep.QuietTactic
import Derived.BigQuiet
namespace Go.Proofs.Ytkaoipckjilnbaa
open Go.RowKit
/-- All numbers of bytes: with an error none. -/
def rall : Nat → List Nat → List Int × Nat × Nat
  | 0, _ => ([], 0, 0)
  | f + 1, l => if l = [] then ([], 0, 0) else if (M.rd 0 0 l).2.2 = 0 then
      (if (rall f (l.drop (M.rd 0 0 l).2.1)).2.2 = 0 then (((M.rd 0 0 l).1 : Int) :: (rall f (l.drop (M.rd 0 0 l).2.1)).1, (M.rd 0 0 l).2.1 + (rall f (l.drop (M.rd 0 0 l).2.1)).2.1, 0)
        else ([], (M.rd 0 0 l).2.1 + (rall f (l.drop (M.rd 0 0 l).2.1)).2.1, (rall f (l.drop (M.rd 0 0 l).2.1)).2.2))
    else ([], 0, (M.rd 0 0 l).2.2)
def RA (s : ByteArray) : List Int × Nat × Nat := rall s.size (bl s)
/-- What has been read so far, and what the rest gives. -/
def cmb (acc : List Int) (k : Nat) (r : List Int × Nat × Nat) : List Int × Nat × Nat := if r.2.2 = 0 then (acc ++ r.1, k + r.2.1, 0) else ([], k + r.2.1, r.2.2)
theorem rall_nil (f : Nat) : rall f [] = ([], 0, 0) := by cases f <;> simp [rall]
theorem rall_bad : ∀ (f : Nat) (l : List Nat), (rall f l).2.2 ≠ 0 → (rall f l).1 = []
  | 0, _, _ => rfl
  | f + 1, l, h => by
    simp only [rall] at h ⊢
    split
    · rfl
    · rename_i h1
      rw [if_neg h1] at h
      split
      · rename_i h2
        rw [if_pos h2] at h
        split
        · rename_i h3; rw [if_pos h3] at h; exact absurd rfl h
        · rfl
      · rfl
theorem cmb_start (f : Nat) (l : List Nat) : cmb [] 0 (rall f l) = rall f l := by
  have h := rall_bad f l
  rcases hr : rall f l with ⟨a, b, c⟩
  rw [hr] at h
  unfold cmb
  by_cases hc : c = 0
  · subst hc; simp
  · have := h hc
    simp at this
    subst this
    simp [hc]
theorem cmb_end (acc : List Int) (k f : Nat) : cmb acc k (rall f []) = (acc, k, 0) := by rw [rall_nil]; simp [cmb]
theorem cmb_bad {acc : List Int} {k f : Nat} {l : List Nat} (hl : l ≠ []) (h : ¬ (M.rd 0 0 l).2.2 = 0) : cmb acc k (rall (f + 1) l) = ([], k, (M.rd 0 0 l).2.2) := by
  have e : rall (f + 1) l = ([], 0, (M.rd 0 0 l).2.2) := by simp only [rall]; rw [if_neg hl, if_neg h]
  rw [e]; unfold cmb; rw [if_neg h]; rfl
theorem cmb_step {acc : List Int} {k f : Nat} {l : List Nat} (hl : l ≠ []) (h : (M.rd 0 0 l).2.2 = 0) :
    cmb acc k (rall (f + 1) l) = cmb (acc ++ [((M.rd 0 0 l).1 : Int)]) (k + (M.rd 0 0 l).2.1) (rall f (l.drop (M.rd 0 0 l).2.1)) := by
  have e : rall (f + 1) l = (if (rall f (l.drop (M.rd 0 0 l).2.1)).2.2 = 0 then (((M.rd 0 0 l).1 : Int) :: (rall f (l.drop (M.rd 0 0 l).2.1)).1, (M.rd 0 0 l).2.1 + (rall f (l.drop (M.rd 0 0 l).2.1)).2.1, 0)
        else ([], (M.rd 0 0 l).2.1 + (rall f (l.drop (M.rd 0 0 l).2.1)).2.1, (rall f (l.drop (M.rd 0 0 l).2.1)).2.2)) := by conv => lhs; simp only [rall]; rw [if_neg hl, if_pos h]
  rw [e]
  by_cases hr : (rall f (l.drop (M.rd 0 0 l).2.1)).2.2 = 0
  · rw [if_pos hr]; unfold cmb; rw [if_pos hr, if_pos rfl]; simp; omega
  · rw [if_neg hr]; unfold cmb; rw [if_neg hr, if_neg hr]; simp; omega
theorem bl_from (s : ByteArray) (k : Nat) : bl (s.extract k s.size) = (bl s).drop k := by
  unfold bl
  rw [ByteArray.data_extract, ← List.map_drop]
  congr 1
  rw [Array.toList_extract, List.extract_eq_take_drop]
  exact List.take_of_length_le (by rw [List.length_drop, Array.length_toList]; exact Nat.le_refl _)
theorem rall_forms : ∀ (zs : List Int) (f : Nat), (∀ z ∈ zs, 0 ≤ z ∧ z ≤ 18446744073709551615) → (forms zs).length ≤ f → rall f (forms zs) = (zs, (forms zs).length, 0)
  | [], f, _, _ => rall_nil f
  | z :: zs, f, hz, hf => by
    have e : forms (z :: zs) = M.form z.toNat ++ forms zs := by simp [forms]
    have hp := M.form_pos z.toNat
    have hz0 := hz z (by simp)
    rw [e, List.length_append] at hf
    obtain ⟨g, rfl⟩ : ∃ g, f = g + 1 := ⟨f - 1, by omega⟩
    have r := M.rd_back (v := z.toNat) (by omega) (forms zs)
    have ih := rall_forms zs g (fun y hy => hz y (by simp [hy])) (by omega)
    have hd : (M.form z.toNat ++ forms zs).drop (M.form z.toNat).length = forms zs := by simp
    have hne : M.form z.toNat ++ forms zs ≠ [] := by intro h; have := congrArg List.length h; rw [List.length_append] at this; simp only [List.length_nil] at this; omega
    rw [e]
    simp only [rall]
    rw [if_neg hne, r]
    simp only [hd, ih, if_true]
    simp; omega
theorem RA_forms {zs : List Int} (hz : ∀ z ∈ zs, 0 ≤ z ∧ z ≤ 18446744073709551615) : RA (bs (forms zs)) = (zs, (forms zs).length, 0) := by
  unfold RA
  have e : bl (bs (forms zs)) = forms zs := by
    unfold bl bs
    simp only [List.map_map]
    conv => rhs; rw [← List.map_id (forms zs)]
    apply List.map_congr_left
    intro b hb
    have := forms_byte hz b hb
    simp; omega
  rw [e, bs_size]
  exact rall_forms zs _ hz (Nat.le_refl _)
set_option maxHeartbeats 1000000 in
set_option maxRecDepth 20000 in
theorem all_any (s : ByteArray) (w : World) (hs : s.size ≤ 10000000000000) :
    Calls Try.prog 33 #[.string s] w fun e w' => ∃ v', e = .returned (.tuple #[v', .int .i64 (RA s).2.1, .int .i64 (RA s).2.2]) ∧ w'.ownsRow w.heap.size 29 1 v' (RA s).1.length (uc (RA s).1) ∧ Below w.heap.size w w' := by
  obtain ⟨i0, hi, hz0, hz1, hz2⟩ := info_parts Try.info29
  go_enter Try.func33, Try.ntmps33
  go_wp2
  go_loopw [5, 6] (fun o i wr => ∃ (k n f : Nat) (acc : List Int), k ≤ s.size ∧ s.size - k ≤ f ∧ n ≤ k ∧ i = .int .i64 k ∧ acc.length = n ∧ Hid (wr.ownsRow w.heap.size 29 1 o n (uc acc)) ∧ Below w.heap.size w wr ∧ Hid (cmb acc k (rall f ((bl s).drop k)) = RA s)) (fun _ i _ => s.size - (intOf i).toNat)
  case atStart => exact ⟨0, 0, s.size, [], by omega, by omega, by omega, rfl, rfl, World.ownsRow_nil _ _ _ _, Below.refl _ _, cmb_start _ _⟩
  case round =>
    obtain ⟨k, n, f, acc, hk, hf, hnk, rfl, hn, hown, hbel, HR⟩ := hrel
    have HN : Hid (acc.length = n) := hn
    clear hn
    have hsz := hbel.size
    by_cases hlt : k < s.size
    · obtain ⟨f, rfl⟩ : ∃ g, f = g + 1 := ⟨f - 1, by omega⟩
      have ebl := bl_from s k
      have hne : (bl s).drop k ≠ [] := by intro h; have := congrArg List.length h; simp [bl_len] at this; omega
      have bsz : (s.extract k s.size).size = s.size - k := by rw [ByteArray.size_extract]; omega
      obtain ⟨b1, b2, b3⟩ := M.rd_bd (bl (s.extract k s.size)) (bl_byte _)
      rw [bl_len, bsz] at b3
      by_cases he : rde (s.extract k s.size) = 0
      · have hp : 1 ≤ rdn (s.extract k s.size) := by
          obtain ⟨t, e1, e2, e3⟩ := M.rd_fwd (bl_byte (s.extract k s.size)) he
          unfold rdn; rw [e3]; exact M.form_pos _
        have hstep : cmb acc k (rall (f + 1) ((bl s).drop k)) = cmb (acc ++ [((rdv (s.extract k s.size) : Nat) : Int)]) (k + rdn (s.extract k s.size)) (rall f ((bl s).drop (k + rdn (s.extract k s.size)))) := by
          rw [cmb_step hne (by rw [← ebl]; exact he), ← ebl]
          unfold rdv rdn
          rw [← List.drop_drop, ← ebl]
        have HS : Hid (cmb (acc ++ [((rdv (s.extract k s.size) : Nat) : Int)]) (k + rdn (s.extract k s.size)) (rall f ((bl s).drop (k + rdn (s.extract k s.size)))) = RA s) := hstep.symm.trans HR.out
        have c2 : rdn (s.extract k s.size) ≤ s.size - k := b3
        have c1 : ((rdv (s.extract k s.size) : Nat) : Int) ≤ 18446744073709551615 := by unfold rdv; omega
        clear ebl hne b1 b2 b3 hstep HR bsz
        generalize hrn : rdn (s.extract k s.size) = rn at hp HS c2
        generalize hrv : ((rdv (s.extract k s.size) : Nat) : Int) = rv at HS c1
        go_wp2_with (first | (go_at_call 52; refine (rf_any _ _ (by rw [ByteArray.size_extract]; omega)).mono ?_; rintro e w' ⟨rfl, rfl⟩) | (at_builtin; refine wpList_append_own _ rfl _ _ 26 rfl w.heap.size 29 i0 (.int .u64 0) 1 8 Try.under26 hi hz0 hz1 hz2 rfl (by decide) _ _ _ rfl (hown.out.alloc _) ⟨_, 0, none⟩ 1 1 [.int .u64 rv] rfl rfl (cell_one_new _ _ _) (one_u64 _) ?c3 ?c4 ?c5 ?_))
        case c3 => unfold maxLen; omega
        case c4 => omega
        case c5 => simp; omega
        · intro v' w2 hown2 hgrow _
          have HB2 := bel_step hbel hown.out (by omega) hgrow
          have HO2 : Hid (w2.ownsRow w.heap.size 29 1 v' (n + 1) (uc (acc ++ [rv]))) := by unfold Hid; rw [uc_app]; exact hown2
          clear hown2 hgrow hown hbel
          go_wp2
          go_roundw
          case rel => exact ⟨k + rn, n + 1, f, acc ++ [rv], by omega, by omega, by omega, by go_num, by rw [List.length_append, HN.out]; rfl, HO2, HB2, HS⟩
          case measure => simp [intOf]; omega
      · have hbad := cmb_bad (acc := acc) (k := k) (f := f) hne (by rw [← ebl]; exact he)
        rw [HR.out] at hbad
        have HBAD : Hid (RA s = ([], k, rde (s.extract k s.size))) := by unfold Hid; rw [hbad, ← ebl]; rfl
        clear hbad HR ebl hne b1 b2 b3 bsz
        have HB : Hid (Below w.heap.size w wr) := hbel
        clear hbel hown
        go_wp2_with (go_at_call 52; refine (rf_any _ _ (by rw [ByteArray.size_extract]; omega)).mono ?_; rintro e w' ⟨rfl, rfl⟩)
        go_ret3
        have hb := HBAD.out
        exact ⟨.slice none 0 0, by rw [hb]; rfl, by rw [hb]; exact World.ownsRow_nil _ _ _ _, HB.out⟩
    · have he : (bl s).drop k = [] := bl_end s k (by omega)
      have hR := HR.out
      rw [he, cmb_end] at hR
      have HR2 : Hid ((acc, k, 0) = RA s) := hR
      have HB : Hid (Below w.heap.size w wr) := hbel
      have HO : Hid (wr.ownsRow w.heap.size 29 1 u5 acc.length (uc acc)) := by unfold Hid; rw [HN.out]; exact hown.out
      clear hbel hown hR HR he
      go_wp2
      go_ret3
      have hb := HR2.out
      exact ⟨_, by rw [← hb]; rfl, by rw [← hb]; exact HO.out, HB.out⟩
set_option maxHeartbeats 1000000 in
set_option maxRecDepth 20000 in
theorem rall_any (s : ByteArray) (w : World) (hs : s.size ≤ 10000000000000) :
    Calls Try.prog 34 #[.string s] w fun e w' => ∃ v', e = .returned (.tuple #[v', .int .i64 (RA s).2.1, .int .i64 (RA s).2.2]) ∧ w'.ownsRow w.heap.size 29 1 v' (RA s).1.length (uc (RA s).1) ∧ Below w.heap.size w w' := by
  obtain ⟨i0, hi, hz0, hz1, hz2⟩ := info_parts Try.info29
  go_enter Try.func34, Try.ntmps34
  go_wp2
  go_loopw [5, 6] (fun o i wr => ∃ (k n f : Nat) (acc : List Int), k ≤ s.size ∧ s.size - k ≤ f ∧ n ≤ k ∧ i = .int .i64 k ∧ acc.length = n ∧ Hid (wr.ownsRow w.heap.size 29 1 o n (uc acc)) ∧ Below w.heap.size w wr ∧ Hid (cmb acc k (rall f ((bl s).drop k)) = RA s)) (fun _ i _ => s.size - (intOf i).toNat)
  case atStart => exact ⟨0, 0, s.size, [], by omega, by omega, by omega, rfl, rfl, World.ownsRow_nil _ _ _ _, Below.refl _ _, cmb_start _ _⟩
  case round =>
    obtain ⟨k, n, f, acc, hk, hf, hnk, rfl, hn, hown, hbel, HR⟩ := hrel
    have HN : Hid (acc.length = n) := hn
    clear hn
    have hsz := hbel.size
    by_cases hlt : k < s.size
    · obtain ⟨f, rfl⟩ : ∃ g, f = g + 1 := ⟨f - 1, by omega⟩
      have ebl := bl_from s k
      have hne : (bl s).drop k ≠ [] := by intro h; have := congrArg List.length h; simp [bl_len] at this; omega
      have bsz : (s.extract k s.size).size = s.size - k := by rw [ByteArray.size_extract]; omega
      obtain ⟨b1, b2, b3⟩ := M.rd_bd (bl (s.extract k s.size)) (bl_byte _)
      rw [bl_len, bsz] at b3
      by_cases he : rde (s.extract k s.size) = 0
      · have hp : 1 ≤ rdn (s.extract k s.size) := by
          obtain ⟨t, e1, e2, e3⟩ := M.rd_fwd (bl_byte (s.extract k s.size)) he
          unfold rdn; rw [e3]; exact M.form_pos _
        have hstep : cmb acc k (rall (f + 1) ((bl s).drop k)) = cmb (acc ++ [((rdv (s.extract k s.size) : Nat) : Int)]) (k + rdn (s.extract k s.size)) (rall f ((bl s).drop (k + rdn (s.extract k s.size)))) := by
          rw [cmb_step hne (by rw [← ebl]; exact he), ← ebl]
          unfold rdv rdn
          rw [← List.drop_drop, ← ebl]
        have HS : Hid (cmb (acc ++ [((rdv (s.extract k s.size) : Nat) : Int)]) (k + rdn (s.extract k s.size)) (rall f ((bl s).drop (k + rdn (s.extract k s.size)))) = RA s) := hstep.symm.trans HR.out
        have c2 : rdn (s.extract k s.size) ≤ s.size - k := b3
        have c1 : ((rdv (s.extract k s.size) : Nat) : Int) ≤ 18446744073709551615 := by unfold rdv; omega
        clear ebl hne b1 b2 b3 hstep HR bsz
        generalize hrn : rdn (s.extract k s.size) = rn at hp HS c2
        generalize hrv : ((rdv (s.extract k s.size) : Nat) : Int) = rv at HS c1
        go_wp2_with (first | (go_at_call 39; refine (rread_any _ _ (by rw [ByteArray.size_extract]; omega)).mono ?_; rintro e w' ⟨rfl, rfl⟩) | (at_builtin; refine wpList_append_own _ rfl _ _ 26 rfl w.heap.size 29 i0 (.int .u64 0) 1 8 Try.under26 hi hz0 hz1 hz2 rfl (by decide) _ _ _ rfl (hown.out.alloc _) ⟨_, 0, none⟩ 1 1 [.int .u64 rv] rfl rfl (cell_one_new _ _ _) (one_u64 _) ?c3 ?c4 ?c5 ?_))
        case c3 => unfold maxLen; omega
        case c4 => omega
        case c5 => simp; omega
        · intro v' w2 hown2 hgrow _
          have HB2 := bel_step hbel hown.out (by omega) hgrow
          have HO2 : Hid (w2.ownsRow w.heap.size 29 1 v' (n + 1) (uc (acc ++ [rv]))) := by unfold Hid; rw [uc_app]; exact hown2
          clear hown2 hgrow hown hbel
          go_wp2
          go_roundw
          case rel => exact ⟨k + rn, n + 1, f, acc ++ [rv], by omega, by omega, by omega, by go_num, by rw [List.length_append, HN.out]; rfl, HO2, HB2, HS⟩
          case measure => simp [intOf]; omega
      · have hbad := cmb_bad (acc := acc) (k := k) (f := f) hne (by rw [← ebl]; exact he)
        rw [HR.out] at hbad
        have HBAD : Hid (RA s = ([], k, rde (s.extract k s.size))) := by unfold Hid; rw [hbad, ← ebl]; rfl
        clear hbad HR ebl hne b1 b2 b3 bsz
        have HB : Hid (Below w.heap.size w wr) := hbel
        clear hbel hown
        go_wp2_with (go_at_call 39; refine (rread_any _ _ (by rw [ByteArray.size_extract]; omega)).mono ?_; rintro e w' ⟨rfl, rfl⟩)
        go_ret3
        have hb := HBAD.out
        exact ⟨.slice none 0 0, by rw [hb]; rfl, by rw [hb]; exact World.ownsRow_nil _ _ _ _, HB.out⟩
    · have he : (bl s).drop k = [] := bl_end s k (by omega)
      have hR := HR.out
      rw [he, cmb_end] at hR
      have HR2 : Hid ((acc, k, 0) = RA s) := hR
      have HB : Hid (Below w.heap.size w wr) := hbel
      have HO : Hid (wr.ownsRow w.heap.size 29 1 u5 acc.length (uc acc)) := by unfold Hid; rw [HN.out]; exact hown.out
      clear hbel hown hR HR he
      go_wp2
      go_ret3
      have hb := HR2.out
      exact ⟨_, by rw [← hb]; rfl, by rw [← hb]; exact HO.out, HB.out⟩
set_option maxHeartbeats 1000000 in
set_option maxRecDepth 20000 in
theorem same_any (a a' : Option Addr) (cap cap' : Nat) (zs : List Int) (w : World) (hl : zs.length ≤ 9223372036854775807) (hv : Vals .u64 w a zs) (hv' : Vals .u64 w a' zs) :
    Calls Try.prog 35 #[.slice a zs.length cap, .slice a' zs.length cap'] w fun e w' => e = .returned (.bool true) ∧ Below w.heap.size w w' := by
  go_enter Try.func35, Try.ntmps35
  go_wp2
  go_loopw [5] (fun i wr => ∃ j : Nat, j ≤ zs.length ∧ i = .int .i64 j ∧ Below w.heap.size w wr) (fun i _ => zs.length - (intOf i).toNat)
  case atStart => exact ⟨0, by omega, rfl, Below.refl _ _⟩
  case round =>
    obtain ⟨j, hj, rfl, hbel⟩ := hrel
    by_cases hlt : j < zs.length
    · rcases hv with rfl | ⟨b, off, rfl, hb, hc⟩
      · simp at hlt
      · rcases hv' with rfl | ⟨b', off', rfl, hb', hc'⟩
        · simp at hlt
        · have hcell := (hbel.cell (p := ⟨b, off + j, none⟩) hb).trans (hc j hlt)
          have hcell' := (hbel.cell (p := ⟨b', off' + j, none⟩) hb').trans (hc' j hlt)
          generalize zs.getD j 0 = z at hcell hcell'
          have HB : Hid (Below w.heap.size w wr) := hbel
          clear hc hc' hbel
          go_wp2
          go_quiet (fail)
          go_wp2
          go_roundw
          case rel => exact ⟨j + 1, by omega, by go_num, below_drewN HB.out _⟩
          case measure => simp [intOf]; omega
    · have HB : Hid (Below w.heap.size w wr) := hbel
      clear hv hv' hbel
      go_wp2
      go_ret
      exact ⟨rfl, HB.out⟩
end Go.Proofs.Ytkaoipckjilnbaa
