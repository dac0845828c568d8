/- A file's clone. -/
import Derived.Test.YthjbhfhdepepmaaFac
namespace Go.Proofs.Ythjbhfhdepepmaa
open Go.RowKit
theorem eql_sl_nil (a : Option Addr) (n c : Nat) (w : World) : (binOp .eql 81 (.slice a n c) (.slice none 0 0)).run Try.prog w = .ok (.bool a.isNone) w := by
  simp only [binOp]
  simp [Op.equal, Op.maxDepth, Lib.run_equalIn_slice_nil w 9999 81 5 a n c 0 0 Try.underBytes]
set_option maxHeartbeats 1000000 in
set_option maxRecDepth 20000 in
theorem bclone_any (v : Value) (n : Nat) (xs : List Value) (w : World) (h : w.ownsRow 0 5 1 v n xs) (h1 : ∀ u ∈ xs, u.oneCell' = true) (hn : n ≤ 1073741824) :
    Calls Try.prog 83 #[v] w fun e w' => ∃ v', e = .returned v' ∧ w'.ownsRow w.heap.size 5 1 v' n xs ∧ Below w.heap.size w w' := by
  obtain ⟨i0, hi, hz0, hz1, hz2⟩ := info_parts Try.info5
  have hx := h.1
  rcases h.2 with ⟨rfl, rfl⟩ | ⟨g, cap, cur, rfl, r⟩
  · have e : xs = [] := List.eq_nil_of_length_eq_zero (by omega)
    subst e
    clear h h1
    have hq := eql_sl_nil none 0 0 w
    go_enter Try.func83, Try.ntmps83
    go_wp2
    go_ret
    exact ⟨_, rfl, World.ownsRow_nil w _ 5 1, Below.refl _ _⟩
  · have hcells := h.cells (g := g) rfl
    have HC := hid hcells
    have H1 := hid h1
    have HX := hid hx
    have HN := hid hn
    clear h hcells h1 hx hn r
    have hq := eql_sl_nil (some ⟨g, 0, none⟩) n cap w
    go_enter Try.func83, Try.ntmps83
    go_wp2_with (at_builtin; refine wpList_append_own _ rfl _ _ 81 rfl w.heap.size 5 i0 (.int .u8 0) 1 1 Try.underBytes hi hz0 hz1 hz2 rfl (by decide) _ 0 [] rfl ⟨rfl, Or.inr ⟨w.heap.size, 0, #[], rfl, Nat.le_refl _, heap_new _ _, Nat.le_refl _, Nat.zero_le _, rfl, rfl⟩⟩ ⟨g, 0, none⟩ n cap xs rfl HX.out (fun j u hu => ?c1) H1.out ?c2 ?c3 ?c4 ?_)
    case c1 => have h := HC.out j u hu; rw [add_lit] at h ⊢; exact (World.cell?_of_block (Below.heap_alloc w _ g (World.block_lt_of_cell? _ _ h))).trans h
    case c2 => have := HN.out; unfold maxLen; omega
    case c3 => have := HN.out; omega
    case c4 => simp
    intro v' w1 hown hgrow _
    have HO := hid hown
    have hbel : Below w.heap.size w w1 := (bel_alloc w _).trans ⟨hgrow.os, hgrow.tape, hgrow.output, hgrow.size, fun k hk => hgrow.block k (by simp; omega) (fun e => by injection e with e; simp only at e; omega)⟩
    have HB := hid hbel
    clear hown hgrow hbel
    go_wp2
    go_ret
    exact ⟨v', rfl, HO.out, HB.out⟩
set_option maxHeartbeats 1000000 in
set_option maxRecDepth 20000 in
theorem fclone_any (f : Fl) (w : World) (h : FA w f) (hn : f.da.length ≤ 1073741824) :
    Calls Try.prog 72 #[.pointer (some ⟨f.bk, 0, none⟩)] w fun e w' => ∃ p v, e = .returned (.pointer (some ⟨p, 0, none⟩)) ∧ w.heap.size ≤ p ∧ FA w' { f with bk := p, sl := v } ∧ (∀ i, v.ownBlock = some i → w.heap.size ≤ i) ∧ Below w.heap.size w w' := by
  have c0 : w.cell? ⟨f.bk, 0, none⟩ = some f.sl := (cell_of h.1).trans rfl
  have c1 : w.cell? ⟨f.bk, 1, none⟩ = some (.int .i64 f.sy) := (cell_of h.1).trans rfl
  have hlt := lt_of_heap h.1
  have HC : Hid (Calls Try.prog 83 #[f.sl] w.drew fun e w' => ∃ a' cap', e = .returned (.slice a' f.da.length cap') ∧ (w'.cell? ⟨f.bk, 0, none⟩ = some f.sl ∧ w'.cell? ⟨f.bk, 1, none⟩ = some (.int .i64 f.sy)) ∧ w'.ownsRow w.heap.size 5 1 (.slice a' f.da.length cap') f.da.length (Lib.byteCells f.da) ∧ Below w.heap.size w w') := by
    refine (bclone_any f.sl f.da.length _ w.drew h.2 (Lib.byteCells_one _) hn).mono ?_
    rintro e w' ⟨v', he, ho, hb⟩
    obtain ⟨a', cap', rfl⟩ := own_form ho
    have hb' : Below w.heap.size w w' := (((Ch.refl (fun _ => False) w).drew).below (Nat.le_refl _) (fun _ _ e => e)).trans hb
    exact ⟨a', cap', he, ⟨(hb'.cell (p := ⟨f.bk, 0, none⟩) hlt).trans c0, (hb'.cell (p := ⟨f.bk, 1, none⟩) hlt).trans c1⟩, ho, hb'⟩
  obtain ⟨ad, cap, e⟩ := own_form h.2
  rw [e] at c0 HC
  clear h hn e hlt
  go_enter Try.func72, Try.ntmps72
  go_wp2_with fail
  go_region_held3 (fun x => x.cell? ⟨f.bk, 0, none⟩ = some (.slice ad f.da.length cap) ∧ x.cell? ⟨f.bk, 1, none⟩ = some (.int .i64 f.sy)) ((first | assumption | exact ⟨by assumption, by assumption⟩ | go_keep)) ((go_at_call 83; refine HC.out.mono ?_; rintro e w1 ⟨a', cap', rfl, hcs, ho, hb⟩; have HO := hid ho; have HB := hid hb; clear ho hb))
  all_goals
    go_wp2
    go_ret
    have hs := HB.out.size
    exact ⟨_, _, rfl, hs, ⟨heap_new _ _, (row_le HO.out (Nat.zero_le _)).alloc _⟩, fun i hi => (HO.out.lt i hi).1, HB.out.alloc hs _⟩
end Go.Proofs.Ythjbhfhdepepmaa
