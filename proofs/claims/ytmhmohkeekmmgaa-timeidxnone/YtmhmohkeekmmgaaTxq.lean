/- The program's index: what changes it. -/
import Derived.Test.YtmhmohkeekmmgaaTxp
import Derived.Deep.RegionLaw
namespace Go.Proofs.Ytmhmohkeekmmgaa
open Go.RowKit
theorem Try.infoE : (Try.prog.info? 29).map (fun i => (i.zero, i.size, i.bytes)) = some (some (.agg #[.int .i64 0, .int .i64 0]), 2, 16) := by kernel_rfl
/-- A row's new place: where it was, or new memory. -/
def Moved (w : World) (v v' : Value) : Prop := ∀ g, v'.ownBlock = some g → v.ownBlock = some g ∨ w.heap.size ≤ g
theorem Moved.refl (w : World) (v : Value) : Moved w v v := fun _ h => Or.inl h
theorem ecell2 {w : World} {sk sa : Int} {b : Nat} (hb : w.heap[b]? = some (.cells #[.int .i64 sk, .int .i64 sa] 29 (0, 0))) : w.cell? ⟨b, 0, none⟩ = some (.int .i64 sk) ∧ w.cell? ⟨b, 1, none⟩ = some (.int .i64 sa) := ⟨(cell_of hb).trans rfl, (cell_of hb).trans rfl⟩
theorem e4 {w : World} {p q : Int} {b : Nat} {T : TypeId} (hb : w.heap[b]? = some (.cells #[.int .i64 p, .int .i64 q] T (0, 0))) : w.cell? ⟨b, 0, none⟩ = some (.int .i64 p) ∧ w.cell? ⟨b, 1, none⟩ = some (.int .i64 q) ∧ w.frozen? ⟨b, 0, none⟩ = false ∧ w.frozen? ⟨b, 1, none⟩ = false := ⟨(cell_of hb).trans rfl, (cell_of hb).trans rfl, froz_of hb, froz_of hb⟩
/-- The result's place behind a call. -/
theorem res4 {w w2 : World} {o : Obj} {p q : Int} {T : TypeId} (ho : o = .cells #[.int .i64 p, .int .i64 q] T (0, 0)) (hb : Below (w.alloc o).heap.size (w.alloc o) w2) : w2.cell? ⟨w.heap.size, 0, none⟩ = some (.int .i64 p) ∧ w2.cell? ⟨w.heap.size, 1, none⟩ = some (.int .i64 q) ∧ w2.frozen? ⟨w.heap.size, 0, none⟩ = false ∧ w2.frozen? ⟨w.heap.size, 1, none⟩ = false ∧ w.heap.size < w2.heap.size := by
  subst ho
  obtain ⟨a1, a2, a3, a4⟩ := e4 ((hb.block _ (by simp)).trans (heap_new _ _))
  exact ⟨a1, a2, a3, a4, by have := hb.size; simp at this; omega⟩
set_option maxRecDepth 20000 in
set_option maxHeartbeats 1000000 in
theorem push_any {T : TypeId} (x : Nat) (e : En) (v : Value) (l : List En) (w : World) (h : Ix T w x v l) (hT : T ≠ 29) (hn : l.length ≤ 8796093022207) : Calls Try.prog 29 #[.pointer (some ⟨x, 0, none⟩), enV e] w fun r w' => r = .returned (.tuple #[]) ∧ ∃ v', Ix T w' x v' (l ++ [e]) ∧ Ch (IS x v) w w' ∧ Moved w v v' := by
  obtain ⟨i0, hi, hz0, hz1, hz2⟩ := info_parts Try.infoE
  have hne := fun i hi => h.ne hT (i := i) hi
  obtain ⟨sk, sa⟩ := e
  unfold enV
  simp only
  have c0 := h.c0
  have hlx := lt_of_heap h.blk
  have HX := hid h
  have HNE := hid hne
  obtain ⟨N, a, cap, hN, rfl, hens⟩ := h.row.ensN
  have HN := hid hN
  rw [← hN] at hn
  clear h hne hN hens
  go_enter Try.func29, Try.ntmps29
  go_wp2_with fail
  have HA : Hid (Ix T (w.alloc (Obj.cells #[.int .i64 sk, .int .i64 sa] 29)) x (.slice a N cap) l) := HX.out.alloc _
  have HBE : Hid ((w.alloc (Obj.cells #[.int .i64 sk, .int .i64 sa] 29)).heap[w.heap.size]? = some (.cells #[.int .i64 sk, .int .i64 sa] 29 (0, 0))) := heap_new _ _
  have HCH : Hid (Ch (IS x (.slice a N cap)) w (w.alloc (Obj.cells #[.int .i64 sk, .int .i64 sa] 29))) := (Ch.refl _ _).alloc _
  have HSZ : Hid ((w.alloc (Obj.cells #[.int .i64 sk, .int .i64 sa] 29)).heap.size = w.heap.size + 1) := by show _ = _; simp
  generalize w.alloc (Obj.cells #[.int .i64 sk, .int .i64 sa] 29) = wa at *
  have d0 := HA.out.c0
  have d1 := HA.out.f0
  obtain ⟨d2, d3⟩ := ecell2 HBE.out
  have HRO : Hid (wa.ownsRow 0 29 2 (.slice a N cap) N (ecs l)) := by
    have := HA.out.row
    unfold OwE at this
    rw [← HN.out] at this
    exact this
  have hxa : x < wa.heap.size := lt_of_heap HA.out.blk
  clear c0
  go_region_law (refine step_append_lies _ rfl _ _ 45 rfl 0 29 i0 (.agg #[.int .i64 0, .int .i64 0]) 2 16 Try.underlying45 hi hz0 hz1 hz2 rfl (by decide) _ N (ecs l) (by simp [Act.eval]) (HRO.out.alloc _) ⟨wa.heap.size, 0, none⟩ 1 1 (enc ⟨sk, sa⟩) (by simp [Act.eval]) rfl (World.news_of_block (heap_new wa.drew _)) (enc_one _) (by omega) (by unfold maxLen; omega) (by omega) (Nat.zero_le _) _ rfl ?_; intro g2 cap2 w1 hown hgrow hat hlt2; have hf := hgrow.block x (by show x < (wa.alloc _).heap.size; simp; omega) (fun e => HNE.out x e.symm rfl); have gp : w1.heap[x]? = some (.cells #[.slice a N cap] T (0, 0)) := hf.trans (heap_alloc_at HA.out.blk); have d4 : w1.cell? ⟨x, 0, none⟩ = some (.slice a N cap) := (cell_of gp).trans rfl; have d5 := froz_of (i := 0) gp; have HP := hid gp; have HGr := hid hgrow; have HOw := hid hown; have HAT := hid hat; clear hf gp hgrow hown hat)
  all_goals
    go_wp2_with fail
    go_end0
    have hch : Ch (IS x (.slice a N cap)) wa w1 := Ch.trans ((Ch.refl _ _).alloc _) ⟨HGr.out.os, HGr.out.tape, HGr.out.output, HGr.out.size, fun k hk hs => HGr.out.block k hk (fun e => hs (Or.inr e.symm))⟩
    refine ⟨rfl, .slice (some ⟨g2, 0, none⟩) (N + 1) cap2, Ix.put HP.out hT ?_, (HCH.out.trans hch).setCell _ _ (fun _ => Or.inl rfl), ?_⟩
    · show World.ownsRow _ _ _ _ _ (l ++ [(⟨sk, sa⟩ : En)]).length _
      rw [List.length_append, ← HN.out, ecs_snoc]
      exact HOw.out
    · intro g hg
      simp only [Value.ownBlock, Option.some.injEq] at hg
      subst hg
      rcases HAT.out with h | h
      · exact Or.inl h
      · right
        have h' : g2 = wa.heap.size + 1 := by simpa using h
        have := HSZ.out
        omega
theorem last_at (l : List En) : (atE l ((l.length : Int) - 1)).2 = !l.isEmpty ∧ ((atE l ((l.length : Int) - 1)).1 = l.getLast?.getD en0) := by
  cases hl : l with
  | nil => exact ⟨rfl, rfl⟩
  | cons e r =>
    rw [← hl]
    have hp : 0 < l.length := by rw [hl]; simp
    unfold atE
    rw [if_pos (by omega)]
    refine ⟨by rw [hl]; rfl, ?_⟩
    rw [show ((l.length : Int) - 1).toNat = l.length - 1 from by omega]
    simp only [List.getD_eq_getElem?_getD, List.getLast?_eq_getElem?]
set_option maxRecDepth 20000 in
set_option maxHeartbeats 1000000 in
theorem last_any {T : TypeId} (x : Nat) (v : Value) (l : List En) (w : World) (h : Ix T w x v l) (hn : l.length ≤ 8796093022208) : Calls Try.prog 28 #[.pointer (some ⟨x, 0, none⟩)] w fun e w' => e = .returned (.tuple #[enV (atE l ((l.length : Int) - 1)).1, .bool (atE l ((l.length : Int) - 1)).2]) ∧ Below w.heap.size w w' := by
  have HC : Hid (∀ wx, Below w.heap.size w wx → Calls Try.prog 48 #[.pointer (some ⟨x, 0, none⟩)] wx fun e w' => e = .returned (.int .i64 l.length) ∧ w' = wx) := fun wx hx => count_any x v l wx (h.below hx)
  have HE : Hid (∀ wx, Below w.heap.size w wx → Calls Try.prog 50 #[.pointer (some ⟨x, 0, none⟩), .int .i64 ((l.length : Int) - 1)] wx fun e w' => e = .returned (.tuple #[enV (atE l ((l.length : Int) - 1)).1, .bool (atE l ((l.length : Int) - 1)).2]) ∧ Below wx.heap.size wx w') := fun wx hx => entry_any x _ v l wx (h.below hx)
  generalize atE l ((l.length : Int) - 1) = R at *
  obtain ⟨⟨rk, ra⟩, rb⟩ := R
  generalize l.length = N at *
  have HB := hid ((Below.refl w.heap.size w).alloc (Nat.le_refl _) (.cells #[.int .i64 0, .int .i64 0] 29))
  unfold enV at *
  simp only at HE ⊢
  clear h
  go_enter Try.func28, Try.ntmps28
  go_wp2_with (first | (go_at_call 48; refine (HC.out _ HB.out).mono ?_; rintro e w' ⟨rfl, rfl⟩) | (go_at_call 50; refine (HE.out _ HB.out).mono ?_; rintro e w2 ⟨rfl, hb2⟩; obtain ⟨z1, z2, z3, z4, z5⟩ := res4 rfl hb2; have HB2 := hid hb2; clear hb2))
  refine bodyPost_ret (v := .tuple #[.agg #[.int .i64 rk, .int .i64 ra], .bool rb]) (by simp [results, Try.results28, go_sem, z1, z2]) rfl ⟨rfl, ?_⟩
  exact ((HB.out.trans (HB2.out.mono HB.out.size)).setCell (Nat.le_refl _) _).setCell (Nat.le_refl _) _
end Go.Proofs.Ytmhmohkeekmmgaa
