/- heads and Batches. -/
import Derived.Test.YtolobmhbmajolaaPf1
import Derived.Laws.MakeOwn
namespace Go.Proofs.Ytolobmhbmajolaa
open Go.RowKit
def hdOf (prod : Int) (x : Nt) : Hd := ⟨x.b, 0, false, x.c, 0, 0, prod, x.s⟩
abbrev hz8 : Value := .agg #[.int .i64 0, .int .i64 0, .bool false, .int .i64 0, .int .i64 0, .int .i64 0, .int .i64 0, .int .i32 0]
/-- A row of heads of the call's own, in a world behind w. -/
structure Oh (w : World) (v : Value) (l : List Hd) (y : World) : Prop where
  bel : Below w.heap.size w y
  row : OwH y w.heap.size v l
theorem Oh.call {w : World} {v : Value} {l : List Hd} {y y' : World} (h : Oh w v l y) (hb : Below y.heap.size y y') : Oh w v l y' := ⟨h.bel.trans (hb.mono h.bel.size), h.row.below hb⟩
theorem Oh.drew {w : World} {v : Value} {l : List Hd} {y : World} (h : Oh w v l y) : Oh w v l y.drew := h.call ⟨rfl, rfl, rfl, Nat.le_refl _, fun _ _ => rfl⟩
theorem Oh.drewN {w : World} {v : Value} {l : List Hd} {y : World} (h : Oh w v l y) (n : Nat) : Oh w v l (y.drewN n) := h.call (bel_drewN _ _)
theorem Oh.alloc {w : World} {v : Value} {l : List Hd} {y : World} (h : Oh w v l y) (o : Obj) : Oh w v l (y.alloc o) := h.call ((Below.refl _ _).alloc (Nat.le_refl _) o)
theorem Oh.push {w : World} {v v' : Value} {l : List Hd} {x : Hd} {y y' : World} (h : Oh w v l y) (hown : y'.ownsRow w.heap.size 29 8 v' (l.length + 1) (hvs l ++ hv x)) (hgrow : y.grownBy y' v.ownBlock) : Oh w v' (l ++ [x]) y' := by
  refine ⟨h.bel.grown hgrow h.bel.size (fun k hk => (World.ownsRow.lt h.row k hk).1), ?_⟩
  unfold OwH
  rw [List.length_append, hvs_snoc]
  exact hown
theorem heap_new' (w : World) (o : Obj) (n : Nat) (h : n = w.heap.size) : (w.alloc o).heap[n]? = some o := by rw [h]; exact heap_new w o
theorem hv_one (x : Hd) : ∀ u ∈ hv x, u.oneCell' = true := by
  intro u hu
  simp only [hv, List.mem_cons, List.not_mem_nil, or_false] at hu
  rcases hu with rfl | rfl | rfl | rfl | rfl | rfl | rfl | rfl <;> rfl
theorem take_next {α : Type} (l : List α) (d : α) {j : Nat} (h : j < l.length) : l.take (j + 1) = l.take j ++ [l.getD j d] := by
  rw [List.take_succ_eq_append_getElem h, List.getD_eq_getElem?_getD, List.getElem?_eq_getElem h]
  rfl
set_option maxHeartbeats 2000000 in
set_option maxRecDepth 20000 in
theorem heads_any (p : Nat) (ns : List Nt) (prod : Int) (hok : ∀ x ∈ ns, NtOk x) (w : World) (h : TA w p ns) :
    Calls Try.prog 43 #[.pointer (some ⟨p, 0, none⟩), .int .i64 prod] w fun e w' => ∃ v, e = .returned v ∧ Oh w v (ns.map (hdOf prod)) w' := by
  have hlen := h.len
  have hp := h.lt
  have c0 : w.cell? ⟨p, 0, none⟩ = some (.int .i64 ns.length) := by
    obtain ⟨a0, a1, a2, a3, a4, h1, h2, hh⟩ := h
    exact (cell_of hh).trans rfl
  obtain ⟨i0, hi, hz0, hz1, hz2⟩ := info_parts Try.infoH
  obtain ⟨w4, hmk, hown, hgrow⟩ := run_make_own (P := Try.prog) w w.heap.size 35 29 i0 _ 8 Try.underlying35 hi hz0 hz1 .i64 .i64 ns.length (by rw [hz2]; omega) (by unfold maxLen; omega) (Nat.le_refl _)
  have hb4 : Below w.heap.size w w4 := (Below.refl _ _).grown hgrow (Nat.le_refl _) (fun k hk => by cases hk)
  have O4 : Oh w (.slice (some ⟨w.heap.size, 0, none⟩) 0 ns.length) [] w4 := ⟨hb4, hown⟩
  have HA := Hid.mk (all_any p ns w4 (h.at (hb4.block p hp)))
  have HT := Hid.mk h
  have HO4 := Hid.mk O4
  have HOK := Hid.mk hok
  clear h hok hown hgrow hb4 O4
  go_enter Try.func43, Try.ntmps43
  go_wp2_with (go_at_call 46; refine HA.out.mono ?_; rintro e w1 ⟨rfl, rfl⟩)
  clear hmk HA
  go_loopg [5, 16] ns.length (fun k o i wr => ∃ j : Nat, j + k = ns.length ∧ i = .int .i64 j ∧ Hid (Oh w o ((ns.take j).map (hdOf prod)) wr))
  case atStart => exact ⟨0, by omega, rfl, HO4.out.drew⟩
  case round =>
    clear HO4
    obtain ⟨j, hk, rfl, HO⟩ := hrel
    by_cases hlt : j < ns.length
    · obtain ⟨k, rfl⟩ : ∃ k, gk = k + 1 := ⟨gk - 1, by omega⟩
      obtain ⟨k1, k2, k3⟩ := (HT.out.at (HO.out.bel.block p hp)).cells hlt
      have HN := Hid.mk (take_next ns nt0 hlt)
      have hy := HOK.out (ns.getD j nt0) (by rw [List.getD_eq_getElem?_getD, List.getElem?_eq_getElem hlt]; exact List.getElem_mem _)
      have g1 := hy.c0
      have g2 := hy.c1
      generalize ns.getD j nt0 = x at *
      have HL : Hid (((ns.take j).map (hdOf prod)).length = j) := by show _ = _; rw [List.length_map, List.length_take]; omega
      obtain ⟨L, hL⟩ : ∃ L, (ns.take j).map (hdOf prod) = L := ⟨_, rfl⟩
      rw [hL] at HO HL
      have HE := Hid.mk hL
      clear hL
      have b1 : (0 : Int) ≤ (j : Int) := by omega
      have b2 : (j : Int) < (ns.length : Int) := by omega
      clear hy
      go_wp2_with (at_builtin; refine wpList_append_own _ rfl _ _ 35 rfl w.heap.size 29 i0 hz8 8 64 Try.underlying35 hi hz0 hz1 hz2 rfl (by decide) _ L.length (hvs L) rfl ?c0 ⟨wr.heap.size + 1, 0, none⟩ 1 1 (hv (hdOf prod x)) rfl rfl ?c1 ?c2 ?c3 ?c4 ?c5 ?_)
      case c0 => exact ((HO.out.alloc (.cells #[.int .i64 x.b, .int .i32 x.c, .int .i32 x.s] 68)).alloc (.cells (hv (hdOf prod x)).toArray 29)).row
      case c1 => exact World.news_of_block (heap_new' _ _ _ (by simp))
      case c2 => exact hv_one _
      case c3 => rw [HL.out]; unfold maxLen; omega
      case c4 => rw [HL.out]; omega
      case c5 => have := HO.out.bel.size; simp; omega
      intro v' w7 hown7 hgrow7 _
      have HP := Hid.mk (((HO.out.alloc (.cells #[.int .i64 x.b, .int .i32 x.c, .int .i32 x.s] 68)).alloc (.cells (hv (hdOf prod x)).toArray 29)).push hown7 hgrow7)
      clear hown7 hgrow7
      go_wp2_with fail
      go_roundg k
      case measure => omega
      case rel => exact ⟨j + 1, by omega, by go_num, by show Oh _ _ _ _; rw [HN.out, List.map_append, HE.out]; exact HP.out⟩
    · go_wp2_with fail
      go_ret
      have e : ns.take j = ns := List.take_of_length_le (by omega)
      refine ⟨_, rfl, ?_⟩
      have := HO.out
      rw [e] at this
      exact this
end Go.Proofs.Ytolobmhbmajolaa
