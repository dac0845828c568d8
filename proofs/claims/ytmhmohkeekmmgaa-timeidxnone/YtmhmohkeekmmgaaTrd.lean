/- The program's Read. -/
import Derived.Test.YtmhmohkeekmmgaaTxh
import Derived.Laws.MakeOwn
namespace Go.Proofs.Ytmhmohkeekmmgaa
open Go.RowKit
theorem own_set {w : World} {B : Nat} {e : TypeId} {size g n cap : Nat} {xs : List Value} (h : w.ownsRow B e size (.slice (some ⟨g, 0, none⟩) n cap) n xs) (i : Nat) (u : Value) : (w.setCell ⟨g, i, none⟩ u).ownsRow B e size (.slice (some ⟨g, 0, none⟩) n cap) n (xs.set i u) := by
  refine ⟨by rw [List.length_set]; exact h.1, ?_⟩
  rcases h.2 with ⟨h1, _⟩ | ⟨g', cap', cur, hv, h3, h4, h5, h6, h7, h8⟩
  · cases h1
  · simp only [Value.slice.injEq, Option.some.injEq, Addr.mk.injEq, and_true, true_and] at hv
    obtain ⟨rfl, rfl⟩ := hv
    refine Or.inr ⟨g, cap, cur.setIfInBounds i u, rfl, h3, heap_set h4, h5, h6, by rw [Array.size_setIfInBounds]; exact h7, ?_⟩
    rw [Array.toList_setIfInBounds, List.take_set, h8]
theorem ecs_cons (e : En) (r : List En) : ecs (e :: r) = .int .i64 e.k :: .int .i64 e.a :: ecs r := rfl
theorem ecs_set0 (A : List En) (e : En) (R : List En) (k : Int) : (ecs (A ++ e :: R)).set (A.length * 2) (.int .i64 k) = ecs (A ++ ⟨k, e.a⟩ :: R) := by
  rw [ecs_app, ecs_app, List.set_append_right _ _ (by rw [ecs_len]; omega), ecs_len, Nat.sub_self, ecs_cons, ecs_cons]
  rfl
theorem ecs_set1 (A : List En) (e : En) (R : List En) (k : Int) : (ecs (A ++ e :: R)).set (A.length * 2 + 1) (.int .i64 k) = ecs (A ++ ⟨e.k, k⟩ :: R) := by
  rw [ecs_app, ecs_app, List.set_append_right _ _ (by rw [ecs_len]; omega), ecs_len, Nat.add_sub_cancel_left, ecs_cons, ecs_cons]
  rfl
theorem OwE.set0 {w : World} {B g n cap : Nat} {A R : List En} {e : En} (h : OwE w B (.slice (some ⟨g, 0, none⟩) n cap) (A ++ e :: R)) (hn : n = (A ++ e :: R).length) (k : Int) : OwE (w.setCell ⟨g, A.length * 2, none⟩ (.int .i64 k)) B (.slice (some ⟨g, 0, none⟩) n cap) (A ++ ⟨k, e.a⟩ :: R) := by
  unfold OwE at *
  rw [← hn] at h
  rw [← ecs_set0, show (A ++ (⟨k, e.a⟩ : En) :: R).length = n from by rw [hn]; simp]
  exact own_set h _ _
theorem OwE.set1 {w : World} {B g n cap : Nat} {A R : List En} {e : En} (h : OwE w B (.slice (some ⟨g, 0, none⟩) n cap) (A ++ e :: R)) (hn : n = (A ++ e :: R).length) (k : Int) : OwE (w.setCell ⟨g, A.length * 2 + 1, none⟩ (.int .i64 k)) B (.slice (some ⟨g, 0, none⟩) n cap) (A ++ ⟨e.k, k⟩ :: R) := by
  unfold OwE at *
  rw [← hn] at h
  rw [← ecs_set1, show (A ++ (⟨e.k, k⟩ : En) :: R).length = n from by rw [hn]; simp]
  exact own_set h _ _
theorem OwE.cells {w : World} {B g n cap : Nat} {A R : List En} {e : En} (h : OwE w B (.slice (some ⟨g, 0, none⟩) n cap) (A ++ e :: R)) (hn : n = (A ++ e :: R).length) : w.cell? ⟨g, A.length * 2, none⟩ = some (.int .i64 e.k) ∧ w.cell? ⟨g, A.length * 2 + 1, none⟩ = some (.int .i64 e.a) ∧ w.frozen? ⟨g, A.length * 2, none⟩ = false ∧ w.frozen? ⟨g, A.length * 2 + 1, none⟩ = false ∧ g < w.heap.size := by
  have hl : A.length < (A ++ e :: R).length := by simp
  have hg : (A ++ e :: R).getD A.length en0 = e := by rw [List.getD_eq_getElem?_getD, List.getElem?_append_right (Nat.le_refl _)]; simp
  have h' := h
  unfold OwE at h'
  rw [← hn] at h'
  have c := fun k (hk : k < 2) => (h'.cellAt (A.length * 2 + k) (by omega)).trans (ecs_at hl hk)
  rw [hg] at c
  exact ⟨c 0 (by omega), c 1 (by omega), h'.frozenAt _, h'.frozenAt _, (h.own rfl).2⟩
theorem made_ecs (n : Nat) : (madeCells #[.int .i64 0, .int .i64 0] (n * 2)).toList = ecs (List.replicate n en0) := by
  apply List.ext_getElem?
  intro i
  by_cases h : i < n * 2
  · have hm : i = i / 2 * 2 + i % 2 := by omega
    have hr : (List.replicate n en0).getD (i / 2) en0 = en0 := by
      rw [List.getD_eq_getElem?_getD, List.getElem?_replicate]
      split <;> rfl
    have h1 : (ecs (List.replicate n en0))[i]? = (enc en0)[i % 2]? := by
      conv => lhs; rw [hm]
      rw [ecs_at (by rw [List.length_replicate]; omega) (by omega), hr]
    rw [h1]
    unfold madeCells
    rw [Array.getElem?_toList, Array.getElem?_map, Array.getElem?_range, if_pos h]
    rcases (by omega : i % 2 = 0 ∨ i % 2 = 1) with e | e
    · simp [e, enc, en0]
    · simp [e, enc, en0]
  · rw [List.getElem?_eq_none (by rw [Array.length_toList, size_madeCells]; omega), List.getElem?_eq_none (by rw [ecs_len, List.length_replicate]; omega)]
theorem newreader_any (s : ByteArray) (w : World) : Calls Try.prog 52 #[.string s] w fun e w' => e = .returned (.pointer (some ⟨w.heap.size, 0, none⟩)) ∧ w' = w.alloc (.cells #[.int .i64 0, .string s, .int .i64 0] 100) := by
  go_enter Try.func52, Try.ntmps52
  go_wp2
  go_ret
  exact ⟨rfl, rfl⟩
/-- What Read answers of good bytes. -/
def Fill (l : List En) (j : Nat) : List En := l.take j ++ List.replicate (l.length - j) en0
theorem Fill.zero (l : List En) : Fill l 0 = List.replicate l.length en0 := by simp [Fill]
theorem Fill.all (l : List En) : Fill l l.length = l := by simp [Fill]
theorem Fill.at {l : List En} {j : Nat} (h : j < l.length) : Fill l j = l.take j ++ en0 :: List.replicate (l.length - (j + 1)) en0 := by
  unfold Fill
  rw [show l.length - j = l.length - (j + 1) + 1 from by omega, List.replicate_succ]
theorem Fill.next {l : List En} {j : Nat} (h : j < l.length) : Fill l (j + 1) = l.take j ++ l.getD j en0 :: List.replicate (l.length - (j + 1)) en0 := by
  unfold Fill
  rw [List.take_succ_eq_append_getElem h, getD_of h, List.append_assoc]
  rfl
theorem mkrow (N : Nat) (hN : N ≤ 8796093022208) (w : World) : (Instr.makeSlice 45 (.int .i64 N) (.int .i64 N)).run Try.prog w = .ok (.slice (some ⟨w.heap.size, 0, none⟩) N N) (w.alloc (.cells (madeCells #[.int .i64 0, .int .i64 0] (N * 2)) 29)) := by
  obtain ⟨i0, hi, hz0, hz1, hz2⟩ := info_parts Try.infoE
  have h := run_make (P := Try.prog) w 45 29 i0 (.agg #[.int .i64 0, .int .i64 0]) Try.underlying45 hi hz0 .i64 .i64 N N (by omega) (by omega) (by rw [hz2]; omega) (by omega)
  rw [hz1, show (Value.agg #[.int .i64 0, .int .i64 0]).cells = #[.int .i64 0, .int .i64 0] from rfl] at h
  simpa using h
theorem made_own (N : Nat) (hN : N ≤ 8796093022208) (w : World) : OwE (w.alloc (.cells (madeCells #[.int .i64 0, .int .i64 0] (N * 2)) 29)) w.heap.size (.slice (some ⟨w.heap.size, 0, none⟩) N N) (List.replicate N en0) := by
  unfold OwE
  rw [List.length_replicate]
  refine ⟨by rw [ecs_len, List.length_replicate], Or.inr ⟨w.heap.size, N, _, rfl, Nat.le_refl _, heap_new _ _, Nat.le_refl _, by unfold maxLen; omega, size_madeCells _ _, ?_⟩⟩
  rw [made_ecs]
  exact List.take_of_length_le (by rw [ecs_len, List.length_replicate]; omega)
set_option maxRecDepth 20000 in
set_option maxHeartbeats 2000000 in
theorem read_bad (s : ByteArray) (w : World) (h : s.size % 16 ≠ 0) (hs : s.size ≤ 140737488355328) : Calls Try.prog 39 #[.string s] w fun e w' => e = .returned (.tuple #[.slice none 0 0, .int .i64 29]) ∧ w' = w := by
  have h1 : ¬ ((s.size : Int) % 16 = 0) := by omega
  go_enter Try.func39, Try.ntmps39
  go_wp2
  go_ret2
  exact ⟨rfl, rfl⟩
/-- Under way in Read. -/
structure Rw (w wr : World) (H : Nat) (s : ByteArray) (N k : Nat) (l : List En) : Prop where
  rd : Rd wr (H + 1) s k 0
  row : OwE wr H (.slice (some ⟨H, 0, none⟩) N N) l
  bel : Below H w wr
theorem Rw.next {w wr w' : World} {H N k k' : Nat} {s : ByteArray} {l : List En} (h : Rw w wr H s N k l) (hr : Rd w' (H + 1) s k' 0) (hc : Ch (fun i => i = H + 1) wr w') (hH : H ≤ wr.heap.size) : Rw w w' H s N k' l :=
  ⟨hr, h.row.ch hc (fun i hi e => by simp only [Value.ownBlock, Option.some.injEq] at hi; omega), h.bel.trans (hc.below hH (fun i hi e => by omega))⟩
theorem Rw.set0 {w wr : World} {H N k : Nat} {s : ByteArray} {A R : List En} {e : En} (h : Rw w wr H s N k (A ++ e :: R)) (hn : N = (A ++ e :: R).length) (q : Int) : Rw w (wr.setCell ⟨H, A.length * 2, none⟩ (.int .i64 q)) H s N k (A ++ ⟨q, e.a⟩ :: R) :=
  ⟨h.rd.far _ (by show H + 1 ≠ H; omega), h.row.set0 hn q, h.bel.setCell (Nat.le_refl _) _⟩
theorem Rw.set1 {w wr : World} {H N k : Nat} {s : ByteArray} {A R : List En} {e : En} (h : Rw w wr H s N k (A ++ e :: R)) (hn : N = (A ++ e :: R).length) (q : Int) : Rw w (wr.setCell ⟨H, A.length * 2 + 1, none⟩ (.int .i64 q)) H s N k (A ++ ⟨e.k, q⟩ :: R) :=
  ⟨h.rd.far _ (by show H + 1 ≠ H; omega), h.row.set1 hn q, h.bel.setCell (Nat.le_refl _) _⟩
set_option maxRecDepth 20000 in
set_option maxHeartbeats 2000000 in
theorem read_ok (s : ByteArray) (w : World) (h : s.size % 16 = 0) (hs : s.size ≤ 140737488355328) : Calls Try.prog 39 #[.string s] w fun e w' => (∃ v, e = .returned (.tuple #[v, .int .i64 0]) ∧ OwE w' w.heap.size v (rdE (bl s))) ∧ Below w.heap.size w w' := by
  obtain ⟨N, hN⟩ : ∃ N, s.size = N * 16 := ⟨s.size / 16, by omega⟩
  have hl : (rdE (bl s)).length = N := by rw [rdE_len, bl_len, hN]; omega
  have HAT : Hid (∀ j, j < N → (rdE (bl s)).getD j en0 = ⟨wrap64 (be (bl (s.extract (j * 16) (j * 16 + 8))) : Int), wrap64 (be (bl (s.extract (j * 16 + 8) (j * 16 + 16))) : Int)⟩) := fun j hj => by
    rw [rdE_at _ (by rw [bl_len, hN]; omega)]
    unfold enB b8
    rw [bl_ext, bl_ext, show j * 16 + 8 - j * 16 = 8 from by omega, show j * 16 + 16 - (j * 16 + 8) = 8 from by omega]
  have HI : Hid (∀ wx k, Rd wx (w.heap.size + 1) s k 0 → k + 8 ≤ N * 16 → Calls Try.prog 53 #[.pointer (some ⟨w.heap.size + 1, 0, none⟩)] wx fun e w' => e = .returned (.tuple #[.int .i64 (wrap64 (be (bl (s.extract k (k + 8))) : Int)), .int .i64 0]) ∧ Rd w' (w.heap.size + 1) s (k + 8) 0 ∧ Ch (fun i => i = w.heap.size + 1) wx w') := fun wx k hx hk => by
    have := i64_any (w.heap.size + 1) s k 0 wx hx (by omega) (by omega)
    rw [fx_ok (show k + 8 ≤ s.size by omega)] at this
    exact this
  have hmk := mkrow N (by omega)
  have HL := hid hl
  have HSt : Hid (Rw w ((w.alloc (.cells (madeCells #[.int .i64 0, .int .i64 0] (N * 2)) 29)).alloc (.cells #[.int .i64 0, .string s, .int .i64 0] 100)) w.heap.size s N 0 (List.replicate N en0)) := by
    refine ⟨?_, (made_own N (by omega) w).keep fun g hg hlt => Below.heap_alloc _ _ g hlt, ((Below.refl _ _).alloc (Nat.le_refl _) _).alloc (by simp) _⟩
    have := heap_new (w.alloc (.cells (madeCells #[.int .i64 0, .int .i64 0] (N * 2)) 29)) (.cells #[.int .i64 0, .string s, .int .i64 0] 100 (0, 0))
    unfold Rd
    simpa using this
  have h1 : ((s.size : Int) % 16 = 0) := by omega
  have h2 : ((s.size : Int) / 16) = N := by omega
  generalize rdE (bl s) = L at *
  rw [show List.replicate N en0 = Fill L 0 from by rw [Fill.zero, hl]] at HSt
  clear hl h
  obtain ⟨wb, hwb⟩ : ∃ wb, (w.alloc (.cells (madeCells #[.int .i64 0, .int .i64 0] (N * 2)) 29)).alloc (.cells #[.int .i64 0, .string s, .int .i64 0] 100) = wb := ⟨_, rfl⟩
  rw [hwb] at HSt
  go_enter Try.func39, Try.ntmps39
  go_wp2_with (go_at_call 52; refine (newreader_any s _).mono ?_; rintro e w' ⟨rfl, rfl⟩)
  go_loopg [19] N (fun k i wr => ∃ j : Nat, j + k = N ∧ i = .int .i64 j ∧ Hid (Rw w wr w.heap.size s N (j * 16) (Fill L j)))
  case atStart => exact ⟨0, by omega, rfl, HSt.out⟩
  case round =>
    clear HSt hwb
    obtain ⟨j, hj, rfl, HW⟩ := hrel
    by_cases hlt : j < N
    · obtain ⟨k', rfl⟩ : ∃ k', gk = k' + 1 := ⟨gk - 1, by omega⟩
      have hltI : (j : Int) < N := by omega
      have hjL : j < L.length := by rw [HL.out]; exact hlt
      have HNx := hid (Fill.next hjL)
      have HFA := hid (Fill.at hjL)
      rw [HFA.out] at HW
      rw [HAT.out j hlt] at HNx
      have HI1 := hid (fun wx hx => HI.out wx (j * 16) hx (by omega))
      have HI2 := hid (fun wx hx => HI.out wx (j * 16 + 8) hx (by omega))
      rw [show j * 16 + 8 + 8 = j * 16 + 16 from by omega] at HI2
      generalize wrap64 (be (bl (s.extract (j * 16) (j * 16 + 8))) : Int) = K at *
      generalize wrap64 (be (bl (s.extract (j * 16 + 8) (j * 16 + 16))) : Int) = A at *
      obtain ⟨T, hT⟩ : ∃ T, T = L.take j := ⟨_, rfl⟩
      have hTl : T.length = j := by rw [hT, List.length_take]; omega
      rw [← hT] at HW HNx
      generalize List.replicate (L.length - (j + 1)) en0 = R at *
      have HLn : Hid (∀ e : En, N = (T ++ e :: R).length) := fun e => by
        have h1 := HW.out.row.1
        rw [ecs_len] at h1
        have h2 : (T ++ e :: R).length = (T ++ en0 :: R).length := by simp
        rw [h2]
        rcases HW.out.row.2 with ⟨h3, _⟩ | ⟨g, c, cur, hv, _⟩
        · cases h3
        · injection hv
      have HSZ : Hid (w.heap.size ≤ wr.heap.size) := HW.out.bel.size
      have HJ := hid hj
      have HTl := hid hTl
      clear HFA hT hj hjL hTl
      go_wp2_with (first | (go_at_call 53; with_reducible refine (HI1.out _ HW.out.rd).mono ?_; rintro e w2 ⟨rfl, h3, hc3⟩; have HW2 := hid (HW.out.next h3 hc3 HSZ.out); obtain ⟨y0, y1, y2, y3, y4⟩ := HW2.out.row.cells (HLn.out _); rw [HTl.out] at y0 y1 y2 y3; have HW3 := hid (HW2.out.set0 (HLn.out _) K); rw [HTl.out] at HW3; clear h3 hc3) | (go_at_call 53; with_reducible refine (HI2.out _ HW3.out.rd).mono ?_; rintro e w4 ⟨rfl, h5, hc5⟩; have HW4 := hid (HW3.out.next h5 hc5 HW3.out.bel.size); obtain ⟨z0, z1, z2, z3, z4⟩ := HW4.out.row.cells (HLn.out _); rw [HTl.out] at z0 z1 z2 z3; have HW5 := hid (HW4.out.set1 (HLn.out _) A); rw [HTl.out] at HW5; clear h5 hc5))
      go_roundg k'
      case measure => omega
      case rel => exact ⟨j + 1, by have := HJ.out; omega, congrArg (Value.int .i64) (by omega), by rw [HNx.out, show (j + 1) * 16 = j * 16 + 16 from by omega]; exact HW5.out⟩
    · have hltI : ¬ (j : Int) < N := by omega
      have hjN : j = N := by omega
      subst hjN
      rw [show Fill L j = L from by rw [← HL.out]; exact Fill.all L] at HW
      go_wp2_with fail
      go_ret2
      exact ⟨⟨_, rfl, HW.out.row⟩, HW.out.bel⟩
end Go.Proofs.Ytmhmohkeekmmgaa
