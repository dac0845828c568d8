/- Texts of the proof, put together: Sst, Swh, Sal. -/
import Derived.Test.YtgcgnkafhpjdiaaGreatMSa
import Derived.Deep.RegionHeld3
import Derived.RangeFuncNested
import Derived.RangeFuncBound
import Derived.RangeFuncCalls
import Derived.RangeFuncLeaves
import Derived.RangeFuncBox
import Derived.Shelf.Abstract
import Derived.WalkKit
import Derived.OwnWalkIn
import Derived.TacticsInMore
import Derived.LoopNIn
import Derived.LoopIn
import Derived.Maps.AppendAt
import Derived.Deep.AppendLies
namespace Go.Proofs.YtgcgnkafhpjdiaaGreat
open Go.RowKit Go.Shelf
attribute [local go_sem] Oper.semAt_some
/-- What may be handed to a body. -/
def Yd.good : Yd → Prop
  | .fr f k => Right f ∧ k + (12 + f.len) ≤ 4611686018427387904
  | .no e => e ≠ 0
abbrev Yg := { y : Yd // y.good }
def ydV : Yd → Array Value
  | .fr f k => #[fdV f k, .int .i64 0]
  | .no e => #[noFd, .int .i64 e]
def vals (l : List Yg) : List Yd := l.map (fun x => x.1)
theorem vals_snoc (l : List Yg) (x : Yg) : vals (l ++ [x]) = vals l ++ [x.1] := by simp [vals]
theorem vals_len (l : List Yg) : (vals l).length = l.length := by simp [vals]
/-- The row that a list's variable leads to. -/
def owL (L : Nat) (W : World) : Option Nat := match W.heap[L]? with
  | some (.cells c _ _) => (c.getD 0 undef).ownBlock
  | _ => none
theorem owL_eq {L : Nat} {W W' : World} (h : W'.heap[L]? = W.heap[L]?) : owL L W' = owL L W := by unfold owL; rw [h]
theorem owL_box {L : Nat} {W : World} {t : TypeId} {v : Value} (h : Boxed W L t v) : owL L W = v.ownBlock := by
  unfold owL
  rw [show W.heap[L]? = _ from h]
  rfl
/-- What a round keeps: all but some variables and the list's row. -/
structure Kq (n0 L : Nat) (X : Nat → Prop) (W W' : World) : Prop where
  b : Below n0 W W'
  s : (∀ g, owL L W = some g → g < W.heap.size) → (∀ g, owL L W' = some g → g < W'.heap.size) ∧ ∀ k c T fz, W.heap[k]? = some (.cells c T fz) → ¬ X k → owL L W ≠ some k → owL L W' ≠ some k ∧ W'.heap[k]? = some (.cells c T fz)
theorem Kq.trans {n0 L : Nat} {X : Nat → Prop} {A B C : World} (h : Kq n0 L X A B) (k : Kq n0 L X B C) : Kq n0 L X A C :=
  ⟨h.b.trans k.b, fun hs => by
    obtain ⟨h1, h2⟩ := h.s hs
    obtain ⟨k1, k2⟩ := k.s h1
    exact ⟨k1, fun i c T fz hi hx ho => by
      obtain ⟨a1, a2⟩ := h2 i c T fz hi hx ho
      exact k2 i c T fz a2 hx a1⟩⟩
theorem Kq.refl (n0 L : Nat) (X : Nat → Prop) (A : World) : Kq n0 L X A A := ⟨Below.refl _ _, fun hs => ⟨hs, fun _ _ _ _ hi _ ho => ⟨ho, hi⟩⟩⟩
theorem Kq.putObj {n0 L : Nat} {X : Nat → Prop} {w : World} (hn : n0 ≤ w.heap.size) (hL : L < w.heap.size) (W : World) (l : Nat) (o o' : Obj) (hl : w.heap.size ≤ l) (h : W.heap[l]? = some o) (h1 : o.isCells = false) (h2 : o.isWalk = false) : Kq n0 L X W (W.putObj l o') := by
  have e : ∀ k, k ≠ l → (W.putObj l o').heap[k]? = W.heap[k]? := fun k hk => World.putObj_heap_other (fun e => hk e)
  have eL := owL_eq (e L (by omega))
  refine ⟨belowK_b hn W l o o' hl h h1 h2, fun hs => ⟨fun g hg => ?_, fun k c T fz hk _ ho => ?_⟩⟩
  · rw [eL] at hg
    have := hs g hg
    simpa using this
  · refine ⟨by rw [eL]; exact ho, ?_⟩
    rw [e k ?_]
    · exact hk
    · rintro rfl
      rw [hk] at h
      cases h
      cases h1
theorem grown_of {A B : World} (h : Below A.heap.size A B) : A.grownBy B none := ⟨h.os, h.tape, h.output, h.size, fun k hk _ => h.block k hk⟩
theorem bel_drewN (w : World) (k : Nat) : Below w.heap.size w (w.drewN k) := ⟨rfl, rfl, rfl, Nat.le_refl _, fun _ _ => rfl⟩
theorem steps_any (s : ByteArray) (base frame plain : Int) (w : World) : Calls Tryz.prog 32 #[.agg #[.iface 75 (.string s), .int .i64 base, .int .i64 frame, .int .i64 plain]] w fun e w' => e = .returned (.func (.func 47) #[] #[.pointer (some ⟨w.heap.size, 0, none⟩)]) ∧ w' = w.alloc (.cells #[.iface 75 (.string s), .int .i64 base, .int .i64 frame, .int .i64 plain] 79) := by
  go_enter Tryz.func32, Tryz.ntmps32
  go_wp2
  go_ret
  exact ⟨rfl, rfl⟩
/-- A found frame's box. -/
structure FB (w : World) (B : Nat) (c : Array Value) (y : World) : Prop where
  b : Below w.heap.size w y
  f : y.heap[B]? = some (.cells c 36 (0, 0))
theorem FB.call {w : World} {B : Nat} {c : Array Value} {y y' : World} (h : FB w B c y) (k : Below y.heap.size y y') : FB w B c y' := ⟨h.b.trans (k.mono h.b.size), keep h.f k⟩
theorem FB.drew {w : World} {B : Nat} {c : Array Value} {y : World} (h : FB w B c y) : FB w B c y.drew := h.call ⟨rfl, rfl, rfl, Nat.le_refl _, fun _ _ => rfl⟩
set_option maxRecDepth 100000 in
set_option maxHeartbeats 2000000 in
theorem steps1_in (n l Br n0 L : Nat) (hn : 1 ≤ n) (X : Nat → Prop) (s : ByteArray) (base frame plain : Int) (hs : s.size ≤ 4611686018427387904) (J Jx : List Yg → World → Prop) (W0 : World)
    (hJ : AbidesFrom W0.heap.size J)
    (hY : ∀ pre x W, J pre W → pre.length < (tr s base frame plain).length → YieldAt Fence.wide (n - 1) Tryz.prog l (ydV x.1) W fun e W' =>
      (e = .returned (.bool true) ∧ J (pre ++ [x]) W' ∧ Kq n0 L X W W') ∨ (e = .returned (.bool false) ∧ Jx (pre ++ [x]) W'))
    (hBr : W0.heap[Br]? = some (.cells #[.iface 75 (.string s), .int .i64 base, .int .i64 frame, .int .i64 plain] 79 (0, 0))) (hL : L < W0.heap.size) (hX : ∀ k, X k → k < W0.heap.size) (hXr : ¬ X Br) (hO : owL L W0 = none) (h0 : J [] W0) :
    CallsIn Fence.wide n Tryz.prog 47 #[.func (.yield l) #[] #[], .pointer (some ⟨Br, 0, none⟩)] W0 fun e W' => (∃ v, e = .returned v) ∧
      ((∃ ys, vals ys = tr s base frame plain ∧ J ys W') ∨ (∃ pre, vals pre <+: tr s base frame plain ∧ Jx pre W')) := by
  obtain ⟨c0, c1, c2, c3⟩ := cells4 hBr
  refine callsIn_of_wp Tryz.func47 rfl trivial ?_ rfl
  simp only [Tryz.ntmps47, List.size_toArray, List.length_cons, List.length_nil, Nat.reduceAdd, Nat.reduceSub, Array.replicate_succ, Array.replicate_zero, List.push_toArray, List.append_toArray, List.nil_append, List.cons_append]
  gi_wp2
  refine wpIn_wide.2 ?_
  go_quiet (fail)
  gi_wp2
  gi_loopw [3, 4] (fun v3 v4 wr => ∃ (m k : Nat) (b : Int) (pre : List Yg), v3 = .int .i64 k ∧ v4 = .int .i64 b ∧ vals pre ++ trc (lks s frame plain) s.size m k b = tr s base frame plain ∧ s.size - k < m ∧ k ≤ s.size ∧ wr.heap[Br]? = some (.cells #[.iface 75 (.string s), .int .i64 base, .int .i64 frame, .int .i64 plain] 79 (0, 0)) ∧ (∀ g, owL L wr = some g → g < wr.heap.size) ∧ owL L wr ≠ some Br ∧ W0.heap.size ≤ wr.heap.size ∧ J pre wr)
    (fun v3 _ _ => s.size - (intOf v3).toNat)
  case atStart =>
    have hd : Below W0.heap.size W0 (W0.drewN nq) := bel_drewN _ _
    refine ⟨s.size + 1, 0, base, [], rfl, rfl, rfl, by omega, Nat.zero_le _, keep hBr hd, ?_, ?_, hd.size, hJ [] W0 _ none h0 (grown_of hd) (fun r e => by cases e)⟩
    · intro g hg
      rw [owL_eq (hd.block L hL), hO] at hg
      cases hg
    · rw [owL_eq (hd.block L hL), hO]
      intro h
      cases h
  case round =>
    obtain ⟨m, k, b, pre, rfl, rfl, ht, hm, hk, hB, hS, hO1, hW, hJ1⟩ := hrel
    obtain ⟨c0, c1, c2, c3⟩ := cells4 hB
    have hmt := mth_size s
    by_cases hlt : k < s.size
    · obtain ⟨m, rfl⟩ : ∃ m', m = m' + 1 := ⟨m - 1, by omega⟩
      have cl := fun w => look_any s base frame plain k b w hk (by omega)
      cases hl : lks s frame plain k b with
      | error E =>
        rw [hl] at cl
        unfold LkV noFd at cl
        have CL := hid cl
        clear cl
        rw [trc_no hlt hl] at ht
        have hlen : pre.length < (tr s base frame plain).length := by rw [← ht, List.length_append, vals_len]; exact Nat.lt_succ_self _
        have hE : (E : Int) ≠ 0 := by have := lks_pos hl; omega
        gi_wp2_with (first | (refine ⟨trivial, ?_⟩; with_reducible refine (callsIn_wide.2 (tsize_any s _)).mono ?_; rintro e1 w1 ⟨rfl, rfl⟩) | (refine ⟨trivial, ?_⟩; gi_at_call 48; refine (callsIn_wide.2 (CL.out _)).mono ?_; rintro e2 w2 ⟨rfl, b2⟩; have hJ2 : J pre (w2.alloc (.cells #[.int .i64 0, .int .i64 0, .bool false, .int .i64 0, .int .i64 0, .int .i64 0, .int .i64 0, .int .i32 0, .int .i64 0] 36)) := hJ pre _ _ none hJ1 (grown_of (b2.alloc b2.size _)) (fun r e => (by cases e)); obtain ⟨fn, tmps, assign, body, hy0, hR⟩ := hY pre ⟨.no E, lks_pos hl⟩ _ hJ2 hlen; have hy : (Instr.yield l #[.agg #[.int .i64 0, .int .i64 0, .bool false, .int .i64 0, .int .i64 0, .int .i64 0, .int .i64 0, .int .i32 0, .int .i64 0], .int .i64 E]).run Tryz.prog (w2.alloc (.cells #[.int .i64 0, .int .i64 0, .bool false, .int .i64 0, .int .i64 0, .int .i64 0, .int .i64 0, .int .i32 0, .int .i64 0] 36)) = .ok (.round l fn tmps assign body) (w2.alloc (.cells #[.int .i64 0, .int .i64 0, .bool false, .int .i64 0, .int .i64 0, .int .i64 0, .int .i64 0, .int .i32 0, .int .i64 0] 36)) := hy0; clear hy0))
        refine hR.mono ?_
        rintro e W3 (⟨rfl, hJ3, hk3⟩ | ⟨rfl, hJx3⟩)
        · gi_wp2
          refine bodyPost_ret (results_none rfl _ _ _) rfl ?_
          exact ⟨⟨_, rfl⟩, .inl ⟨_, by rw [vals_snoc]; exact ht, hJ3⟩⟩
        · gi_wp2
          refine bodyPost_ret (results_none rfl _ _ _) rfl ?_
          exact ⟨⟨_, rfl⟩, .inr ⟨_, by rw [vals_snoc, ht]; exact List.prefix_refl _, hJx3⟩⟩
      | ok f =>
        obtain ⟨bb, ho, -⟩ := lks_ok hl
        obtain ⟨hR0, hF0, hz0⟩ := opn_right ho
        rw [ByteArray.size_extract] at hz0
        have hgood : Yd.good (.fr f k) := ⟨hR0, by omega⟩
        rw [hl] at cl
        unfold LkV fdV fdA at cl
        dsimp only at cl
        obtain ⟨N, hN⟩ : ∃ N : Int, ((12 + f.len : Nat) : Int) = N := ⟨_, rfl⟩
        rw [hN] at cl
        have CL := hid cl
        clear cl
        rw [trc_fr hlt hl] at ht
        have hlen : pre.length < (tr s base frame plain).length := by rw [← ht, List.length_append, vals_len, List.length_cons]; omega
        gi_wp2_with (first | (refine ⟨trivial, ?_⟩; with_reducible refine (callsIn_wide.2 (tsize_any s _)).mono ?_; rintro e1 w1 ⟨rfl, rfl⟩) | (refine ⟨trivial, ?_⟩; gi_at_call 48; refine (callsIn_wide.2 (CL.out _)).mono ?_; rintro e2 w2 ⟨rfl, b2⟩; have hJ2 : J pre (w2.alloc (.cells #[.int .i64 f.base, .int .i64 N, .bool (decide (f.st = 1)), .int .i64 f.cnt, .int .i64 f.first, .int .i64 f.grt, .int .i64 f.prod, .int .i32 f.seq, .int .i64 k] 36)) := hJ pre _ _ none hJ1 (grown_of (b2.alloc b2.size _)) (fun r e => (by cases e)); obtain ⟨fn, tmps, assign, body, hy0, hR⟩ := hY pre ⟨.fr f k, hgood⟩ _ hJ2 hlen; have hy : (Instr.yield l #[.agg #[.int .i64 f.base, .int .i64 N, .bool (decide (f.st = 1)), .int .i64 f.cnt, .int .i64 f.first, .int .i64 f.grt, .int .i64 f.prod, .int .i32 f.seq, .int .i64 k], .int .i64 0]).run Tryz.prog (w2.alloc (.cells #[.int .i64 f.base, .int .i64 N, .bool (decide (f.st = 1)), .int .i64 f.cnt, .int .i64 f.first, .int .i64 f.grt, .int .i64 f.prod, .int .i32 f.seq, .int .i64 k] 36)) = .ok (.round l fn tmps assign body) (w2.alloc (.cells #[.int .i64 f.base, .int .i64 N, .bool (decide (f.st = 1)), .int .i64 f.cnt, .int .i64 f.first, .int .i64 f.grt, .int .i64 f.prod, .int .i32 f.seq, .int .i64 k] 36)) := (by dsimp only [ydV, fdV, fdA] at hy0; rw [hN] at hy0; exact hy0); clear hy0))
        refine hR.mono ?_
        have hb1 := b2.size
        have eo := owL_eq ((b2.alloc b2.size (.cells #[.int .i64 f.base, .int .i64 N, .bool (decide (f.st = 1)), .int .i64 f.cnt, .int .i64 f.first, .int .i64 f.grt, .int .i64 f.prod, .int .i32 f.seq, .int .i64 k] 36)).block L (by omega))
        have hS1 : ∀ g, owL L (w2.alloc (.cells #[.int .i64 f.base, .int .i64 N, .bool (decide (f.st = 1)), .int .i64 f.cnt, .int .i64 f.first, .int .i64 f.grt, .int .i64 f.prod, .int .i32 f.seq, .int .i64 k] 36)) = some g → g < w2.heap.size := fun g hg => by
          rw [eo] at hg
          have := hS g hg
          omega
        have hB2 := keep hB (b2.alloc b2.size (.cells #[.int .i64 f.base, .int .i64 N, .bool (decide (f.st = 1)), .int .i64 f.cnt, .int .i64 f.first, .int .i64 f.grt, .int .i64 f.prod, .int .i32 f.seq, .int .i64 k] 36))
        have hpx : ∀ x, vals pre ++ [.fr f k] ++ x = tr s base frame plain → vals pre ++ [.fr f k] <+: tr s base frame plain := fun x h => ⟨x, h⟩
        rintro e W3 (⟨rfl, hJ3, hk3⟩ | ⟨rfl, hJx3⟩)
        · obtain ⟨hS3, hsm⟩ := hk3.s (fun g hg => by have := hS1 g hg; simp; omega)
          obtain ⟨hO3, hB3⟩ := hsm Br _ _ _ hB2 hXr (by rw [eo]; exact hO1)
          obtain ⟨_, hF3⟩ := hsm w2.heap.size _ _ _ (heap_new _ _) (fun hx => by have := hX _ hx; omega) (fun h => by have := hS1 _ h; omega)
          have hz3 := hk3.b.size
          rw [World.size_alloc] at hz3
          clear hsm hk3 hS1 eo hB2 hy hR CL hY hJ2 hBr
          gi_wp2
          refine wpIn_wide.2 ?_
          generalize w2.heap.size = B at *
          have N0 : FB W3 B #[.int .i64 f.base, .int .i64 N, .bool (decide (f.st = 1)), .int .i64 f.cnt, .int .i64 f.first, .int .i64 f.grt, .int .i64 f.prod, .int .i32 f.seq, .int .i64 k] W3 := ⟨Below.refl _ _, hF3⟩
          have CB : Hid (∀ y, FB W3 B #[.int .i64 f.base, .int .i64 N, .bool (decide (f.st = 1)), .int .i64 f.cnt, .int .i64 f.first, .int .i64 f.grt, .int .i64 f.prod, .int .i32 f.seq, .int .i64 k] y → Calls Tryz.prog 46 #[.agg #[.int .i64 f.base, .int .i64 N, .bool (decide (f.st = 1)), .int .i64 f.cnt, .int .i64 f.first, .int .i64 f.grt, .int .i64 f.prod, .int .i32 f.seq, .int .i64 k]] y fun e w' => e = .returned (.int .i64 (k + (12 + f.len) : Nat)) ∧ FB W3 B #[.int .i64 f.base, .int .i64 N, .bool (decide (f.st = 1)), .int .i64 f.cnt, .int .i64 f.first, .int .i64 f.grt, .int .i64 f.prod, .int .i32 f.seq, .int .i64 k] w') := fun y hy => by
            have := fbehind_any f k y hR0 (by omega)
            unfold fdV fdA at this
            rw [hN] at this
            exact this.mono fun e w' h => ⟨h.1, hy.call h.2⟩
          have CH : Hid (∀ y, FB W3 B #[.int .i64 f.base, .int .i64 N, .bool (decide (f.st = 1)), .int .i64 f.cnt, .int .i64 f.first, .int .i64 f.grt, .int .i64 f.prod, .int .i32 f.seq, .int .i64 k] y → Calls Tryz.prog 42 #[.agg #[.int .i64 f.base, .int .i64 N, .bool (decide (f.st = 1)), .int .i64 f.cnt, .int .i64 f.first, .int .i64 f.grt, .int .i64 f.prod, .int .i32 f.seq]] y fun e w' => e = .returned (.int .i64 (f.base + f.cnt)) ∧ FB W3 B #[.int .i64 f.base, .int .i64 N, .bool (decide (f.st = 1)), .int .i64 f.cnt, .int .i64 f.first, .int .i64 f.grt, .int .i64 f.prod, .int .i32 f.seq, .int .i64 k] w') := fun y hy => by
            have := behind_any f y hR0
            unfold hdV at this
            rw [hN] at this
            exact this.mono fun e w' h => ⟨h.1, hy.call h.2⟩
          go_region_held3 (fun y => y.cell? ⟨B, 0, none⟩ = some (.int .i64 f.base) ∧ y.cell? ⟨B, 1, none⟩ = some (.int .i64 N) ∧ y.cell? ⟨B, 2, none⟩ = some (.bool (decide (f.st = 1))) ∧ y.cell? ⟨B, 3, none⟩ = some (.int .i64 f.cnt) ∧ y.cell? ⟨B, 4, none⟩ = some (.int .i64 f.first) ∧ y.cell? ⟨B, 5, none⟩ = some (.int .i64 f.grt) ∧ y.cell? ⟨B, 6, none⟩ = some (.int .i64 f.prod) ∧ y.cell? ⟨B, 7, none⟩ = some (.int .i32 f.seq) ∧ y.cell? ⟨B, 8, none⟩ = some (.int .i64 k)) (first | with_reducible exact cells9 N0.f | with_reducible exact cells9 N0.drew.f | with_reducible exact cells9 N4.f | with_reducible exact cells9 N5.f | with_reducible exact cells9 N4.drew.f | with_reducible exact cells9 N5.drew.f) (first | (go_at_call 46; with_reducible refine (CB.out _ ?_).mono ?_; (first | with_reducible exact N0.drew | with_reducible exact N0 | with_reducible exact N5 | with_reducible exact N5.drew); rintro e w4 ⟨rfl, N4⟩) | (go_at_call 42; with_reducible refine (CH.out _ ?_).mono ?_; (first | with_reducible exact N0.drew | with_reducible exact N0 | with_reducible exact N4 | with_reducible exact N4.drew); rintro e w5 ⟨rfl, N5⟩))
          all_goals gi_wp2
          all_goals
            refine ⟨⟨m, k + (12 + f.len), f.base + f.cnt, pre ++ [⟨.fr f k, hgood⟩], congrArg (Value.int .i64) (by omega), rfl, by rw [vals_snoc, List.append_assoc]; exact ht, by omega, by omega, keep hB3 N5.b, ?_, ?_, by have := N5.b.size; omega, hJ _ _ _ none hJ3 (grown_of N5.b) (fun r e => by cases e)⟩, ?_⟩
            · intro g hg
              rw [owL_eq (N5.b.block L (by omega))] at hg
              have := hS3 g hg
              have := N5.b.size
              omega
            · rw [owL_eq (N5.b.block L (by omega))]
              exact hO3
            · show s.size - ((k : Int) + N).toNat < s.size - (k : Int).toNat
              omega
        · gi_wp2
          refine bodyPost_ret (results_none rfl _ _ _) rfl ?_
          exact ⟨⟨_, rfl⟩, .inr ⟨_, by rw [vals_snoc]; exact hpx _ (by rw [List.append_assoc]; exact ht), hJx3⟩⟩
    · gi_wp2_with (refine ⟨trivial, ?_⟩; with_reducible refine (callsIn_wide.2 (tsize_any s _)).mono ?_; rintro e1 w1 ⟨rfl, rfl⟩)
      go_end0
      rw [trc_end hlt, List.append_nil] at ht
      exact ⟨⟨_, rfl⟩, .inl ⟨pre, ht, hJ1⟩⟩
/-- The iterator's contract. -/
theorem steps_stops (n Br n0 L : Nat) (hn : 1 ≤ n) (X : Nat → Prop) (s : ByteArray) (base frame plain : Int) (hs : s.size ≤ 4611686018427387904) (w : World)
    (hBr : w.heap[Br]? = some (.cells #[.iface 75 (.string s), .int .i64 base, .int .i64 frame, .int .i64 plain] 79 (0, 0))) (hL : L < w.heap.size) (hX : ∀ k, X k → k < w.heap.size) (hXr : ¬ X Br) (hO : owL L w = none) :
    SeqStopsK Fence.wide n Tryz.prog 47 #[.pointer (some ⟨Br, 0, none⟩)] (fun x : Yg => ydV x.1) (Kq n0 L X) (fun ys => vals ys = tr s base frame plain) (fun pre => vals pre <+: tr s base frame plain) (tr s base frame plain).length w := fun l J Jx W hW hJ _ hY h0 =>
  steps1_in n l Br n0 L hn X s base frame plain hs J Jx W hJ hY (keep hBr hW) (Nat.lt_of_lt_of_le hL hW.size) (fun k hk => Nat.lt_of_lt_of_le (hX k hk) hW.size) hXr (by rw [owL_eq (hW.block L hL)]; exact hO) h0
end Go.Proofs.YtgcgnkafhpjdiaaGreat
namespace Go.Proofs.YtgcgnkafhpjdiaaGreat
open Go.RowKit Go.Shelf
attribute [local go_sem] Oper.semAt_some
/-- A frame's cells in a row. -/
def fd1 (x : Fs × Nat) : List Value := (fdA x.1 x.2).toList
def fcs (l : List (Fs × Nat)) : List Value := l.flatMap fd1
theorem fcs_snoc (l : List (Fs × Nat)) (x : Fs × Nat) : fcs (l ++ [x]) = fcs l ++ fd1 x := by simp [fcs]
theorem Tryz.infoFd : (Tryz.prog.info? 36).map (fun i => (i.zero, i.size, i.bytes)) = some (some (.agg #[.int .i64 0, .int .i64 0, .bool false, .int .i64 0, .int .i64 0, .int .i64 0, .int .i64 0, .int .i32 0, .int .i64 0]), 9, 72) := by kernel_rfl
theorem Kq.alloc {n0 L : Nat} {X : Nat → Prop} {W : World} (hn : n0 ≤ W.heap.size) (hL : L < W.heap.size) (o : Obj) : Kq n0 L X W (W.alloc o) := by
  have hb : Below W.heap.size W (W.alloc o) := (Below.refl _ _).alloc (Nat.le_refl _) o
  have eL := owL_eq (hb.block L hL)
  refine ⟨(Below.refl _ W).alloc hn o, fun hs => ⟨fun g hg => ?_, fun k c T fz hk _ ho => ⟨by rw [eL]; exact ho, keep hk hb⟩⟩⟩
  rw [eL] at hg
  have := hs g hg
  simp
  omega
theorem ownsRow_slice {W : World} {base : Nat} {e : TypeId} {size : Nat} {v : Value} {k : Nat} {xs : List Value} (h : W.ownsRow base e size v k xs) : ∃ a n c, v = .slice a n c := by
  rcases h.2 with ⟨rfl, _⟩ | ⟨g, cap, _, rfl, _⟩
  · exact ⟨none, 0, 0, rfl⟩
  · exact ⟨some ⟨g, 0, none⟩, k, cap, rfl⟩
theorem set3_heap (W : World) {R1 R2 R3 g : Nat} (a b c : Value) (n1 : g ≠ R1) (n2 : g ≠ R2) (n3 : g ≠ R3) : (((W.setCell ⟨R1, 0, none⟩ a).setCell ⟨R2, 0, none⟩ b).setCell ⟨R3, 0, none⟩ c).heap[g]? = W.heap[g]? := by
  rw [Below.heap_setCell _ ⟨R3, 0, none⟩ _ g n3, Below.heap_setCell _ ⟨R2, 0, none⟩ _ g n2, Below.heap_setCell _ ⟨R1, 0, none⟩ _ g n1]
theorem set3_own {W : World} {R1 R2 R3 H n : Nat} {t1 t2 t3 e : TypeId} {u1 u2 u3 v : Value} {size : Nat} {xs : List Value} (a b c : Value) (b1 : Boxed W R1 t1 u1) (b2 : Boxed W R2 t2 u2) (b3 : Boxed W R3 t3 u3) (e1 : t1 ≠ e) (e2 : t2 ≠ e) (e3 : t3 ≠ e) (h : W.ownsRow H e size v n xs) :
    (((W.setCell ⟨R1, 0, none⟩ a).setCell ⟨R2, 0, none⟩ b).setCell ⟨R3, 0, none⟩ c).ownsRow H e size v n xs :=
  own_apart h fun _ hg => set3_heap W a b c (fun e => own_ne h b1 e1 (by rw [← e]; exact hg)) (fun e => own_ne h b2 e2 (by rw [← e]; exact hg)) (fun e => own_ne h b3 e3 (by rw [← e]; exact hg))
theorem blk_own {β : Type} (B : Nat) (t : TypeId) (c : β → Array Value) : Own (fun (s : β) W => W.heap[B]? = some (.cells (c s) t (0, 0))) := by
  rintro s X Y row h hg hrow
  refine (hg.block B (lt_of_heap h) (fun e' => ?_)).trans h
  obtain ⟨o, ho, hc⟩ := hrow B e'.symm
  rw [h] at ho; cases ho; cases hc
theorem wpListIn_append_lies {F : Fence} {n : Nat} {P : Program} (w : World) {ops : Array Oper} {rest : List Oper} {o : Oper} {a : Act} {Q : Exit → Act → World → Prop}
    (hg : o.guard = none) (s x : Operand) (t : TypeId) (hop : o.op = Op.call { callee := Callee.builtin Builtin.append, args := #[s, x], argTypes := #[t, t] })
    (base : Nat) (e : TypeId) (i : TypeInfo) (z : Value) (size bytes : Nat) (h1 : P.underlying t = some (.slice e)) (h2 : P.info? e = some i) (h3 : i.zero = some z) (h4 : i.size = size) (h5 : i.bytes = bytes) (h6 : z.cells.size = size) (h7 : 0 < size)
    (v : Value) (k : Nat) (xs : List Value) (hs : a.eval s = v) (hown : w.ownsRow base e size v k xs) (ad : Addr) (m c : Nat) (news : List Value) (hx : a.eval x = .slice (some ad) m c) (hn : news.length = m * size)
    (hc : ∀ j u, news[j]? = some u → w.cell? (ad.add j) = some u) (h1c : ∀ u ∈ news, u.oneCell' = true) (hm : 0 < m) (b1 : k + m ≤ maxLen) (b2 : (k + m) * bytes ≤ 140737488355328) (b3 : base ≤ w.heap.size)
    (hK : ∀ g cap w', w'.ownsRow base e size (.slice (some ⟨g, 0, none⟩) (k + m) cap) (k + m) (xs ++ news) → w.grownBy w' v.ownBlock → (v.ownBlock = some g ∨ g = w.heap.size) → wpListIn F n P ops Q rest (a.put o.dst (.slice (some ⟨g, 0, none⟩) (k + m) cap)) w') :
    wpListIn F n P ops Q (o :: rest) a w := by
  refine wpListIn_plain hg fun K hK' => ?_
  obtain ⟨g, cap, w', hrun, r1, r2, r3, _⟩ := run_append_lies (P := P) w t o.type base e i z size bytes h1 h2 h3 h4 h5 h6 h7 v k xs hown ad m c news hn hc h1c hm b1 b2 b3 _ rfl
  unfold Oper.wpIn
  refine ⟨?_, ?_⟩
  · simp [Oper.about, hop, resolve, Target.leads, Sem.run_pure]
  · rw [Oper.semAt_plain F _ _ (by rw [hop]; intro c hc'; cases hc')]
    simp [execOp, hop, resolve, invoke, builtin, hs, hx, hrun, Result.andThen]
    exact hK' _ _ (hK g cap w' r1 r2 r3)
theorem frs_le : ∀ l, (frs l).length ≤ l.length
  | [] => Nat.le_refl _
  | .fr _ _ :: t => Nat.succ_le_succ (frs_le t)
  | .no _ :: t => Nat.le_succ_of_le (frs_le t)
def ydA : Yd → Array Value
  | .fr f k => fdA f k
  | .no _ => #[.int .i64 0, .int .i64 0, .bool false, .int .i64 0, .int .i64 0, .int .i64 0, .int .i64 0, .int .i32 0, .int .i64 0]
def ydE : Yd → Value
  | .fr _ _ => .int .i64 0
  | .no e => .int .i64 e
theorem ydV_eq (y : Yd) : ydV y = #[.agg (ydA y), ydE y] := by cases y <;> rfl
set_option maxRecDepth 100000 in
set_option maxHeartbeats 2000000 in
theorem whole_any (s : ByteArray) (base frame plain : Int) (hs : s.size ≤ 4611686018427387904) (hN : (tr s base frame plain).length * 72 ≤ 140737488355328) (w : World) :
    Calls Tryz.prog 30 #[.agg #[.iface 75 (.string s), .int .i64 base, .int .i64 frame, .int .i64 plain]] w fun e w' => ∃ v, e = .returned (.tuple #[v, .int .i64 (enG 0 (tr s base frame plain)), .int .i64 (wyG 0 (tr s base frame plain))]) ∧ w'.ownsRow w.heap.size 36 9 v (frs (tr s base frame plain)).length (fcs (frs (tr s base frame plain))) ∧ Below w.heap.size w w' := by
  refine (callsIn_wide (n := 9)).1 ?_
  obtain ⟨i0, hi, hz0, hz1, hz2⟩ := info_parts Tryz.infoFd
  refine callsIn_of_wp_marks Tryz.func30 rfl trivial ?_ rfl
  simp only [Tryz.ntmps30, List.size_toArray, List.length_cons, List.length_nil, Nat.reduceAdd, Nat.reduceSub, Array.replicate_succ, Array.replicate_zero, List.push_toArray, List.append_toArray, List.nil_append, List.cons_append]
  have h9 : 1 ≤ 9 := by omega
  gi_wp2_with (refine ⟨trivial, ?_⟩; gi_at_call 32; refine (callsIn_wide.2 (steps_any s base frame plain _)).mono ?_; rintro e w1 ⟨rfl, rfl⟩)
  have bR1 := (((((Boxed.new (w.alloc (.cells #[.iface 75 (.string s), .int .i64 base, .int .i64 frame, .int .i64 plain] 79)) 29 (.slice none 0 0)).alloc (.cells #[.int .i64 0] 3)).alloc (.cells #[.int .i64 0] 26)).alloc (.cells #[.slice none 0 0] 29)).alloc (.cells #[.int .i64 0] 3)).alloc (.cells #[.iface 75 (.string s), .int .i64 base, .int .i64 frame, .int .i64 plain] 79)
  have bR2 := ((((Boxed.new ((w.alloc (.cells #[.iface 75 (.string s), .int .i64 base, .int .i64 frame, .int .i64 plain] 79)).alloc (.cells #[.slice none 0 0] 29)) 3 (.int .i64 0)).alloc (.cells #[.int .i64 0] 26)).alloc (.cells #[.slice none 0 0] 29)).alloc (.cells #[.int .i64 0] 3)).alloc (.cells #[.iface 75 (.string s), .int .i64 base, .int .i64 frame, .int .i64 plain] 79)
  have bR3 := (((Boxed.new (((w.alloc (.cells #[.iface 75 (.string s), .int .i64 base, .int .i64 frame, .int .i64 plain] 79)).alloc (.cells #[.slice none 0 0] 29)).alloc (.cells #[.int .i64 0] 3)) 26 (.int .i64 0)).alloc (.cells #[.slice none 0 0] 29)).alloc (.cells #[.int .i64 0] 3)).alloc (.cells #[.iface 75 (.string s), .int .i64 base, .int .i64 frame, .int .i64 plain] 79)
  have bL := ((Boxed.new ((((w.alloc (.cells #[.iface 75 (.string s), .int .i64 base, .int .i64 frame, .int .i64 plain] 79)).alloc (.cells #[.slice none 0 0] 29)).alloc (.cells #[.int .i64 0] 3)).alloc (.cells #[.int .i64 0] 26)) 29 (.slice none 0 0)).alloc (.cells #[.int .i64 0] 3)).alloc (.cells #[.iface 75 (.string s), .int .i64 base, .int .i64 frame, .int .i64 plain] 79)
  have bE := (Boxed.new (((((w.alloc (.cells #[.iface 75 (.string s), .int .i64 base, .int .i64 frame, .int .i64 plain] 79)).alloc (.cells #[.slice none 0 0] 29)).alloc (.cells #[.int .i64 0] 3)).alloc (.cells #[.int .i64 0] 26)).alloc (.cells #[.slice none 0 0] 29)) 3 (.int .i64 0)).alloc (.cells #[.iface 75 (.string s), .int .i64 base, .int .i64 frame, .int .i64 plain] 79)
  have hBr := heap_new ((((((w.alloc (.cells #[.iface 75 (.string s), .int .i64 base, .int .i64 frame, .int .i64 plain] 79)).alloc (.cells #[.slice none 0 0] 29)).alloc (.cells #[.int .i64 0] 3)).alloc (.cells #[.int .i64 0] 26)).alloc (.cells #[.slice none 0 0] 29)).alloc (.cells #[.int .i64 0] 3)) (.cells #[.iface 75 (.string s), .int .i64 base, .int .i64 frame, .int .i64 plain] 79)
  have hB0 : Below w.heap.size w (((((((w.alloc (.cells #[.iface 75 (.string s), .int .i64 base, .int .i64 frame, .int .i64 plain] 79)).alloc (.cells #[.slice none 0 0] 29)).alloc (.cells #[.int .i64 0] 3)).alloc (.cells #[.int .i64 0] 26)).alloc (.cells #[.slice none 0 0] 29)).alloc (.cells #[.int .i64 0] 3)).alloc (.cells #[.iface 75 (.string s), .int .i64 base, .int .i64 frame, .int .i64 plain] 79)) := ((((((((Below.refl _ w).alloc (Nat.le_refl _) _).alloc (by simp) _).alloc (by simp; omega) _).alloc (by simp; omega) _).alloc (by simp; omega) _).alloc (by simp; omega) _).alloc (by simp; omega) _)
  have hsz : (((((((w.alloc (.cells #[.iface 75 (.string s), .int .i64 base, .int .i64 frame, .int .i64 plain] 79)).alloc (.cells #[.slice none 0 0] 29)).alloc (.cells #[.int .i64 0] 3)).alloc (.cells #[.int .i64 0] 26)).alloc (.cells #[.slice none 0 0] 29)).alloc (.cells #[.int .i64 0] 3)).alloc (.cells #[.iface 75 (.string s), .int .i64 base, .int .i64 frame, .int .i64 plain] 79)).heap.size = w.heap.size + 1 + 1 + 1 + 1 + 1 + 1 + 1 := by simp
  simp only [World.size_alloc] at bR1 bR2 bR3 bL bE hBr
  generalize (((((((w.alloc (.cells #[.iface 75 (.string s), .int .i64 base, .int .i64 frame, .int .i64 plain] 79)).alloc (.cells #[.slice none 0 0] 29)).alloc (.cells #[.int .i64 0] 3)).alloc (.cells #[.int .i64 0] 26)).alloc (.cells #[.slice none 0 0] 29)).alloc (.cells #[.int .i64 0] 3)).alloc (.cells #[.iface 75 (.string s), .int .i64 base, .int .i64 frame, .int .i64 plain] 79)) = W0 at *
  obtain ⟨Br, e6⟩ : ∃ x, w.heap.size + 1 + 1 + 1 + 1 + 1 + 1 = x := ⟨_, rfl⟩
  obtain ⟨EB, e5⟩ : ∃ x, w.heap.size + 1 + 1 + 1 + 1 + 1 = x := ⟨_, rfl⟩
  obtain ⟨LB, e4⟩ : ∃ x, w.heap.size + 1 + 1 + 1 + 1 = x := ⟨_, rfl⟩
  obtain ⟨R3, e3⟩ : ∃ x, w.heap.size + 1 + 1 + 1 = x := ⟨_, rfl⟩
  obtain ⟨R2, e2⟩ : ∃ x, w.heap.size + 1 + 1 = x := ⟨_, rfl⟩
  obtain ⟨R1, e1⟩ : ∃ x, w.heap.size + 1 = x := ⟨_, rfl⟩
  have o : w.heap.size < R1 ∧ R1 < R2 ∧ R2 < R3 ∧ R3 < LB ∧ LB < EB ∧ EB < Br ∧ Br < W0.heap.size := by omega
  rw [e6] at hBr ⊢
  rw [e5] at bE ⊢
  rw [e4] at bL ⊢
  rw [e3] at bR3 ⊢
  rw [e2] at bR2 ⊢
  rw [e1] at bR1 ⊢
  clear e1 e2 e3 e4 e5 e6 hsz
  obtain ⟨o1, o2, o3, o4, o5, o6, o7⟩ := o
  refine wpIn_rangeFunc_ownH rfl h9 (gf := 47) (lb := #[.pointer (some ⟨Br, 0, none⟩)]) rfl trivial (enters_of Tryz.func47 (by kernel_rfl) rfl)
    (steps_stops (9 - 1) Br w.heap.size LB (by omega) (fun k => R1 ≤ k ∧ k ≤ EB) s base frame plain hs W0 hBr (by omega) (fun k hk => by omega) (fun hk => by omega) (by rw [owL_box bL]; rfl)) Kq.trans (Kq.putObj (by omega) (by omega)) (Below.refl _ _) (fun x => by rw [ydV_eq]; rfl)
    (fun pre W => wyG 0 (vals pre) = 0 ∧ (∃ v, Boxed W LB 29 v ∧ W.ownsRow w.heap.size 36 9 v (frs (vals pre)).length (fcs (frs (vals pre))) ∧ True) ∧ Boxed W EB 3 (.int .i64 (enG 0 (vals pre))) ∧ Boxed W R1 29 (.slice none 0 0) ∧ Boxed W R2 3 (.int .i64 0) ∧ Boxed W R3 26 (.int .i64 0) ∧ W.heap[Br]? = some (.cells #[.iface 75 (.string s), .int .i64 base, .int .i64 frame, .int .i64 plain] 79 (0, 0)) ∧ Below w.heap.size w W)
    (fun c pre W => c = .ret ∧ ∃ (a : List Yd) (e : Nat), vals pre = a ++ [.no e] ∧ (∃ v, Boxed W R1 29 v ∧ W.ownsRow w.heap.size 36 9 v (frs a).length (fcs (frs a)) ∧ True) ∧ Boxed W R2 3 (.int .i64 (enG 0 a)) ∧ Boxed W R3 26 (.int .i64 e) ∧ Below w.heap.size w W)
    (OwnFrom.and (fun _ _ _ _ hs' _ _ => hs') (OwnFrom.and (Own.from (holdsRow_own w.heap.size LB 29 36 9 (fun pre => (frs (vals pre)).length) (fun pre => fcs (frs (vals pre))) (fun _ _ => True)) _) (OwnFrom.and (Own.from (boxed_own _ _ _) _) (OwnFrom.and (Own.from (boxed_own _ _ _) _) (OwnFrom.and (Own.from (boxed_own _ _ _) _) (OwnFrom.and (Own.from (boxed_own _ _ _) _) (OwnFrom.and (Own.from (blk_own Br _ (fun _ => #[.iface 75 (.string s), .int .i64 base, .int .i64 frame, .int .i64 plain])) _) (ownFrom_below (Nat.le_refl _) (by omega)))))))))
    (fun c pre A B row hs' hg hr => by
      obtain ⟨hc, a, e, ha, hv, h2, h3, hb⟩ := hs'
      exact ⟨hc, a, e, ha, holdsRow_own w.heap.size R1 29 36 9 (fun (_ : Unit) => (frs a).length) (fun _ => fcs (frs a)) (fun _ _ => True) () A B row hv hg (fun r e => (hr r e).2), boxed_own R2 3 (fun (_ : Unit) => Value.int .i64 (enG 0 a)) () A B row h2 hg (fun r e => (hr r e).2), boxed_own R3 26 (fun (_ : Unit) => Value.int .i64 (e : Nat)) () A B row h3 hg (fun r e => (hr r e).2), ownFrom_below (β := Unit) (Nat.le_refl _) (by omega) () A B row hb hg hr⟩)
    ⟨rfl, ⟨_, bL, World.ownsRow_nil _ _ _ _, trivial⟩, bE, bR1, bR2, bR3, hBr, hB0⟩
    (fun x a' W => ∃ Bx, Br < Bx ∧ owL LB W ≠ some Bx ∧ W.heap[Bx]? = some (.cells (ydA x.1) 36 (0, 0)) ∧ a' = { tmps := #[.agg #[.iface 75 (.string s), .int .i64 base, .int .i64 frame, .int .i64 plain], .pointer (some ⟨w.heap.size, 0, none⟩), .pointer (some ⟨R1, 0, none⟩), .pointer (some ⟨R2, 0, none⟩), .pointer (some ⟨R3, 0, none⟩), .pointer (some ⟨LB, 0, none⟩), .pointer (some ⟨EB, 0, none⟩), .pointer (some ⟨Bx, 0, none⟩), ydE x.1, .agg #[.iface 75 (.string s), .int .i64 base, .int .i64 frame, .int .i64 plain], .func (.func 47) #[] #[.pointer (some ⟨Br, 0, none⟩)], .agg (ydA x.1), ydE x.1, undef, undef, undef, undef, undef, undef, undef, undef, undef, undef, undef, undef, undef], defers := [] })
    (fun x a' _ A B row hs' hg hr => by
      obtain ⟨Bx, h1, h2, h3, h4⟩ := hs'
      have hlt := lt_of_heap h3
      refine ⟨Bx, h1, ?_, blk_own Bx 36 (fun (_ : Unit) => ydA x.1) () A B row h3 hg (fun r e => (hr r e).2), h4⟩
      rw [owL_eq (hg.block LB (by omega) (fun e => by have := (hr LB e.symm).1; omega))]
      exact h2)
    ?assign ?body ?done ?stop
  case assign =>
    rintro l pre ⟨y, hy⟩ W K ⟨hwy, ⟨v, bL1, hrow, _⟩, bE1, b1, b2, b3, hr1, hB1⟩ hK
    have hfresh : owL LB (W.alloc (.cells (ydA y) 36)) ≠ some W.heap.size := by
      rw [owL_box (bL1.alloc _)]
      intro h
      exact absurd (World.ownsRow.lt hrow _ h).2 (Nat.lt_irrefl _)
    have hWL := bL1.lt
    have hWB := hB1.size
    have hWE := bE1.lt
    have hWr := lt_of_heap hr1
    cases y with
    | fr f k =>
      dsimp only [ydV, fdV, fdA]
      gi_wp2
      exact hK _ _ ((KeepsOthers.alloc _ _).from _) (Kq.alloc (by omega) (by omega) _) ⟨hwy, ⟨v, bL1.alloc _, hrow.alloc _, trivial⟩, bE1.alloc _, b1.alloc _, b2.alloc _, b3.alloc _, heap_alloc_at hr1, hB1.alloc hB1.size _⟩ ⟨W.heap.size, hWr, hfresh, heap_new _ _, rfl⟩
    | no e =>
      dsimp only [ydV, noFd]
      gi_wp2
      exact hK _ _ ((KeepsOthers.alloc _ _).from _) (Kq.alloc (by omega) (by omega) _) ⟨hwy, ⟨v, bL1.alloc _, hrow.alloc _, trivial⟩, bE1.alloc _, b1.alloc _, b2.alloc _, b3.alloc _, heap_alloc_at hr1, hB1.alloc hB1.size _⟩ ⟨W.heap.size, hWr, hfresh, heap_new _ _, rfl⟩
  case body =>
    rintro l pre ⟨y, hy⟩ a' W hl ⟨r, hr⟩ ⟨hwy, ⟨v, bL1, hrow, _⟩, bE1, b1, b2, b3, hr1, hB1⟩ ⟨Bx, hBx, hox, hF, rfl⟩ hlt
    cases y with
    | fr f k =>
      obtain ⟨va, vn, vc, rfl⟩ := ownsRow_slice hrow
      obtain ⟨N, hN'⟩ : ∃ N : Int, ((12 + f.len : Nat) : Int) = N := ⟨_, rfl⟩
      have hRt : Right f := hy.1
      have hkz : k + (12 + f.len) ≤ 4611686018427387904 := hy.2
      have CB : Hid (∀ y, Calls Tryz.prog 46 #[.agg #[.int .i64 f.base, .int .i64 N, .bool (decide (f.st = 1)), .int .i64 f.cnt, .int .i64 f.first, .int .i64 f.grt, .int .i64 f.prod, .int .i32 f.seq, .int .i64 k]] y fun e w' => e = .returned (.int .i64 (k + (12 + f.len) : Nat)) ∧ Below y.heap.size y w') := fun y => by
        have := fbehind_any f k y hRt (by omega)
        unfold fdV fdA at this
        rw [hN'] at this
        exact this
      have hnews : fd1 (f, k) = [.int .i64 f.base, .int .i64 N, .bool (decide (f.st = 1)), .int .i64 f.cnt, .int .i64 f.first, .int .i64 f.grt, .int .i64 f.prod, .int .i32 f.seq, .int .i64 k] := by rw [← hN']; rfl
      obtain ⟨EN, hEN⟩ : ∃ EN : Nat, k + (12 + f.len) = EN := ⟨_, rfl⟩
      rw [hEN] at CB
      dsimp only [ydA, ydE, fdA] at hF ⊢
      rw [hN'] at hF ⊢
      clear hN'
      obtain ⟨x0, x1, x2, x3, x4, x5, x6, x7, x8⟩ := cells9 hF
      have hox' : (Value.slice va vn vc).ownBlock ≠ some Bx := by rw [← owL_box bL1]; exact hox
      have cL := bL1.cell
      have hpl : (frs (vals pre)).length ≤ pre.length := by rw [← vals_len]; exact frs_le _
      have hbW := hB1.size
      have hWr := lt_of_heap hr1
      have hdis : (0 : Nat) < 1 := by omega
      gi_wp2_with (gi_at_builtin; refine wpListIn_append_lies _ rfl _ _ 29 rfl w.heap.size 36 i0 (.agg #[.int .i64 0, .int .i64 0, .bool false, .int .i64 0, .int .i64 0, .int .i64 0, .int .i64 0, .int .i32 0, .int .i64 0]) 9 72 Tryz.underlying29 hi hz0 hz1 hz2 rfl (by decide) _ _ _ rfl (hrow.alloc _) ⟨W.heap.size, 0, none⟩ 1 1 [.int .i64 f.base, .int .i64 N, .bool (decide (f.st = 1)), .int .i64 f.cnt, .int .i64 f.first, .int .i64 f.grt, .int .i64 f.prod, .int .i32 f.seq, .int .i64 k] rfl rfl ?c1 ?c2 hdis ?c3 ?c4 ?c5 ?_)
      case c1 =>
        intro j u h
        have := cell_of (i := j) (heap_new W (.cells #[.int .i64 f.base, .int .i64 N, .bool (decide (f.st = 1)), .int .i64 f.cnt, .int .i64 f.first, .int .i64 f.grt, .int .i64 f.prod, .int .i32 f.seq, .int .i64 k] 36))
        rw [show (⟨W.heap.size, 0, none⟩ : Addr).add j = ⟨W.heap.size, 0 + j, none⟩ from Go.WideShapes.add_plain _ _ _, Nat.zero_add, this]
        simpa using h
      case c2 =>
        intro u hu
        simp only [List.mem_cons, List.not_mem_nil, or_false] at hu
        rcases hu with rfl | rfl | rfl | rfl | rfl | rfl | rfl | rfl | rfl <;> rfl
      case c3 => unfold maxLen; omega
      case c4 => omega
      case c5 => simp; omega
      intro g cap w1 hown' hgrow hg'
      obtain ⟨hv1, hv2, hr2, hk2, hb2⟩ := bL1.appended (by decide) hrow hbW (by omega) hown' hgrow
      have cl1 := hv1.cell
      have fl1 := hv1.frozen
      have hF2 : (w1.setCell ⟨LB, 0, none⟩ (.slice (some ⟨g, 0, none⟩) ((frs (vals pre)).length + 1) cap)).heap[Bx]? = some (.cells #[.int .i64 f.base, .int .i64 N, .bool (decide (f.st = 1)), .int .i64 f.cnt, .int .i64 f.first, .int .i64 f.grt, .int .i64 f.prod, .int .i32 f.seq, .int .i64 k] 36 (0, 0)) := heap_set_far ((hgrow.block Bx (by have := lt_of_heap hF; simp; omega) (fun e => hox' e.symm)).trans (heap_alloc_at hF)) (by show Bx ≠ LB; omega)
      have hbx : ∀ {B : Nat} {t : TypeId} {c : Array Value}, W.heap[B]? = some (.cells c t (0, 0)) → t ≠ 36 → B ≠ LB → (w1.setCell ⟨LB, 0, none⟩ (.slice (some ⟨g, 0, none⟩) ((frs (vals pre)).length + 1) cap)).heap[B]? = some (.cells c t (0, 0)) := fun {B} {t} {c} hb ht hne =>
        heap_set_far ((hgrow.block B (by have := lt_of_heap hb; simp; omega) (fun e => own_ne hrow hb ht e.symm)).trans (heap_alloc_at hb)) hne
      have bE2 : Boxed (w1.setCell ⟨LB, 0, none⟩ (.slice (some ⟨g, 0, none⟩) ((frs (vals pre)).length + 1) cap)) EB _ _ := hbx bE1 (by decide) (by omega)
      have hsame : ∀ kk c T fz, W.heap[kk]? = some (.cells c T fz) → kk ≠ LB → (Value.slice va vn vc).ownBlock ≠ some kk → (w1.setCell ⟨LB, 0, none⟩ (.slice (some ⟨g, 0, none⟩) ((frs (vals pre)).length + 1) cap)).heap[kk]? = some (.cells c T fz) := fun kk c T fz hk hne ho => heap_set_far ((hgrow.block kk (by have := lt_of_heap hk; simp; omega) (fun e => ho e.symm)).trans (heap_alloc_at hk)) hne
      obtain ⟨W2, hW2⟩ : ∃ x, w1.setCell ⟨LB, 0, none⟩ (.slice (some ⟨g, 0, none⟩) ((frs (vals pre)).length + 1) cap) = x := ⟨_, rfl⟩
      rw [hW2] at hv2 hr2 hk2 hb2 hF2 bE2 hsame
      have hbx' : ∀ {B : Nat} {t : TypeId} {c : Array Value}, W.heap[B]? = some (.cells c t (0, 0)) → t ≠ 36 → B ≠ LB → W2.heap[B]? = some (.cells c t (0, 0)) := fun {B} {t} {c} hb ht hne => by rw [← hW2]; exact hbx hb ht hne
      clear hbx x0 x1 x2 x3 x4 x5 x6 x7 x8 cL
      obtain ⟨x0, x1, x2, x3, x4, x5, x6, x7, x8⟩ := cells9 hF2
      have HS := hid hsame
      clear hsame
      gi_wp2_with (refine ⟨trivial, ?_⟩; gi_at_call 46; refine (CallsIn.inRound l (callsIn_wide.2 (CB.out _))).mono ?_; rintro e4 w4 ⟨rfl, b4⟩; have bE4 : Boxed w4 EB _ _ := keep bE2 b4; have cE4 := bE4.cell; have fE4 := bE4.frozen)
      have hs2 := hk2.size
      have h4 := b4.size
      have hr4 : (w4.setCell ⟨EB, 0, none⟩ (.int .i64 EN)).ownsRow w.heap.size 36 9 (.slice (some ⟨g, 0, none⟩) ((frs (vals pre)).length + 1) cap) ((frs (vals pre)).length + 1) (fcs (frs (vals pre)) ++ [.int .i64 f.base, .int .i64 N, .bool (decide (f.st = 1)), .int .i64 f.cnt, .int .i64 f.first, .int .i64 f.grt, .int .i64 f.prod, .int .i32 f.seq, .int .i64 k]) :=
        own_apart hr2 fun g' hg'' => (Below.heap_setCell _ ⟨EB, 0, none⟩ _ g' (fun e => own_ne hr2 bE2 (by decide) (by have e' : g' = EB := e; rw [← e']; exact hg''))).trans (b4.block g' (World.ownsRow.lt hr2 g' hg'').2)
      have bL' : Boxed (w4.setCell ⟨EB, 0, none⟩ (.int .i64 EN)) LB 29 (.slice (some ⟨g, 0, none⟩) ((frs (vals pre)).length + 1) cap) := (show Boxed w4 LB _ _ from keep hv2 b4).other (by omega) _
      have hup : ∀ {B : Nat} {t : TypeId} {c : Array Value}, W.heap[B]? = some (.cells c t (0, 0)) → t ≠ 36 → B ≠ LB → B ≠ EB → (w4.setCell ⟨EB, 0, none⟩ (.int .i64 EN)).heap[B]? = some (.cells c t (0, 0)) := fun {B} {t} {c} hb ht hne hne2 => heap_set_far (keep (hbx' hb ht hne) b4) hne2
      refine ⟨(hk2.trans ((KeepsOthers.of_grownBy (grown_of b4) (fun _ _ e => (by cases e))).trans (KeepsOthers.setCell _ _ _))).from _, ⟨(hb2.trans (b4.mono (by omega))).setCell (p := ⟨EB, 0, none⟩) (by show _ ≤ EB; omega) _, fun _ => ⟨fun g' hg'' => ?_, fun kk c T fz hkk hX ho => ⟨?_, ?_⟩⟩⟩, ?_, ⟨_, bL', ?_, trivial⟩, ?_, hup b1 (by decide) (by omega) (by omega), hup b2 (by decide) (by omega) (by omega), hup b3 (by decide) (by omega) (by omega), hup hr1 (by decide) (by omega) (by omega), (hB1.trans (hb2.trans (b4.mono (by omega)))).setCell (p := ⟨EB, 0, none⟩) (by show _ ≤ EB; omega) _⟩
      · rw [owL_box bL'] at hg''
        exact (World.ownsRow.lt hr4 g' hg'').2
      · rw [owL_box bL']
        rw [owL_box bL1] at ho
        intro e
        have eg : g = kk := by injection e
        rcases hg' with h | h
        · exact ho (by rw [h, eg])
        · have := lt_of_heap hkk
          have h' : g = W.heap.size + 1 := h
          omega
      · rw [owL_box bL1] at ho
        exact heap_set_far (keep (HS.out kk c T fz hkk (by omega) ho) b4) (by show kk ≠ EB; omega)
      · rw [vals_snoc, wyG_app]
        exact hwy
      · rw [vals_snoc, frs_fr, List.length_append, fcs_snoc, hnews]
        exact hr4
      · rw [vals_snoc, enG_fr, hEN]
        exact bE4.set _
    | no e =>
      obtain ⟨va, vn, vc, rfl⟩ := ownsRow_slice hrow
      dsimp only [ydA, ydE] at hF ⊢
      have hE : (e : Int) ≠ 0 := by have : e ≠ 0 := hy; omega
      have cL := bL1.cell
      have cE := bE1.cell
      have c1 := b1.cell
      have c2 := b2.cell
      have c3 := b3.cell
      have f1 := b1.frozen
      have f2 := b2.frozen
      have f3 := b3.frozen
      gi_wp2
      gi_region
      all_goals gi_wp2
      all_goals
        have hsO := set3_own (.slice va vn vc) (.int .i64 (enG 0 (vals pre))) (.int .i64 e) b1 b2 b3 (by decide) (by decide) (by decide) hrow
        refine ⟨((((KeepsOthers.setCell _ _ _).trans (KeepsOthers.setCell _ _ _)).trans (KeepsOthers.setCell _ _ _)).trans (KeepsOthers.drew _)).from _, rfl, vals pre, e, vals_snoc _ _, ⟨_, ((b1.set _).other (by omega) _).other (by omega) _, hsO, trivial⟩, ((b2.other (by omega) _).set _).other (by omega) _, ((b3.other (by omega) _).other (by omega) _).set _, ?_⟩
        exact ((((hB1.setCell (p := ⟨R1, 0, none⟩) (by show _ ≤ R1; omega) _).setCell (p := ⟨R2, 0, none⟩) (by show _ ≤ R2; omega) _).setCell (p := ⟨R3, 0, none⟩) (by show _ ≤ R3; omega) _)).drew
  case done =>
    rintro D ys W hD hS ⟨hwy, ⟨v, bL1, hrow, _⟩, bE1, b1, b2, b3, _, hB1⟩ hK
    obtain ⟨va, vn, vc, rfl⟩ := ownsRow_slice hrow
    have cL := bL1.cell
    have cE := bE1.cell
    have c1 := b1.cell
    have c2 := b2.cell
    have c3 := b3.cell
    have f1 := b1.frozen
    have f2 := b2.frozen
    have f3 := b3.frozen
    gi_wp2
    gi_region
    all_goals gi_wp2
    all_goals
      have hk0 := ((KeepsOthers.setCell W ⟨R1, 0, none⟩ (.slice va vn vc)).trans (KeepsOthers.setCell _ ⟨R2, 0, none⟩ (.int .i64 (enG 0 (tr s base frame plain))))).trans (KeepsOthers.setCell _ ⟨R3, 0, none⟩ (.int .i64 0))
      have hK' := hk0.same D _ hK rfl
      have hsO := set3_own (.slice va vn vc) (.int .i64 (enG 0 (tr s base frame plain))) (.int .i64 0) b1 b2 b3 (by decide) (by decide) (by decide) hrow
      have d1 := ((b1.set (.slice va vn vc)).other (B' := R2) (by omega) (.int .i64 (enG 0 (tr s base frame plain)))).other (B' := R3) (by omega) (.int .i64 0)
      have d2 := ((b2.other (B' := R1) (by omega) (.slice va vn vc)).set (.int .i64 (enG 0 (tr s base frame plain)))).other (B' := R3) (by omega) (.int .i64 0)
      have d3 := ((b3.other (B' := R1) (by omega) (.slice va vn vc)).other (B' := R2) (by omega) (.int .i64 (enG 0 (tr s base frame plain)))).set (.int .i64 0)
      have hBe := ((hB1.setCell (p := ⟨R1, 0, none⟩) (by show _ ≤ R1; omega) (.slice va vn vc)).setCell (p := ⟨R2, 0, none⟩) (by show _ ≤ R2; omega) (.int .i64 (enG 0 (tr s base frame plain)))).setCell (p := ⟨R3, 0, none⟩) (by show _ ≤ R3; omega) (.int .i64 0)
      generalize ((W.setCell ⟨R1, 0, none⟩ (.slice va vn vc)).setCell ⟨R2, 0, none⟩ (.int .i64 (enG 0 (tr s base frame plain)))).setCell ⟨R3, 0, none⟩ (.int .i64 0) = U at *
      have hK2 : U.drew.heap[D]? = some (.deferred (some [])) := hK'
      refine ⟨by simp, .inl ⟨_, _, rfl, run_takeDeferred hK2, ?_⟩⟩
      have k1 := cell_kept (show U.drew.cell? ⟨R1, 0, none⟩ = _ from d1.cell) (grownBy_putObj' _ D (.deferred none)) (fun r e => by cases e; exact ⟨_, hK2, rfl⟩)
      have k2 := cell_kept (show U.drew.cell? ⟨R2, 0, none⟩ = _ from d2.cell) (grownBy_putObj' _ D (.deferred none)) (fun r e => by cases e; exact ⟨_, hK2, rfl⟩)
      have k3 := cell_kept (show U.drew.cell? ⟨R3, 0, none⟩ = _ from d3.cell) (grownBy_putObj' _ D (.deferred none)) (fun r e => by cases e; exact ⟨_, hK2, rfl⟩)
      refine ⟨.tuple #[.slice va vn vc, .int .i64 (enG 0 (tr s base frame plain)), .int .i64 0], ?_, .slice va vn vc, ?_, ?_, ?_⟩
      · simp [results, Tryz.results30, go_sem, k1, k2, k3]
      · rw [← hS, hwy]
        rfl
      · rw [← hS]
        exact ownsRow_putObj (show U.drew.ownsRow _ _ _ _ _ _ from hsO) _ hK2 rfl
      · exact hBe.drew.trans (belowK_b (w := w) (Nat.le_refl _) _ D _ _ (by omega) hK2 rfl rfl)
  case stop =>
    rintro D c pre W hD hS ⟨rfl, a, e, ha, ⟨v, b1, hrow, _⟩, b2, b3, hB1⟩ hK
    obtain ⟨va, vn, vc, rfl⟩ := ownsRow_slice hrow
    rw [ha] at hS
    have hT := trc_last _ _ _ _ _ hS
    have hT2 : tr s base frame plain = a ++ [.no e] := hT.symm
    clear hT hS
    gi_wp2
    rw [hT2, frs_no, enG_no, wyG_no]
    refine ⟨by simp, .inl ⟨_, _, rfl, run_takeDeferred hK, ?_⟩⟩
    have k1 := cell_kept b1.cell (grownBy_putObj' _ D (.deferred none)) (fun r e => by cases e; exact ⟨_, hK, rfl⟩)
    have k2 := cell_kept b2.cell (grownBy_putObj' _ D (.deferred none)) (fun r e => by cases e; exact ⟨_, hK, rfl⟩)
    have k3 := cell_kept b3.cell (grownBy_putObj' _ D (.deferred none)) (fun r e => by cases e; exact ⟨_, hK, rfl⟩)
    refine ⟨.tuple #[.slice va vn vc, .int .i64 (enG 0 a), .int .i64 e], ?_, .slice va vn vc, rfl, ?_, ?_⟩
    · simp [results, Tryz.results30, go_sem, k1, k2, k3]
    · exact ownsRow_putObj hrow _ hK rfl
    · exact hB1.trans (belowK_b (w := w) (Nat.le_refl _) W D _ _ (by omega) hK rfl rfl)
end Go.Proofs.YtgcgnkafhpjdiaaGreat
namespace Go.Proofs.YtgcgnkafhpjdiaaGreat
open Go.RowKit
theorem own_low {w : World} {B B' n size : Nat} {e : TypeId} {v : Value} {l : List Value} (h : w.ownsRow B' e size v n l) (hB : B ≤ B') : w.ownsRow B e size v n l :=
  ⟨h.1, h.2.imp_right fun ⟨g, cap, cur, h1, h2, h3⟩ => ⟨g, cap, cur, h1, Nat.le_trans hB h2, h3⟩⟩
set_option maxHeartbeats 1000000 in
set_option maxRecDepth 20000 in
theorem all_any (s : ByteArray) (base frame plain : Int) (hs : s.size ≤ 4611686018427387904) (hN : (tr s base frame plain).length * 72 ≤ 140737488355328) (w : World) :
    Calls Tryz.prog 11 #[.string s, .int .i64 base, .int .i64 frame, .int .i64 plain] w fun e w' => ∃ v, e = .returned (.tuple #[v, .int .i64 (enG 0 (tr s base frame plain)), .int .i64 (wyG 0 (tr s base frame plain))]) ∧ w'.ownsRow w.heap.size 36 9 v (frs (tr s base frame plain)).length (fcs (frs (tr s base frame plain))) ∧ Below w.heap.size w w' := by
  have C := hid (fun w => whole_any s base frame plain hs hN w)
  go_enter Tryz.func11, Tryz.ntmps11
  go_wp2_with fail
  refine (C.out _).mono ?_
  rintro e w1 ⟨v, rfl, hO, hb⟩
  have B : Below w.heap.size w (w.alloc (.cells #[.iface 75 (.string s), .int .i64 base, .int .i64 frame, .int .i64 plain] 79)) := (Below.refl _ _).alloc (Nat.le_refl _) _
  go_wp2_with fail
  exact bodyPost_ret (v := .tuple #[v, .int .i64 (enG 0 (tr s base frame plain)), .int .i64 (wyG 0 (tr s base frame plain))]) (by simp [results, Tryz.results11, go_sem]) rfl ⟨v, rfl, own_low hO B.size, B.trans (hb.mono B.size)⟩
end Go.Proofs.YtgcgnkafhpjdiaaGreat
