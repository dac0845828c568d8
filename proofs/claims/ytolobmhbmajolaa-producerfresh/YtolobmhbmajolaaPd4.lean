/- slices.Backward over a tail's batches; find. -/
import Derived.Test.YtolobmhbmajolaaPd1
import Derived.Test.YtolobmhbmajolaaPd3
import Derived.RangeFuncNested
import Derived.RangeFuncBound
import Derived.RangeFuncCalls
import Derived.RangeFuncLeaves
import Derived.RangeFuncBox
import Derived.Shelf.Abstract
import Derived.WalkKit
import Derived.OwnWalkIn
import Derived.TacticsInMore
import Derived.LoopNIn
import Derived.LoopIn
namespace Go.Proofs.Ytolobmhbmajolaa
open Go.RowKit Go.Shelf
attribute [local go_sem] Oper.semAt_some
def nt0 : Nt := ⟨0, 0, 0⟩
/-- The batches from the k-th back, with their places. -/
def bkw (ns : List Nt) : Nat → List (Nat × Nt)
  | 0 => []
  | k + 1 => (k, ns.getD k nt0) :: bkw ns k
abbrev Ng := { y : Nat × Nt // NtOk y.2 }
def nvals (l : List Ng) : List (Nat × Nt) := l.map (fun x => x.1)
theorem nvals_snoc (l : List Ng) (x : Ng) : nvals (l ++ [x]) = nvals l ++ [x.1] := by simp [nvals]
theorem nvals_len (l : List Ng) : (nvals l).length = l.length := by simp [nvals]
theorem bkw_len (ns : List Nt) : ∀ k, (bkw ns k).length = k
  | 0 => rfl
  | k + 1 => by show (bkw ns k).length + 1 = _; rw [bkw_len ns k]
theorem TA.cells {w : World} {p : Nat} {ns : List Nt} (h : TA w p ns) {j : Nat} (hj : j < ns.length) :
    w.cell? ⟨p, 1 + j * 3, none⟩ = some (.int .i64 (ns.getD j nt0).b) ∧ w.cell? ⟨p, 1 + j * 3 + 1, none⟩ = some (.int .i32 (ns.getD j nt0).c) ∧ w.cell? ⟨p, 1 + j * 3 + 2, none⟩ = some (.int .i32 (ns.getD j nt0).s) := by
  obtain ⟨a0, a1, a2, a3, a4, h1, h2, h⟩ := h
  obtain ⟨c0, c1, c2, c3, c4, c5, c6, c7, c8, c9, c10, c11, c12, c13, c14, c15⟩ := cells16 h
  have e : ns.getD j nt0 = [a0, a1, a2, a3, a4].getD j nt0 := by
    conv => lhs; rw [h2]
    simp only [List.getD_eq_getElem?_getD, List.getElem?_take, hj, if_true]
  rw [e]
  have hc : j = 0 ∨ j = 1 ∨ j = 2 ∨ j = 3 ∨ j = 4 := by omega
  clear h2 e h
  rcases hc with rfl | rfl | rfl | rfl | rfl
  · exact ⟨c1, c2, c3⟩
  · exact ⟨c4, c5, c6⟩
  · exact ⟨c7, c8, c9⟩
  · exact ⟨c10, c11, c12⟩
  · exact ⟨c13, c14, c15⟩
theorem backward_any (v : Value) (w : World) (hv : ∃ a n c, v = .slice a n c) : Calls Try.prog 49 #[v] w fun e w' => e = .returned (.func (.func 53) #[] #[.pointer (some ⟨w.heap.size, 0, none⟩)]) ∧ w' = w.alloc (.cells #[v] 86) := by
  obtain ⟨a, n, c, rfl⟩ := hv
  go_enter Try.func49, Try.ntmps49
  go_wp2
  go_ret
  exact ⟨rfl, rfl⟩
set_option maxRecDepth 100000 in
set_option maxHeartbeats 2000000 in
theorem back1_in (n l Bs n₀ p : Nat) (hn : 1 ≤ n) (ns : List Nt) (hok : ∀ x ∈ ns, NtOk x) (J Jx : List Ng → World → Prop) (W0 : World)
    (hY : ∀ pre x W, J pre W → pre.length < ns.length → YieldAt Fence.wide (n - 1) Try.prog l #[.int .i64 x.1.1, ntV x.1.2] W fun e W' =>
      (e = .returned (.bool true) ∧ J (pre ++ [x]) W' ∧ Below n₀ W W') ∨ (e = .returned (.bool false) ∧ Jx (pre ++ [x]) W'))
    (hBs : W0.heap[Bs]? = some (.cells #[.slice (some ⟨p, 1, none⟩) ns.length 5] 86 (0, 0))) (hB : Bs < n₀) (hT : TA W0 p ns) (hp : p < n₀) (h0 : J [] W0) :
    CallsIn Fence.wide n Try.prog 53 #[.func (.yield l) #[] #[], .pointer (some ⟨Bs, 0, none⟩)] W0 fun e W' => (∃ v, e = .returned v) ∧
      ((∃ ys, nvals ys = bkw ns ns.length ∧ J ys W') ∨ (∃ pre, nvals pre <+: bkw ns ns.length ∧ Jx pre W')) := by
  have hlen := hT.len
  have c0 : W0.cell? ⟨Bs, 0, none⟩ = some (.slice (some ⟨p, 1, none⟩) ns.length 5) := (cell_of hBs).trans rfl
  obtain ⟨N, hN⟩ : ∃ N, ns.length = N := ⟨_, rfl⟩
  rw [hN] at hlen c0 hBs hY ⊢
  refine callsIn_of_wp Try.func53 rfl trivial ?_ rfl
  simp only [Try.ntmps53, List.size_toArray, List.length_cons, List.length_nil, Nat.reduceAdd, Nat.reduceSub, Array.replicate_succ, Array.replicate_zero, List.push_toArray, List.append_toArray, List.nil_append, List.cons_append]
  gi_wp2
  gi_loopw [3] (fun v3 wr => ∃ (k : Nat) (i : Int) (pre : List Ng), v3 = .int .i64 i ∧ i + 1 = k ∧ k ≤ N ∧ nvals pre ++ bkw ns k = bkw ns N ∧ wr.heap[Bs]? = some (.cells #[.slice (some ⟨p, 1, none⟩) N 5] 86 (0, 0)) ∧ TA wr p ns ∧ J pre wr)
    (fun v3 _ => (intOf v3 + 1).toNat)
  case atStart => exact ⟨N, N - 1, [], rfl, by omega, Nat.le_refl _, rfl, hBs, hT, h0⟩
  case round =>
    obtain ⟨k, i, pre, rfl, hi, hk, ht, hB1, hT1, hJ1⟩ := hrel
    have c1 : wr.cell? ⟨Bs, 0, none⟩ = some (.slice (some ⟨p, 1, none⟩) N 5) := (cell_of hB1).trans rfl
    cases k with
    | zero =>
      obtain rfl : i = -1 := by omega
      gi_wp2
      go_end0
      exact ⟨⟨_, rfl⟩, .inl ⟨pre, by simpa [bkw] using ht, hJ1⟩⟩
    | succ j =>
      obtain rfl : i = j := by omega
      have hjN : (j : Int) < N := by omega
      have hj0 : (0 : Int) ≤ j := by omega
      obtain ⟨k1, k2, k3⟩ := hT1.cells (j := j) (by omega)
      have hxok : NtOk (ns.getD j nt0) := hok _ (by rw [List.getD_eq_getElem?_getD, List.getElem?_eq_getElem (by omega)]; exact List.getElem_mem _)
      obtain ⟨y, hyy⟩ : ∃ y, ns.getD j nt0 = y := ⟨_, rfl⟩
      rw [show bkw ns (j + 1) = (j, ns.getD j nt0) :: bkw ns j from rfl] at ht
      rw [hyy] at k1 k2 k3 hxok ht
      clear hyy
      have ht' : (nvals pre ++ [(j, y)]) ++ bkw ns j = bkw ns N := by rw [← ht, List.append_assoc]; rfl
      have hpl : pre.length < N := by
        have := congrArg List.length ht
        rw [List.length_append, nvals_len, List.length_cons, bkw_len, bkw_len] at this
        omega
      obtain ⟨fn, tmps, assign, body, hy, hR⟩ := hY pre ⟨(j, y), hxok⟩ wr hJ1 hpl
      dsimp only at hy
      clear ht hpl hY hJ1
      have hjn : j < N := by omega
      gi_wp2
      refine hR.mono ?_
      rintro e W3 (⟨rfl, hJ3, hk3⟩ | ⟨rfl, hJx3⟩)
      · gi_wp2
        go_roundw
        case rel => exact ⟨j, j - 1, _, rfl, by omega, by omega, by rw [nvals_snoc]; exact ht', (hk3.block Bs hB).trans hB1, hT1.at (hk3.block p hp), hJ3⟩
        case measure => simp [intOf]
      · gi_wp2
        refine bodyPost_ret (results_none rfl _ _ _) rfl ?_
        exact ⟨⟨_, rfl⟩, .inr ⟨_, by rw [nvals_snoc]; exact ⟨_, ht'⟩, hJx3⟩⟩
theorem back_stops (n Bs n₀ p : Nat) (hn : 1 ≤ n) (ns : List Nt) (hok : ∀ x ∈ ns, NtOk x) (W0 : World)
    (hBs : W0.heap[Bs]? = some (.cells #[.slice (some ⟨p, 1, none⟩) ns.length 5] 86 (0, 0))) (hB : Bs < n₀) (hT : TA W0 p ns) (hp : p < n₀) :
    SeqStopsK Fence.wide n Try.prog 53 #[.pointer (some ⟨Bs, 0, none⟩)] (fun x : Ng => #[.int .i64 x.1.1, ntV x.1.2]) (Below n₀) (fun ys => nvals ys = bkw ns ns.length) (fun pre => nvals pre <+: bkw ns ns.length) ns.length W0 :=
  fun l J Jx W hW _ _ hY h0 => (back1_in n l Bs n₀ p hn ns hok J Jx W hY ((hW.block Bs (lt_of_heap hBs)).trans hBs) hB (hT.at (hW.block p hT.lt)) hp h0)
end Go.Proofs.Ytolobmhbmajolaa
