/- A tail's own calls: all, next. -/
import Derived.Test.YtolobmhbmajolaaPdm
namespace Go.Proofs.Ytolobmhbmajolaa
open Go.RowKit
set_option maxHeartbeats 1000000 in
theorem all_any (p : Nat) (ns : List Nt) (w : World) (h : TA w p ns) :
    Calls Try.prog 46 #[.pointer (some ⟨p, 0, none⟩)] w fun e w' => e = .returned (.slice (some ⟨p, 1, none⟩) ns.length 5) ∧ w' = w.drew := by
  obtain ⟨a0, a1, a2, a3, a4, h1, h2, h⟩ := h
  have c0 : w.cell? ⟨p, 0, none⟩ = some (.int .i64 ns.length) := (cell_of h).trans rfl
  generalize ns.length = n at *
  clear h2
  have hn : (n : Int) ≤ 5 := by omega
  go_enter Try.func46, Try.ntmps46
  go_wp2
  go_region
  go_wp2
  go_ret
  exact ⟨rfl, rfl⟩
set_option maxHeartbeats 1000000 in
theorem next_any (p : Nat) (ns : List Nt) (x : Nt) (w : World) (hk : NtOk x) (h : TA w p ns) (hl : ns.getLast? = some x) :
    Calls Try.prog 37 #[.pointer (some ⟨p, 0, none⟩)] w fun e w' => e = .returned (.int .i32 (nx x)) ∧ Below w.heap.size w w' := by
  obtain ⟨a0, a1, a2, a3, a4, h1, h2, h⟩ := h
  have hp := lt_of_heap h
  have e0 : IntKind.i64.wrap 0 = 0 := rfl
  have e1 : IntKind.i64.wrap 1 = 1 := rfl
  have e2 : IntKind.i64.wrap 2 = 2 := rfl
  have e3 : IntKind.i64.wrap 3 = 3 := rfl
  have e4 : IntKind.i64.wrap 4 = 4 := rfl
  have g1 := hk.c0
  have g2 := hk.c1
  have g3 := hk.s0
  have g4 := hk.s1
  have hb := fun (u : Value) (v : Value) (z : Value) => ((Below.refl w.heap.size w).alloc (Nat.le_refl _) (.cells #[u, v, z] 68)).drew
  obtain ⟨n, hn⟩ : ∃ n, ns.length = n := ⟨_, rfl⟩
  rw [hn] at h1 h2 h
  have hc : n = 0 ∨ n = 1 ∨ n = 2 ∨ n = 3 ∨ n = 4 ∨ n = 5 := by omega
  clear hn h1 hk
  rcases hc with rfl | rfl | rfl | rfl | rfl | rfl <;> (subst h2; simp only [List.take_succ_cons, List.take_zero, List.getLast?_cons_cons, List.getLast?_singleton, List.getLast?_nil, Option.some.injEq, reduceCtorEq] at hl; try subst hl)
  all_goals
    obtain ⟨c0, c1, c2, c3, c4, c5, c6, c7, c8, c9, c10, c11, c12, c13, c14, c15⟩ := cells16 h
    clear h
    go_enter Try.func37, Try.ntmps37
    go_wp2
    go_region
    all_goals go_wp2
    go_ret
    exact ⟨rfl, hb _ _ _⟩
end Go.Proofs.Ytolobmhbmajolaa
