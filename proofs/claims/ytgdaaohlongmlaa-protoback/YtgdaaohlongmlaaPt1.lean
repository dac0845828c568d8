/- The tables of layer 17: how the fields of each kind are written and read. -/
import Derived.Test.YtgdaaohlongmlaaRmD
import Derived.Test.YtgdaaohlongmlaaSz
import Derived.Deep.DeepCutAuto
import Derived.Laws.EntriesVeiled
namespace Go.Proofs.Ytgdaaohlongmlaa
open Go.RowKit
/-- A function value without anything caught. -/
abbrev fv (n : Nat) : Value := .func (.func n) #[] #[]
theorem hd_alloc {w : World} {b : Nat} {o o' : Obj} (h : w.heap[b]? = some o) : (w.alloc o').heap[b]? = some o := heap_alloc_at h
theorem hd_drew {w : World} {b : Nat} {o : Obj} (h : w.heap[b]? = some o) : w.drew.heap[b]? = some o := h
/-- The table of proto.requests. -/
abbrev qRow : Array Value := #[.nilFunc, .nilFunc, fv 28, fv 30, fv 32, fv 34, fv 36, fv 37, fv 26, fv 27, fv 38, fv 39, fv 26, fv 27]
set_option maxRecDepth 20000 in
theorem qtable_any (w : World) :
    Calls Try.prog 14 #[] w fun e w' => e = .returned (.slice (some ⟨w.heap.size + 1, 0, none⟩) 7 7) ∧ w' = (w.alloc (.cells #[fv 26, fv 27] 46)).alloc (.cells qRow 46) := by
  go_enter Try.func14, Try.ntmps14
  go_wp2
  go_ret
  exact ⟨rfl, rfl⟩
set_option maxRecDepth 20000 in
set_option maxHeartbeats 1000000 in
theorem qfind_no (g : Nat) (v : Int) (w : World) (hv : ¬ (1 ≤ v ∧ v ≤ 6)) :
    Calls Try.prog 13 #[.slice (some ⟨g, 0, none⟩) 7 7, .int .i64 v] w fun e w' => e = .returned (.tuple #[.agg #[.nilFunc, .nilFunc], .bool false]) ∧ w' = w.alloc (.cells #[.nilFunc, .nilFunc] 46) := by
  by_cases h0 : v ≤ 0
  · go_enter Try.func13, Try.ntmps13
    go_wp2
    exact bodyPost_ret (v := .tuple #[.agg #[.nilFunc, .nilFunc], .bool false]) (by simp [results, Try.results13, go_sem]) rfl ⟨rfl, rfl⟩
  · have h7 : 7 ≤ v := by omega
    go_enter Try.func13, Try.ntmps13
    go_wp2
    exact bodyPost_ret (v := .tuple #[.agg #[.nilFunc, .nilFunc], .bool false]) (by simp [results, Try.results13, go_sem]) rfl ⟨rfl, rfl⟩
set_option maxRecDepth 20000 in
set_option maxHeartbeats 1000000 in
theorem qfind_1 (g : Nat) (w : World) (h : w.heap[g]? = some (.cells qRow 46 (0, 0))) :
    Calls Try.prog 13 #[.slice (some ⟨g, 0, none⟩) 7 7, .int .i64 1] w fun e w' => e = .returned (.tuple #[.agg #[fv 28, fv 30], .bool true]) ∧ w' = w.alloc (.cells #[fv 28, fv 30] 46) := by
  have c0 : w.cell? ⟨g, 2, none⟩ = some (fv 28) := (cell_of h).trans rfl
  have c1 : w.cell? ⟨g, 3, none⟩ = some (fv 30) := (cell_of h).trans rfl
  have hlt := lt_of_heap h
  clear h
  go_enter Try.func13, Try.ntmps13
  go_wp2
  exact bodyPost_ret (v := .tuple #[.agg #[fv 28, fv 30], .bool true]) (by simp [results, Try.results13, go_sem]) rfl ⟨rfl, rfl⟩
set_option maxRecDepth 20000 in
set_option maxHeartbeats 1000000 in
theorem qfind_2 (g : Nat) (w : World) (h : w.heap[g]? = some (.cells qRow 46 (0, 0))) :
    Calls Try.prog 13 #[.slice (some ⟨g, 0, none⟩) 7 7, .int .i64 2] w fun e w' => e = .returned (.tuple #[.agg #[fv 32, fv 34], .bool true]) ∧ w' = w.alloc (.cells #[fv 32, fv 34] 46) := by
  have c0 : w.cell? ⟨g, 4, none⟩ = some (fv 32) := (cell_of h).trans rfl
  have c1 : w.cell? ⟨g, 5, none⟩ = some (fv 34) := (cell_of h).trans rfl
  have hlt := lt_of_heap h
  clear h
  go_enter Try.func13, Try.ntmps13
  go_wp2
  exact bodyPost_ret (v := .tuple #[.agg #[fv 32, fv 34], .bool true]) (by simp [results, Try.results13, go_sem]) rfl ⟨rfl, rfl⟩
set_option maxRecDepth 20000 in
set_option maxHeartbeats 1000000 in
theorem qfind_3 (g : Nat) (w : World) (h : w.heap[g]? = some (.cells qRow 46 (0, 0))) :
    Calls Try.prog 13 #[.slice (some ⟨g, 0, none⟩) 7 7, .int .i64 3] w fun e w' => e = .returned (.tuple #[.agg #[fv 36, fv 37], .bool true]) ∧ w' = w.alloc (.cells #[fv 36, fv 37] 46) := by
  have c0 : w.cell? ⟨g, 6, none⟩ = some (fv 36) := (cell_of h).trans rfl
  have c1 : w.cell? ⟨g, 7, none⟩ = some (fv 37) := (cell_of h).trans rfl
  have hlt := lt_of_heap h
  clear h
  go_enter Try.func13, Try.ntmps13
  go_wp2
  exact bodyPost_ret (v := .tuple #[.agg #[fv 36, fv 37], .bool true]) (by simp [results, Try.results13, go_sem]) rfl ⟨rfl, rfl⟩
set_option maxRecDepth 20000 in
set_option maxHeartbeats 1000000 in
theorem qfind_4 (g : Nat) (w : World) (h : w.heap[g]? = some (.cells qRow 46 (0, 0))) :
    Calls Try.prog 13 #[.slice (some ⟨g, 0, none⟩) 7 7, .int .i64 4] w fun e w' => e = .returned (.tuple #[.agg #[fv 26, fv 27], .bool true]) ∧ w' = w.alloc (.cells #[fv 26, fv 27] 46) := by
  have c0 : w.cell? ⟨g, 8, none⟩ = some (fv 26) := (cell_of h).trans rfl
  have c1 : w.cell? ⟨g, 9, none⟩ = some (fv 27) := (cell_of h).trans rfl
  have hlt := lt_of_heap h
  clear h
  go_enter Try.func13, Try.ntmps13
  go_wp2
  exact bodyPost_ret (v := .tuple #[.agg #[fv 26, fv 27], .bool true]) (by simp [results, Try.results13, go_sem]) rfl ⟨rfl, rfl⟩
set_option maxRecDepth 20000 in
set_option maxHeartbeats 1000000 in
theorem qfind_5 (g : Nat) (w : World) (h : w.heap[g]? = some (.cells qRow 46 (0, 0))) :
    Calls Try.prog 13 #[.slice (some ⟨g, 0, none⟩) 7 7, .int .i64 5] w fun e w' => e = .returned (.tuple #[.agg #[fv 38, fv 39], .bool true]) ∧ w' = w.alloc (.cells #[fv 38, fv 39] 46) := by
  have c0 : w.cell? ⟨g, 10, none⟩ = some (fv 38) := (cell_of h).trans rfl
  have c1 : w.cell? ⟨g, 11, none⟩ = some (fv 39) := (cell_of h).trans rfl
  have hlt := lt_of_heap h
  clear h
  go_enter Try.func13, Try.ntmps13
  go_wp2
  exact bodyPost_ret (v := .tuple #[.agg #[fv 38, fv 39], .bool true]) (by simp [results, Try.results13, go_sem]) rfl ⟨rfl, rfl⟩
set_option maxRecDepth 20000 in
set_option maxHeartbeats 1000000 in
theorem qfind_6 (g : Nat) (w : World) (h : w.heap[g]? = some (.cells qRow 46 (0, 0))) :
    Calls Try.prog 13 #[.slice (some ⟨g, 0, none⟩) 7 7, .int .i64 6] w fun e w' => e = .returned (.tuple #[.agg #[fv 26, fv 27], .bool true]) ∧ w' = w.alloc (.cells #[fv 26, fv 27] 46) := by
  have c0 : w.cell? ⟨g, 12, none⟩ = some (fv 26) := (cell_of h).trans rfl
  have c1 : w.cell? ⟨g, 13, none⟩ = some (fv 27) := (cell_of h).trans rfl
  have hlt := lt_of_heap h
  clear h
  go_enter Try.func13, Try.ntmps13
  go_wp2
  exact bodyPost_ret (v := .tuple #[.agg #[fv 26, fv 27], .bool true]) (by simp [results, Try.results13, go_sem]) rfl ⟨rfl, rfl⟩
/-- The table of proto.replies. -/
abbrev pRow : Array Value := #[.nilFunc, .nilFunc, fv 48, fv 50, fv 52, fv 53, fv 46, fv 47, fv 54, fv 55, fv 46, fv 47, fv 56, fv 57]
set_option maxRecDepth 20000 in
theorem ptable_any (w : World) :
    Calls Try.prog 23 #[] w fun e w' => e = .returned (.slice (some ⟨w.heap.size + 1, 0, none⟩) 7 7) ∧ w' = (w.alloc (.cells #[fv 46, fv 47] 71)).alloc (.cells pRow 71) := by
  go_enter Try.func23, Try.ntmps23
  go_wp2
  go_ret
  exact ⟨rfl, rfl⟩
set_option maxRecDepth 20000 in
set_option maxHeartbeats 1000000 in
theorem pfind_no (g : Nat) (v : Int) (w : World) (hv : ¬ (1 ≤ v ∧ v ≤ 6)) :
    Calls Try.prog 22 #[.slice (some ⟨g, 0, none⟩) 7 7, .int .i64 v] w fun e w' => e = .returned (.tuple #[.agg #[.nilFunc, .nilFunc], .bool false]) ∧ w' = w.alloc (.cells #[.nilFunc, .nilFunc] 71) := by
  by_cases h0 : v ≤ 0
  · go_enter Try.func22, Try.ntmps22
    go_wp2
    exact bodyPost_ret (v := .tuple #[.agg #[.nilFunc, .nilFunc], .bool false]) (by simp [results, Try.results22, go_sem]) rfl ⟨rfl, rfl⟩
  · have h7 : 7 ≤ v := by omega
    go_enter Try.func22, Try.ntmps22
    go_wp2
    exact bodyPost_ret (v := .tuple #[.agg #[.nilFunc, .nilFunc], .bool false]) (by simp [results, Try.results22, go_sem]) rfl ⟨rfl, rfl⟩
set_option maxRecDepth 20000 in
set_option maxHeartbeats 1000000 in
theorem pfind_1 (g : Nat) (w : World) (h : w.heap[g]? = some (.cells pRow 71 (0, 0))) :
    Calls Try.prog 22 #[.slice (some ⟨g, 0, none⟩) 7 7, .int .i64 1] w fun e w' => e = .returned (.tuple #[.agg #[fv 48, fv 50], .bool true]) ∧ w' = w.alloc (.cells #[fv 48, fv 50] 71) := by
  have c0 : w.cell? ⟨g, 2, none⟩ = some (fv 48) := (cell_of h).trans rfl
  have c1 : w.cell? ⟨g, 3, none⟩ = some (fv 50) := (cell_of h).trans rfl
  have hlt := lt_of_heap h
  clear h
  go_enter Try.func22, Try.ntmps22
  go_wp2
  exact bodyPost_ret (v := .tuple #[.agg #[fv 48, fv 50], .bool true]) (by simp [results, Try.results22, go_sem]) rfl ⟨rfl, rfl⟩
set_option maxRecDepth 20000 in
set_option maxHeartbeats 1000000 in
theorem pfind_2 (g : Nat) (w : World) (h : w.heap[g]? = some (.cells pRow 71 (0, 0))) :
    Calls Try.prog 22 #[.slice (some ⟨g, 0, none⟩) 7 7, .int .i64 2] w fun e w' => e = .returned (.tuple #[.agg #[fv 52, fv 53], .bool true]) ∧ w' = w.alloc (.cells #[fv 52, fv 53] 71) := by
  have c0 : w.cell? ⟨g, 4, none⟩ = some (fv 52) := (cell_of h).trans rfl
  have c1 : w.cell? ⟨g, 5, none⟩ = some (fv 53) := (cell_of h).trans rfl
  have hlt := lt_of_heap h
  clear h
  go_enter Try.func22, Try.ntmps22
  go_wp2
  exact bodyPost_ret (v := .tuple #[.agg #[fv 52, fv 53], .bool true]) (by simp [results, Try.results22, go_sem]) rfl ⟨rfl, rfl⟩
set_option maxRecDepth 20000 in
set_option maxHeartbeats 1000000 in
theorem pfind_3 (g : Nat) (w : World) (h : w.heap[g]? = some (.cells pRow 71 (0, 0))) :
    Calls Try.prog 22 #[.slice (some ⟨g, 0, none⟩) 7 7, .int .i64 3] w fun e w' => e = .returned (.tuple #[.agg #[fv 46, fv 47], .bool true]) ∧ w' = w.alloc (.cells #[fv 46, fv 47] 71) := by
  have c0 : w.cell? ⟨g, 6, none⟩ = some (fv 46) := (cell_of h).trans rfl
  have c1 : w.cell? ⟨g, 7, none⟩ = some (fv 47) := (cell_of h).trans rfl
  have hlt := lt_of_heap h
  clear h
  go_enter Try.func22, Try.ntmps22
  go_wp2
  exact bodyPost_ret (v := .tuple #[.agg #[fv 46, fv 47], .bool true]) (by simp [results, Try.results22, go_sem]) rfl ⟨rfl, rfl⟩
set_option maxRecDepth 20000 in
set_option maxHeartbeats 1000000 in
theorem pfind_4 (g : Nat) (w : World) (h : w.heap[g]? = some (.cells pRow 71 (0, 0))) :
    Calls Try.prog 22 #[.slice (some ⟨g, 0, none⟩) 7 7, .int .i64 4] w fun e w' => e = .returned (.tuple #[.agg #[fv 54, fv 55], .bool true]) ∧ w' = w.alloc (.cells #[fv 54, fv 55] 71) := by
  have c0 : w.cell? ⟨g, 8, none⟩ = some (fv 54) := (cell_of h).trans rfl
  have c1 : w.cell? ⟨g, 9, none⟩ = some (fv 55) := (cell_of h).trans rfl
  have hlt := lt_of_heap h
  clear h
  go_enter Try.func22, Try.ntmps22
  go_wp2
  exact bodyPost_ret (v := .tuple #[.agg #[fv 54, fv 55], .bool true]) (by simp [results, Try.results22, go_sem]) rfl ⟨rfl, rfl⟩
set_option maxRecDepth 20000 in
set_option maxHeartbeats 1000000 in
theorem pfind_5 (g : Nat) (w : World) (h : w.heap[g]? = some (.cells pRow 71 (0, 0))) :
    Calls Try.prog 22 #[.slice (some ⟨g, 0, none⟩) 7 7, .int .i64 5] w fun e w' => e = .returned (.tuple #[.agg #[fv 46, fv 47], .bool true]) ∧ w' = w.alloc (.cells #[fv 46, fv 47] 71) := by
  have c0 : w.cell? ⟨g, 10, none⟩ = some (fv 46) := (cell_of h).trans rfl
  have c1 : w.cell? ⟨g, 11, none⟩ = some (fv 47) := (cell_of h).trans rfl
  have hlt := lt_of_heap h
  clear h
  go_enter Try.func22, Try.ntmps22
  go_wp2
  exact bodyPost_ret (v := .tuple #[.agg #[fv 46, fv 47], .bool true]) (by simp [results, Try.results22, go_sem]) rfl ⟨rfl, rfl⟩
set_option maxRecDepth 20000 in
set_option maxHeartbeats 1000000 in
theorem pfind_6 (g : Nat) (w : World) (h : w.heap[g]? = some (.cells pRow 71 (0, 0))) :
    Calls Try.prog 22 #[.slice (some ⟨g, 0, none⟩) 7 7, .int .i64 6] w fun e w' => e = .returned (.tuple #[.agg #[fv 56, fv 57], .bool true]) ∧ w' = w.alloc (.cells #[fv 56, fv 57] 71) := by
  have c0 : w.cell? ⟨g, 12, none⟩ = some (fv 56) := (cell_of h).trans rfl
  have c1 : w.cell? ⟨g, 13, none⟩ = some (fv 57) := (cell_of h).trans rfl
  have hlt := lt_of_heap h
  clear h
  go_enter Try.func22, Try.ntmps22
  go_wp2
  exact bodyPost_ret (v := .tuple #[.agg #[fv 56, fv 57], .bool true]) (by simp [results, Try.results22, go_sem]) rfl ⟨rfl, rfl⟩
end Go.Proofs.Ytgdaaohlongmlaa
