/- The tables of layer 17: how the fields of each kind are written and read. -/
import Derived.Test.YtgdaaohlongmlaaGreatRmD
import Derived.Test.YtgdaaohlongmlaaGreatSz
import Derived.Deep.DeepCutAuto
import Derived.Laws.EntriesVeiled
namespace Go.Proofs.YtgdaaohlongmlaaGreat
open Go.RowKit
/-- A function value without anything caught. -/
abbrev fv (n : Nat) : Value := .func (.func n) #[] #[]
theorem hd_alloc {w : World} {b : Nat} {o o' : Obj} (h : w.heap[b]? = some o) : (w.alloc o').heap[b]? = some o := heap_alloc_at h
theorem hd_drew {w : World} {b : Nat} {o : Obj} (h : w.heap[b]? = some o) : w.drew.heap[b]? = some o := h
/-- The table of proto.requests. -/
abbrev qRow : Array Value := #[.nilFunc, .nilFunc, fv 47, fv 49, fv 51, fv 53, fv 55, fv 56, fv 45, fv 46, fv 57, fv 58, fv 45, fv 46]
set_option maxRecDepth 20000 in
theorem qtable_any (w : World) :
    Calls Tryz.prog 19 #[] w fun e w' => e = .returned (.slice (some ⟨w.heap.size + 1, 0, none⟩) 7 7) ∧ w' = (w.alloc (.cells #[fv 45, fv 46] 45)).alloc (.cells qRow 45) := by
  go_enter Tryz.func19, Tryz.ntmps19
  go_wp2
  go_ret
  exact ⟨rfl, rfl⟩
set_option maxRecDepth 20000 in
set_option maxHeartbeats 1000000 in
theorem qfind_no (g : Nat) (v : Int) (w : World) (hv : ¬ (1 ≤ v ∧ v ≤ 6)) :
    Calls Tryz.prog 18 #[.slice (some ⟨g, 0, none⟩) 7 7, .int .i64 v] w fun e w' => e = .returned (.tuple #[.agg #[.nilFunc, .nilFunc], .bool false]) ∧ w' = w.alloc (.cells #[.nilFunc, .nilFunc] 45) := by
  by_cases h0 : v ≤ 0
  · go_enter Tryz.func18, Tryz.ntmps18
    go_wp2
    exact bodyPost_ret (v := .tuple #[.agg #[.nilFunc, .nilFunc], .bool false]) (by simp [results, Tryz.results18, go_sem]) rfl ⟨rfl, rfl⟩
  · have h7 : 7 ≤ v := by omega
    go_enter Tryz.func18, Tryz.ntmps18
    go_wp2
    exact bodyPost_ret (v := .tuple #[.agg #[.nilFunc, .nilFunc], .bool false]) (by simp [results, Tryz.results18, go_sem]) rfl ⟨rfl, rfl⟩
set_option maxRecDepth 20000 in
set_option maxHeartbeats 1000000 in
theorem qfind_1 (g : Nat) (w : World) (h : w.heap[g]? = some (.cells qRow 45 (0, 0))) :
    Calls Tryz.prog 18 #[.slice (some ⟨g, 0, none⟩) 7 7, .int .i64 1] w fun e w' => e = .returned (.tuple #[.agg #[fv 47, fv 49], .bool true]) ∧ w' = w.alloc (.cells #[fv 47, fv 49] 45) := by
  have c0 : w.cell? ⟨g, 2, none⟩ = some (fv 47) := (cell_of h).trans rfl
  have c1 : w.cell? ⟨g, 3, none⟩ = some (fv 49) := (cell_of h).trans rfl
  have hlt := lt_of_heap h
  clear h
  go_enter Tryz.func18, Tryz.ntmps18
  go_wp2
  exact bodyPost_ret (v := .tuple #[.agg #[fv 47, fv 49], .bool true]) (by simp [results, Tryz.results18, go_sem]) rfl ⟨rfl, rfl⟩
set_option maxRecDepth 20000 in
set_option maxHeartbeats 1000000 in
theorem qfind_2 (g : Nat) (w : World) (h : w.heap[g]? = some (.cells qRow 45 (0, 0))) :
    Calls Tryz.prog 18 #[.slice (some ⟨g, 0, none⟩) 7 7, .int .i64 2] w fun e w' => e = .returned (.tuple #[.agg #[fv 51, fv 53], .bool true]) ∧ w' = w.alloc (.cells #[fv 51, fv 53] 45) := by
  have c0 : w.cell? ⟨g, 4, none⟩ = some (fv 51) := (cell_of h).trans rfl
  have c1 : w.cell? ⟨g, 5, none⟩ = some (fv 53) := (cell_of h).trans rfl
  have hlt := lt_of_heap h
  clear h
  go_enter Tryz.func18, Tryz.ntmps18
  go_wp2
  exact bodyPost_ret (v := .tuple #[.agg #[fv 51, fv 53], .bool true]) (by simp [results, Tryz.results18, go_sem]) rfl ⟨rfl, rfl⟩
set_option maxRecDepth 20000 in
set_option maxHeartbeats 1000000 in
theorem qfind_3 (g : Nat) (w : World) (h : w.heap[g]? = some (.cells qRow 45 (0, 0))) :
    Calls Tryz.prog 18 #[.slice (some ⟨g, 0, none⟩) 7 7, .int .i64 3] w fun e w' => e = .returned (.tuple #[.agg #[fv 55, fv 56], .bool true]) ∧ w' = w.alloc (.cells #[fv 55, fv 56] 45) := by
  have c0 : w.cell? ⟨g, 6, none⟩ = some (fv 55) := (cell_of h).trans rfl
  have c1 : w.cell? ⟨g, 7, none⟩ = some (fv 56) := (cell_of h).trans rfl
  have hlt := lt_of_heap h
  clear h
  go_enter Tryz.func18, Tryz.ntmps18
  go_wp2
  exact bodyPost_ret (v := .tuple #[.agg #[fv 55, fv 56], .bool true]) (by simp [results, Tryz.results18, go_sem]) rfl ⟨rfl, rfl⟩
set_option maxRecDepth 20000 in
set_option maxHeartbeats 1000000 in
theorem qfind_4 (g : Nat) (w : World) (h : w.heap[g]? = some (.cells qRow 45 (0, 0))) :
    Calls Tryz.prog 18 #[.slice (some ⟨g, 0, none⟩) 7 7, .int .i64 4] w fun e w' => e = .returned (.tuple #[.agg #[fv 45, fv 46], .bool true]) ∧ w' = w.alloc (.cells #[fv 45, fv 46] 45) := by
  have c0 : w.cell? ⟨g, 8, none⟩ = some (fv 45) := (cell_of h).trans rfl
  have c1 : w.cell? ⟨g, 9, none⟩ = some (fv 46) := (cell_of h).trans rfl
  have hlt := lt_of_heap h
  clear h
  go_enter Tryz.func18, Tryz.ntmps18
  go_wp2
  exact bodyPost_ret (v := .tuple #[.agg #[fv 45, fv 46], .bool true]) (by simp [results, Tryz.results18, go_sem]) rfl ⟨rfl, rfl⟩
set_option maxRecDepth 20000 in
set_option maxHeartbeats 1000000 in
theorem qfind_5 (g : Nat) (w : World) (h : w.heap[g]? = some (.cells qRow 45 (0, 0))) :
    Calls Tryz.prog 18 #[.slice (some ⟨g, 0, none⟩) 7 7, .int .i64 5] w fun e w' => e = .returned (.tuple #[.agg #[fv 57, fv 58], .bool true]) ∧ w' = w.alloc (.cells #[fv 57, fv 58] 45) := by
  have c0 : w.cell? ⟨g, 10, none⟩ = some (fv 57) := (cell_of h).trans rfl
  have c1 : w.cell? ⟨g, 11, none⟩ = some (fv 58) := (cell_of h).trans rfl
  have hlt := lt_of_heap h
  clear h
  go_enter Tryz.func18, Tryz.ntmps18
  go_wp2
  exact bodyPost_ret (v := .tuple #[.agg #[fv 57, fv 58], .bool true]) (by simp [results, Tryz.results18, go_sem]) rfl ⟨rfl, rfl⟩
set_option maxRecDepth 20000 in
set_option maxHeartbeats 1000000 in
theorem qfind_6 (g : Nat) (w : World) (h : w.heap[g]? = some (.cells qRow 45 (0, 0))) :
    Calls Tryz.prog 18 #[.slice (some ⟨g, 0, none⟩) 7 7, .int .i64 6] w fun e w' => e = .returned (.tuple #[.agg #[fv 45, fv 46], .bool true]) ∧ w' = w.alloc (.cells #[fv 45, fv 46] 45) := by
  have c0 : w.cell? ⟨g, 12, none⟩ = some (fv 45) := (cell_of h).trans rfl
  have c1 : w.cell? ⟨g, 13, none⟩ = some (fv 46) := (cell_of h).trans rfl
  have hlt := lt_of_heap h
  clear h
  go_enter Tryz.func18, Tryz.ntmps18
  go_wp2
  exact bodyPost_ret (v := .tuple #[.agg #[fv 45, fv 46], .bool true]) (by simp [results, Tryz.results18, go_sem]) rfl ⟨rfl, rfl⟩
/-- The table of proto.replies. -/
abbrev pRow : Array Value := #[.nilFunc, .nilFunc, fv 67, fv 69, fv 71, fv 72, fv 65, fv 66, fv 73, fv 74, fv 65, fv 66, fv 75, fv 76]
set_option maxRecDepth 20000 in
theorem ptable_any (w : World) :
    Calls Tryz.prog 29 #[] w fun e w' => e = .returned (.slice (some ⟨w.heap.size + 1, 0, none⟩) 7 7) ∧ w' = (w.alloc (.cells #[fv 65, fv 66] 72)).alloc (.cells pRow 72) := by
  go_enter Tryz.func29, Tryz.ntmps29
  go_wp2
  go_ret
  exact ⟨rfl, rfl⟩
set_option maxRecDepth 20000 in
set_option maxHeartbeats 1000000 in
theorem pfind_no (g : Nat) (v : Int) (w : World) (hv : ¬ (1 ≤ v ∧ v ≤ 6)) :
    Calls Tryz.prog 28 #[.slice (some ⟨g, 0, none⟩) 7 7, .int .i64 v] w fun e w' => e = .returned (.tuple #[.agg #[.nilFunc, .nilFunc], .bool false]) ∧ w' = w.alloc (.cells #[.nilFunc, .nilFunc] 72) := by
  by_cases h0 : v ≤ 0
  · go_enter Tryz.func28, Tryz.ntmps28
    go_wp2
    exact bodyPost_ret (v := .tuple #[.agg #[.nilFunc, .nilFunc], .bool false]) (by simp [results, Tryz.results28, go_sem]) rfl ⟨rfl, rfl⟩
  · have h7 : 7 ≤ v := by omega
    go_enter Tryz.func28, Tryz.ntmps28
    go_wp2
    exact bodyPost_ret (v := .tuple #[.agg #[.nilFunc, .nilFunc], .bool false]) (by simp [results, Tryz.results28, go_sem]) rfl ⟨rfl, rfl⟩
set_option maxRecDepth 20000 in
set_option maxHeartbeats 1000000 in
theorem pfind_1 (g : Nat) (w : World) (h : w.heap[g]? = some (.cells pRow 72 (0, 0))) :
    Calls Tryz.prog 28 #[.slice (some ⟨g, 0, none⟩) 7 7, .int .i64 1] w fun e w' => e = .returned (.tuple #[.agg #[fv 67, fv 69], .bool true]) ∧ w' = w.alloc (.cells #[fv 67, fv 69] 72) := by
  have c0 : w.cell? ⟨g, 2, none⟩ = some (fv 67) := (cell_of h).trans rfl
  have c1 : w.cell? ⟨g, 3, none⟩ = some (fv 69) := (cell_of h).trans rfl
  have hlt := lt_of_heap h
  clear h
  go_enter Tryz.func28, Tryz.ntmps28
  go_wp2
  exact bodyPost_ret (v := .tuple #[.agg #[fv 67, fv 69], .bool true]) (by simp [results, Tryz.results28, go_sem]) rfl ⟨rfl, rfl⟩
set_option maxRecDepth 20000 in
set_option maxHeartbeats 1000000 in
theorem pfind_2 (g : Nat) (w : World) (h : w.heap[g]? = some (.cells pRow 72 (0, 0))) :
    Calls Tryz.prog 28 #[.slice (some ⟨g, 0, none⟩) 7 7, .int .i64 2] w fun e w' => e = .returned (.tuple #[.agg #[fv 71, fv 72], .bool true]) ∧ w' = w.alloc (.cells #[fv 71, fv 72] 72) := by
  have c0 : w.cell? ⟨g, 4, none⟩ = some (fv 71) := (cell_of h).trans rfl
  have c1 : w.cell? ⟨g, 5, none⟩ = some (fv 72) := (cell_of h).trans rfl
  have hlt := lt_of_heap h
  clear h
  go_enter Tryz.func28, Tryz.ntmps28
  go_wp2
  exact bodyPost_ret (v := .tuple #[.agg #[fv 71, fv 72], .bool true]) (by simp [results, Tryz.results28, go_sem]) rfl ⟨rfl, rfl⟩
set_option maxRecDepth 20000 in
set_option maxHeartbeats 1000000 in
theorem pfind_3 (g : Nat) (w : World) (h : w.heap[g]? = some (.cells pRow 72 (0, 0))) :
    Calls Tryz.prog 28 #[.slice (some ⟨g, 0, none⟩) 7 7, .int .i64 3] w fun e w' => e = .returned (.tuple #[.agg #[fv 65, fv 66], .bool true]) ∧ w' = w.alloc (.cells #[fv 65, fv 66] 72) := by
  have c0 : w.cell? ⟨g, 6, none⟩ = some (fv 65) := (cell_of h).trans rfl
  have c1 : w.cell? ⟨g, 7, none⟩ = some (fv 66) := (cell_of h).trans rfl
  have hlt := lt_of_heap h
  clear h
  go_enter Tryz.func28, Tryz.ntmps28
  go_wp2
  exact bodyPost_ret (v := .tuple #[.agg #[fv 65, fv 66], .bool true]) (by simp [results, Tryz.results28, go_sem]) rfl ⟨rfl, rfl⟩
set_option maxRecDepth 20000 in
set_option maxHeartbeats 1000000 in
theorem pfind_4 (g : Nat) (w : World) (h : w.heap[g]? = some (.cells pRow 72 (0, 0))) :
    Calls Tryz.prog 28 #[.slice (some ⟨g, 0, none⟩) 7 7, .int .i64 4] w fun e w' => e = .returned (.tuple #[.agg #[fv 73, fv 74], .bool true]) ∧ w' = w.alloc (.cells #[fv 73, fv 74] 72) := by
  have c0 : w.cell? ⟨g, 8, none⟩ = some (fv 73) := (cell_of h).trans rfl
  have c1 : w.cell? ⟨g, 9, none⟩ = some (fv 74) := (cell_of h).trans rfl
  have hlt := lt_of_heap h
  clear h
  go_enter Tryz.func28, Tryz.ntmps28
  go_wp2
  exact bodyPost_ret (v := .tuple #[.agg #[fv 73, fv 74], .bool true]) (by simp [results, Tryz.results28, go_sem]) rfl ⟨rfl, rfl⟩
set_option maxRecDepth 20000 in
set_option maxHeartbeats 1000000 in
theorem pfind_5 (g : Nat) (w : World) (h : w.heap[g]? = some (.cells pRow 72 (0, 0))) :
    Calls Tryz.prog 28 #[.slice (some ⟨g, 0, none⟩) 7 7, .int .i64 5] w fun e w' => e = .returned (.tuple #[.agg #[fv 65, fv 66], .bool true]) ∧ w' = w.alloc (.cells #[fv 65, fv 66] 72) := by
  have c0 : w.cell? ⟨g, 10, none⟩ = some (fv 65) := (cell_of h).trans rfl
  have c1 : w.cell? ⟨g, 11, none⟩ = some (fv 66) := (cell_of h).trans rfl
  have hlt := lt_of_heap h
  clear h
  go_enter Tryz.func28, Tryz.ntmps28
  go_wp2
  exact bodyPost_ret (v := .tuple #[.agg #[fv 65, fv 66], .bool true]) (by simp [results, Tryz.results28, go_sem]) rfl ⟨rfl, rfl⟩
set_option maxRecDepth 20000 in
set_option maxHeartbeats 1000000 in
theorem pfind_6 (g : Nat) (w : World) (h : w.heap[g]? = some (.cells pRow 72 (0, 0))) :
    Calls Tryz.prog 28 #[.slice (some ⟨g, 0, none⟩) 7 7, .int .i64 6] w fun e w' => e = .returned (.tuple #[.agg #[fv 75, fv 76], .bool true]) ∧ w' = w.alloc (.cells #[fv 75, fv 76] 72) := by
  have c0 : w.cell? ⟨g, 12, none⟩ = some (fv 75) := (cell_of h).trans rfl
  have c1 : w.cell? ⟨g, 13, none⟩ = some (fv 76) := (cell_of h).trans rfl
  have hlt := lt_of_heap h
  clear h
  go_enter Tryz.func28, Tryz.ntmps28
  go_wp2
  exact bodyPost_ret (v := .tuple #[.agg #[fv 75, fv 76], .bool true]) (by simp [results, Tryz.results28, go_sem]) rfl ⟨rfl, rfl⟩
end Go.Proofs.YtgdaaohlongmlaaGreat
