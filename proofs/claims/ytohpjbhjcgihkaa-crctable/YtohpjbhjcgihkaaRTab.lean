/- The document's table; two tables compared; nothing that was there before is turned. -/
import Derived.Test.YtohpjbhjcgihkaaRef
import Derived.ChangeKeysEq
namespace Go.Proofs.Ytohpjbhjcgihkaa
open Go.RowKit
theorem hid {p : Prop} (h : p) : Hid p := h
theorem Upto.uniq {c d : Array Value} (h : Upto c 256) (k : Upto d 256) : c = d := by
  apply Array.ext_getElem?
  intro i
  by_cases hi : i < 256
  · rw [h.2.1 i hi, k.2.1 i hi]
  · rw [Array.getElem?_eq_none (by rw [h.1]; omega), Array.getElem?_eq_none (by rw [k.1]; omega)]
set_option maxHeartbeats 4000000 in
set_option maxRecDepth 1000000 in
theorem rtable_any (w : World) :
    Calls Try.prog 21 #[] w fun e w' => ∃ c, e = .returned (.agg c) ∧ Upto c 256 ∧ Below w.heap.size w w' := by
  have hv := (zero_of_info Try.infoTab).1
  have hi := (zero_of_info Try.infoTab).2
  go_enter Try.func21, Try.ntmps21
  go_wp2
  have hz : Upto (Array.replicate 256 (.int .u32 0)) 0 := by
    refine ⟨by simp, by omega, ?_⟩
    intro v hv
    rw [Array.mem_replicate] at hv
    rw [hv.2]; rfl
  have hzs : (Array.replicate 256 (Value.int .u32 0)).size = 256 := by simp
  generalize Array.replicate 256 (Value.int .u32 0) = z at *
  go_loopg [2] 256 (fun k u wr => ∃ (c : Array Value) (j : Nat), j + k = 256 ∧ u = .int .i64 j ∧ Upto c j ∧ wr = (w.alloc (.cells z 32)).alloc (.cells c 32))
  case atStart => exact ⟨z, 0, by omega, rfl, hz, rfl⟩
  case round =>
    obtain ⟨c, j, hk, rfl, hU, rfl⟩ := hrel
    by_cases hlt : j < 256
    · obtain ⟨k, rfl⟩ : ∃ k, gk = k + 1 := ⟨gk - 1, by omega⟩
      have hlt' : (j : Int) < 256 := by omega
      have ct := rtake_any j 0 ((w.alloc (.cells z 32)).alloc (.cells c 32)) (by omega) (by omega)
      rw [show M.tk j 0 = M.mvN 8 j by unfold M.tk; rw [Nat.xor_zero]] at ct
      have hUs := hU.step hlt rfl
      obtain ⟨v0, hv0⟩ : ∃ v0, c[j]? = some v0 := ⟨c[j]'(by rw [hU.1]; omega), Array.getElem?_eq_getElem _⟩
      have hw1 : (j : Int) % 4294967296 = j := by omega
      generalize M.mvN 8 j = T at *
      go_wp2_with fail
      refine ct.mono ?_
      rintro e w1 ⟨rfl, rfl⟩
      go_wp2_with fail
      go_roundg k
      case measure => omega
      case rel => exact ⟨_, j + 1, by omega, by first | rfl | simp, hUs, by first | rfl | simp⟩
    · obtain rfl : j = 256 := by omega
      have hU2 : Upto c 256 := hU
      have W2 : Hid (Below w.heap.size w (((w.alloc (.cells z 32)).alloc (.cells c 32)).setRow w.heap.size c)) := bel_setRow (((Below.refl _ w).alloc (Nat.le_refl _) _).alloc (by simp) _) (Nat.le_refl _) c
      have hg0 : ((w.alloc (.cells z 32)).alloc (.cells c 32)).heap[w.heap.size]? = some (.cells z 32 (0, 0)) := heap_alloc_at (heap_new w _)
      have hg1 : ((w.alloc (.cells z 32)).alloc (.cells c 32)).heap[w.heap.size + 1]? = some (.cells c 32 (0, 0)) := heap_new' _ _ _ (by simp)
      have hu : Try.prog.underlying 32 = some (.array 256 23) := by kernel_rfl
      have hsz : (Try.prog.info? 32).map (·.size) = some c.size := by rw [hU2.1]; exact hi
      have hld := load_row hg1 hu hsz
      have hst := store_row hg0 hsz (by rw [hU2.1]; exact hzs) hU2.2.2
      have hg2 := setRow_heap _ _ _ c _ _ hg0
      generalize (w.alloc (.cells z 32)).alloc (.cells c 32) = W at *
      have hld2 := run_loadVar_row _ _ _ _ _ _ _ hg2 hu rfl hsz
      generalize W.setRow w.heap.size c = V at *
      clear hg0 hg1 hg2 hv
      go_upto_region 6 with fail
      go_step
      go_step
      refine oper_load rfl hld ?_
      go_step
      go_step
      refine oper_store rfl hst ?_
      go_wp2
      exact bodyPost_ret (v := .agg c) (results_ptr rfl rfl hld2) rfl ⟨c, rfl, hU2, W2⟩
theorem eq_int (d : Nat) (a : Int) (w : World) : (Op.equalIn (d + 1) 23 (.int .u32 a) (.int .u32 a)).run Try.prog w = .ok true w := by
  have hu : Try.prog.underlying 23 = some (.int .u32) := by kernel_rfl
  simp [Op.equalIn, run_underlying hu]
theorem eq_items {c : Array Value} (hU : Upto c 256) (w : World) : ∀ (is : List Nat), (∀ i ∈ is, i < 256) → (Op.eqItems 9999 23 (Try.prog.cellsOf 23) c c is).run Try.prog w = .ok true w
  | [], _ => by simp [Op.eqItems]
  | i :: is, h => by
    have hc : Try.prog.cellsOf 23 = 1 := by kernel_rfl
    have ih := eq_items hU w is (fun j hj => h j (List.mem_cons_of_mem _ hj))
    have hp : (part 23 c (i * Try.prog.cellsOf 23)).run Try.prog w = .ok (.int .u32 (M.mvN 8 i : Nat)) w := by
      rw [hc, Nat.mul_one]
      exact run_part_plain w (by kernel_rfl) (hU.2.1 i (h i (List.mem_cons_self ..)))
    have he : (Op.equalIn 9999 23 (.int .u32 (M.mvN 8 i : Nat)) (.int .u32 (M.mvN 8 i : Nat))).run Try.prog w = .ok true w := by
      exact eq_int 9998 _ w
    simp only [Op.eqItems, Sem.run_bind, hp, he, Result.andThen_ok]
    simpa using ih
theorem eq_tab {c : Array Value} (hU : Upto c 256) (w : World) : (Op.equal 32 (.agg c) (.agg c)).run Try.prog w = .ok true w := by
  have hu : Try.prog.underlying 32 = some (.array 256 23) := by kernel_rfl
  obtain ⟨i, hi⟩ : ∃ i, Try.prog.info? 23 = some i := info_of_underlying (show Try.prog.underlying 23 = some (.int .u32) by kernel_rfl)
  show (Op.equalIn (9999 + 1) 32 (.agg c) (.agg c)).run Try.prog w = _
  rw [run_equalIn_array w 9999 c c hu hi]
  exact eq_items hU w _ (fun i h => by simpa using h)
theorem eql_tab {c : Array Value} (hU : Upto c 256) (w : World) : (binOp .eql 32 (.agg c) (.agg c)).run Try.prog w = .ok (.bool true) w := by
  simp [binOp, eq_tab hU w, Result.andThen]
theorem neq_tab {c : Array Value} (hU : Upto c 256) (w : World) : (binOp .neq 32 (.agg c) (.agg c)).run Try.prog w = .ok (.bool false) w := by
  simp [binOp, eq_tab hU w, Result.andThen]
theorem guard_eql (c d : Array Value) (x y : Operand) (w : World) : (eqGuard .eql 32 x y (.agg c) (.agg d)).run Try.prog w = .ok () w := by
  have h : Try.prog.eqGuardType Try.prog.depth 32 = false := by kernel_rfl
  simp [eqGuard, h]
theorem guard_neq (c d : Array Value) (x y : Operand) (w : World) : (eqGuard .neq 32 x y (.agg c) (.agg d)).run Try.prog w = .ok () w := by
  have h : Try.prog.eqGuardType Try.prog.depth 32 = false := by kernel_rfl
  simp [eqGuard, h]
end Go.Proofs.Ytohpjbhjcgihkaa
