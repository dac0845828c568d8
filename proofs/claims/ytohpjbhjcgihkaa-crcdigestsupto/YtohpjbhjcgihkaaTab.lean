/- The program's table: what registers of the values 0 to 255 become by the byte 0; nothing that was there before is turned. -/
import Derived.Test.YtohpjbhjcgihkaaRow
namespace Go.Proofs.Ytohpjbhjcgihkaa
open Go.RowKit
theorem Try.infoTab : (Try.prog.info? 32).map (fun i => (i.zero, i.size)) = some (some (.agg (Array.replicate 256 (.int .u32 0))), 256) := by kernel_rfl
/-- The table's first K elements stand. -/
def Upto (c : Array Value) (K : Nat) : Prop := c.size = 256 ∧ (∀ i, i < K → c[i]? = some (.int .u32 (M.mvN 8 i : Nat))) ∧ ∀ v ∈ c, v.oneCell' = true
theorem Upto.step {c : Array Value} {K : Nat} (h : Upto c K) (hK : K < 256) {v : Value} (hv : v = .int .u32 (M.mvN 8 K : Nat)) : Upto (c.setIfInBounds K v) (K + 1) := by
  obtain ⟨h1, h2, h3⟩ := h
  refine ⟨by simpa using h1, ?_, ?_⟩
  · intro i hi
    rw [Array.getElem?_setIfInBounds]
    by_cases he : K = i
    · subst he
      rw [if_pos rfl, if_pos (by omega), hv]
    · rw [if_neg he]; exact h2 i (by omega)
  · intro u hu
    rcases Array.mem_or_eq_of_mem_setIfInBounds hu with h | h
    · exact h3 u h
    · rw [h, hv]; rfl
set_option maxHeartbeats 4000000 in
set_option maxRecDepth 1000000 in
theorem table_any (w : World) :
    Calls Try.prog 20 #[] w fun e w' => ∃ c, e = .returned (.agg c) ∧ Upto c 256 ∧ Below w.heap.size w w' := by
  have hv := (zero_of_info Try.infoTab).1
  have hi := (zero_of_info Try.infoTab).2
  go_enter Try.func20, Try.ntmps20
  go_wp2
  have hz : Upto (Array.replicate 256 (.int .u32 0)) 1 := by
    refine ⟨by simp, ?_, ?_⟩
    · intro i h
      obtain rfl : i = 0 := by omega
      rfl
    · intro v hv
      rw [Array.mem_replicate] at hv
      rw [hv.2]; rfl
  have hzs : (Array.replicate 256 (Value.int .u32 0)).size = 256 := by simp
  generalize Array.replicate 256 (Value.int .u32 0) = z at *
  go_loopg [2] 8 (fun k u wr => ∃ c : Array Value, k ≤ 8 ∧ u = .int .i64 (2 ^ (8 - k) : Nat) ∧ Upto c (2 ^ (8 - k)) ∧ wr = (w.alloc (.cells z 32)).alloc (.cells c 32))
  case atStart => exact ⟨z, by omega, rfl, hz, rfl⟩
  case round =>
    obtain ⟨c, hk, rfl, hU, rfl⟩ := hrel
    by_cases h0 : gk = 0
    · subst h0
      have hU2 : Upto c 256 := hU
      have W2 : Hid (Below w.heap.size w (((w.alloc (.cells z 32)).alloc (.cells c 32)).setRow w.heap.size c)) := bel_setRow (((Below.refl _ w).alloc (Nat.le_refl _) _).alloc (by simp) _) (Nat.le_refl _) c
      have hg0 : ((w.alloc (.cells z 32)).alloc (.cells c 32)).heap[w.heap.size]? = some (.cells z 32 (0, 0)) := heap_alloc_at (heap_new w _)
      have hg1 : ((w.alloc (.cells z 32)).alloc (.cells c 32)).heap[w.heap.size + 1]? = some (.cells c 32 (0, 0)) := heap_new' _ _ _ (by simp)
      have hu : Try.prog.underlying 32 = some (.array 256 23) := by kernel_rfl
      have hsz : (Try.prog.info? 32).map (·.size) = some c.size := by rw [hU2.1]; exact hi
      have hld := load_row hg1 hu hsz
      have hst := store_row hg0 hsz (by rw [hU2.1]; exact hzs) hU2.2.2
      have hg2 := setRow_heap _ _ _ c _ _ hg0
      generalize (w.alloc (.cells z 32)).alloc (.cells c 32) = W at *
      have hld2 := run_loadVar_row _ _ _ _ _ _ _ hg2 hu rfl hsz
      generalize W.setRow w.heap.size c = V at *
      clear hg0 hg1 hg2 hv
      go_upto_region 11 with fail
      go_step
      go_step
      refine oper_load rfl hld ?_
      go_step
      go_step
      refine oper_store rfl hst ?_
      go_wp2
      exact bodyPost_ret (v := .agg c) (results_ptr rfl rfl hld2) rfl ⟨c, rfl, hU2, W2⟩
    · obtain ⟨g, rfl⟩ : ∃ g, gk = g + 1 := ⟨gk - 1, by omega⟩
      obtain ⟨p, hp⟩ : ∃ p, p = 2 ^ (8 - (g + 1)) := ⟨_, rfl⟩
      have hp1 : 1 ≤ p := by rw [hp]; exact Nat.pow_pos (by omega)
      have hp2 : p ≤ 128 := by
        rw [hp]; exact Nat.pow_le_pow_right (n := 2) (i := 8 - (g + 1)) (j := 7) (by omega) (by omega)
      have HP : Hid (p = 2 ^ (8 - (g + 1))) := hp
      have HT : Hid (∀ j, j < p → M.mvN 8 (p + j) = M.mvN 8 p ^^^ M.mvN 8 j) := by
        intro j hj
        rw [hp]; rw [hp] at hj; exact M.tab_step hj
      have hpl := M.mvN_lt 8 (r := p) (by omega)
      rw [← hp] at hU
      rw [← hp]
      clear hp
      have hU' : Upto c (p + 0) := hU
      clear hU
      have hon := on_any p 8 ((w.alloc (.cells z 32)).alloc (.cells c 32)) (by omega) (by omega)
      have hw1 : (p : Int) % 4294967296 = p := by omega
      go_wp2_with fail
      refine hon.mono ?_
      rintro e w1 ⟨rfl, rfl⟩
      go_wp2_with fail
      go_loopg [13] p (fun k u wr => ∃ (c : Array Value) (j : Nat), j + k = p ∧ u = .int .i64 j ∧ Upto c (p + j) ∧ wr = (w.alloc (.cells z 32)).alloc (.cells c 32))
      case atStart => exact ⟨c, 0, by omega, rfl, hU', rfl⟩
      case round =>
        clear hU' hon
        obtain ⟨c, j, hj, rfl, hU, rfl⟩ := hrel
        by_cases hlt : j < p
        · obtain ⟨k, rfl⟩ : ∃ k, gk = k + 1 := ⟨gk - 1, by omega⟩
          have hcell : ((w.alloc (.cells z 32)).alloc (.cells c 32)).cell? ⟨w.heap.size + 1, j, none⟩ = some (.int .u32 (M.mvN 8 j : Nat)) :=
            (cell_of (heap_new' (w.alloc (.cells z 32)) (.cells c 32) _ (by simp))).trans (hU.2.1 j (by omega))
          have hjl := M.mvN_lt 8 (r := j) (by omega)
          have hx := xor_nat hpl hjl
          rw [← HT.out j hlt] at hx
          have hUs := hU.step (by omega) rfl
          have hcj : c[j]? = some (.int .u32 (M.mvN 8 j : Nat)) := hU.2.1 j (by omega)
          obtain ⟨v0, hv0⟩ : ∃ v0, c[p + j]? = some v0 := ⟨c[p + j]'(by rw [hU.1]; omega), Array.getElem?_eq_getElem _⟩
          go_wp2_with fail
          go_roundg k
          case measure => omega
          case rel => exact ⟨_, j + 1, by omega, by first | rfl | simp, hUs, by first | rfl | simp⟩
        · obtain rfl : j = p := by omega
          go_wp2_with fail
          go_roundg g
          case measure => omega
          case rel =>
            have e : 2 ^ (8 - g) = j + j := by
              rw [HP.out, ← Nat.two_mul, ← Nat.pow_succ']; congr 1; omega
            rw [e]
            exact ⟨c, by omega, by first | rfl | (congr 1; omega), hU, rfl⟩
end Go.Proofs.Ytohpjbhjcgihkaa
