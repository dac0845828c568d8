/- CrcTable's walk: the table is the document's, and what is written into one answer is not seen in the next; nothing that was there before is turned. -/
import Derived.Test.YtohpjbhjcgihkaaRTab
import Derived.Deep.RegionHeld3
namespace Go.Proofs.Ytohpjbhjcgihkaa
open Go.RowKit
def Keeps (w : World) (b : Nat) (l : List Value) (x : World) : Prop := x.heap[b]? = some (.cells l.toArray 32 (0, 0)) ∧ Below w.heap.size w x
theorem keep_range {w x : World} {b : Nat} {l : List Value} (h : Keeps w b l x) : x.rangeAt b 0 l ∧ Keeps w b l x :=
  ⟨fun j v hv => by rw [Nat.zero_add, cell_of h.1]; simpa using hv, h⟩
theorem keep_next {w x y : World} {b : Nat} {l : List Value} (h : Keeps w b l x) (k : Below x.heap.size x y) : Keeps w b l y :=
  ⟨(k.block b (lt_of_heap h.1)).trans h.1, bel_bel h.2 k h.2.size⟩
theorem keep_drew {w x : World} {b : Nat} {l : List Value} (h : Keeps w b l x) : Keeps w b l x.drew := ⟨h.1, h.2.drew⟩
set_option maxHeartbeats 4000000 in
set_option maxRecDepth 1000000 in
theorem tab_walk (w : World) :
    Calls Try.prog 6 #[] w fun e w' => e = .returned (.bool true) ∧ Below w.heap.size w w' := by
  have hv := (zero_of_info Try.infoTab).1
  have hi := (zero_of_info Try.infoTab).2
  go_enter Try.func6, Try.ntmps6
  go_wp2_with fail
  refine (awake_any w).mono ?_
  rintro e w1 ⟨rfl, hb1⟩
  go_wp2_with fail
  refine (table_any w1).mono ?_
  rintro e w2 ⟨c, rfl, hU, k2⟩
  obtain ⟨l, rfl⟩ : ∃ l : List Value, c = l.toArray := ⟨c.toList, by simp⟩
  have hb2 := bel_bel hb1 k2 hb1.size
  have hsz := hU.1
  have hsc := run_storeCells_new (P := Try.prog) w2 32 (Array.replicate 256 (.int .u32 0)) l.toArray (by rw [hsz]; exact hi) (by simp [hsz]) (Array.all_eq_true_iff_forall_mem.2 hU.2.2)
  have HU : Hid (Upto l.toArray 256) := hU
  clear hU k2 hb1
  go_upto_region 4 with fail
  clear hsc hv
  have hb3 : Below w.heap.size w (w2.alloc (.cells l.toArray 32)) := hb2.alloc hb2.size _
  have hp := hb2.size
  have hg : (w2.alloc (.cells l.toArray 32)).heap[w2.heap.size]? = some (.cells l.toArray 32 (0, 0)) := heap_new _ _
  generalize w2.alloc (.cells l.toArray 32) = V at *
  generalize w2.heap.size = b at *
  have hK : Keeps w b l V := ⟨hg, hb3⟩
  have hu : Try.prog.underlying 32 = some (.array 256 23) := by kernel_rfl
  have hln : l.length = 256 := by simpa using hsz
  have hi2 : (Try.prog.info? 32).map (·.size) = some l.length := by rw [hln]; exact hi
  have h1c : ∀ v ∈ l, v.oneCell' = true := fun v hv => HU.out.2.2 v (by simpa using hv)
  have hne := fun x => neq_tab HU.out x
  have hgu := fun x y v => guard_neq l.toArray l.toArray x y v
  have hsz9 := hsz
  clear hsz hb2 hb3 hg hi
  go_region_held (fun x => x.rangeAt b 0 l ∧ Keeps w b l x) (first | exact keep_range (by assumption) | exact keep_range (keep_drew (by assumption))) ((go_at_call 21; refine (rtable_any _).mono ?_; rintro e w' ⟨c', rfl, hU', hb'⟩; obtain rfl : c' = l.toArray := hU'.uniq HU.out; have hK' := keep_next (keep_drew hK) hb'))
  rename_i hK'
  clear hK
  obtain ⟨_, hg, hb⟩ := hK'
  clear hne hgu hu hi2 h1c
  go_wp2_with fail
  go_loopg [2] 256 (fun k u wr => ∃ (c : Array Value) (j : Nat), j + k = 256 ∧ u = .int .i64 j ∧ c.size = 256 ∧ wr.heap[b]? = some (.cells c 32 (0, 0)) ∧ Below w.heap.size w wr)
  case atStart => exact ⟨l.toArray, 0, by omega, rfl, hsz9, hg, hb⟩
  case round =>
    clear hg hb
    obtain ⟨c, j, hk, rfl, hcs, hg, hb⟩ := hrel
    by_cases hlt : j < 256
    · obtain ⟨k, rfl⟩ : ∃ k, gk = k + 1 := ⟨gk - 1, by omega⟩
      have hlt' : (j : Int) < 256 := by omega
      obtain ⟨v0, hv0⟩ : ∃ v0, c[j]? = some v0 := ⟨c[j]'(by omega), Array.getElem?_eq_getElem _⟩
      have hcell := (cell_of (i := j) hg).trans hv0
      have hfz := froz_of (i := j) hg
      have hg2 := heap_set (i := j) (v := .int .u32 7) hg
      have hb2 := hb.setCell (p := ⟨b, j, none⟩) hp (.int .u32 7)
      clear hg hb
      go_wp2_with fail
      go_roundg k
      case measure => omega
      case rel => exact ⟨_, j + 1, by omega, by first | rfl | simp, by simpa using hcs, hg2, hb2⟩
    · have hlt' : ¬ (j : Int) < 256 := by omega
      clear hg
      go_wp2_with fail
      refine (table_any wr).mono ?_
      rintro e w3 ⟨c3, rfl, hU3, k3⟩
      have hb3 := bel_bel hb k3 hb.size
      clear k3
      go_wp2_with fail
      refine (rtable_any w3).mono ?_
      rintro e w4 ⟨c4, rfl, hU4, k4⟩
      have hb4 := bel_bel hb3 k4 hb3.size
      obtain rfl : c4 = c3 := hU4.uniq hU3
      have heq : (Op.equalIn 10000 32 (.agg c4) (.agg c4)).run Try.prog w4 = .ok true w4 := eq_tab hU4 w4
      have hgq := fun x y v => guard_eql c4 c4 x y v
      clear k4 hU3 hU4
      go_wp2_with fail
      have c1 := sum_any ⟨#[49, 50, 51, 52, 53, 54, 55, 56, 57]⟩ w4 (show 9 ≤ _ by omega)
      rw [show M.more 0 (ByteArray.mk #[49, 50, 51, 52, 53, 54, 55, 56, 57]).data.toList = 3808858755 from s9] at c1
      refine c1.mono ?_
      rintro e w5 ⟨rfl, k5⟩
      have hb5 := bel_bel hb4 k5 hb4.size
      clear k5 c1 heq hgq hb3 hb4
      go_wp2_with fail
      go_ret
      exact ⟨rfl, hb5⟩
end Go.Proofs.Ytohpjbhjcgihkaa
