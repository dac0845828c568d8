/- The document's matrices: what n bytes 00 make of each bit of a register; nothing that was there before is turned. -/
import Derived.Test.YtohpjbhjcgihkaaRef
import Derived.Deep.RegionHeld3
namespace Go.Proofs.Ytohpjbhjcgihkaa
open Go.RowKit
/-- The first K elements of the matrix of so many moves stand. -/
def Mx (c : Array Value) (n K : Nat) : Prop := c.size = 32 ∧ (∀ i, i < K → c[i]? = some (.int .u32 (M.mvN n (2 ^ i) : Nat))) ∧ ∀ v ∈ c, v.oneCell' = true
theorem Mx.step {c : Array Value} {n K : Nat} (h : Mx c n K) (hK : K < 32) {v : Value} (hv : v = .int .u32 (M.mvN n (2 ^ K) : Nat)) : Mx (c.setIfInBounds K v) n (K + 1) := by
  obtain ⟨h1, h2, h3⟩ := h
  refine ⟨by simpa using h1, ?_, ?_⟩
  · intro i hi
    rw [Array.getElem?_setIfInBounds]
    by_cases he : K = i
    · subst he
      rw [if_pos rfl, if_pos (by omega), hv]
    · rw [if_neg he]; exact h2 i (by omega)
  · intro u hu
    rcases Array.mem_or_eq_of_mem_setIfInBounds hu with h | h
    · exact h3 u h
    · rw [h, hv]; rfl
set_option maxHeartbeats 4000000 in
set_option maxRecDepth 1000000 in
theorem of_any (c : Array Value) (n r : Nat) (w : World) (hM : Mx c n 32) (hr : r < 4294967296) :
    Calls Try.prog 33 #[.agg c, .int .u32 r] w fun e w' => e = .returned (.int .u32 (M.mvN n r : Nat)) ∧ Below w.heap.size w w' := by
  have hsz := hM.1
  have HR := M.mo_all n hr
  have HR : Hid (M.mvN n r = M.mo (fun i => M.mvN n (2 ^ i)) r 32) := HR.symm
  generalize M.mvN n r = R at *
  go_enter Try.func33, Try.ntmps33
  go_wp2_with fail
  have hb : Below w.heap.size w (w.alloc (.cells c 52)) := (Below.refl _ w).alloc (Nat.le_refl _) _
  have hg : (w.alloc (.cells c 52)).heap[w.heap.size]? = some (.cells c 52 (0, 0)) := heap_new _ _
  generalize w.alloc (.cells c 52) = V at *
  go_loopg [5, 6] 32 (fun k u v wr => ∃ (i X : Nat), i + k = 32 ∧ X < 4294967296 ∧ u = .int .u32 X ∧ v = .int .i64 i ∧ Hid (X = M.mo (fun i => M.mvN n (2 ^ i)) r i) ∧ wr = V)
  case atStart => exact ⟨0, 0, by omega, by omega, rfl, rfl, rfl, rfl⟩
  case round =>
    obtain ⟨i, X, hk, hX, rfl, rfl, HX, rfl⟩ := hrel
    by_cases hlt : i < 32
    · obtain ⟨k, rfl⟩ : ∃ k, gk = k + 1 := ⟨gk - 1, by omega⟩
      have hlt' : (i : Int) < 32 := by omega
      obtain ⟨D, hD⟩ : ∃ D, D = r / 2 ^ i := ⟨_, rfl⟩
      have hsh : (r : Int) / 2 ^ i = (D : Int) := by rw [hD]; simp
      have hDl : D < 4294967296 := by rw [hD]; exact Nat.lt_of_le_of_lt (Nat.div_le_self _ _) hr
      have ha := and_one hDl
      have hcell := (cell_of (i := i) hg).trans (hM.2.1 i hlt)
      have hml := M.mvN_lt n (M.pow32_lt hlt)
      have hx := xor_nat hX hml
      have hxl := xlt hX hml
      have HN : Hid (M.mo (fun i => M.mvN n (2 ^ i)) r (i + 1) = if D % 2 = 1 then X ^^^ M.mvN n (2 ^ i) else X) := by
        show M.mo _ r (i + 1) = _
        rw [M.mo, ← hD, ← HX.out]
      clear HX hD hM hg
      generalize X ^^^ M.mvN n (2 ^ i) = Y at *
      generalize M.mvN n (2 ^ i) = T at *
      rcases Nat.mod_two_eq_zero_or_one D with ho | ho
      · rw [ho] at ha HN
        go_wp2_with fail
        go_roundg k
        case measure => omega
        case rel => exact ⟨i + 1, X, by omega, hX, by first | rfl | simp, by first | rfl | simp, HN.out.symm, rfl⟩
      · rw [ho] at ha HN
        go_wp2_with fail
        go_roundg k
        case measure => omega
        case rel => exact ⟨i + 1, Y, by omega, hxl, by first | rfl | simp, by first | rfl | simp, HN.out.symm, rfl⟩
    · obtain rfl : i = 32 := by omega
      obtain rfl : R = X := HR.out.trans HX.out.symm
      go_wp2_with fail
      go_ret
      exact ⟨rfl, hb⟩
/-- Two matrices, one behind the other. -/
theorem Try.infoMat : (Try.prog.info? 52).map (fun i => (i.zero, i.size)) = some (some (.agg (Array.replicate 32 (.int .u32 0))), 32) := by kernel_rfl
theorem Try.underMat : Try.prog.underlying 52 = some (.array 32 23) := by kernel_rfl
/-- The blocks that the loop keeps. -/
def K3 (w : World) (c : Array Value) (l : List Value) (z : Array Value) (x : World) : Prop :=
  x.heap[w.heap.size]? = some (.cells c 52 (0, 0)) ∧ x.heap[w.heap.size + 1]? = some (.cells l.toArray 52 (0, 0)) ∧ x.heap[w.heap.size + 1 + 1]? = some (.cells z 52 (0, 0)) ∧ Below w.heap.size w x
theorem K3.next {w x y : World} {c z : Array Value} {l : List Value} (h : K3 w c l z x) (k : Below x.heap.size x y) : K3 w c l z y :=
  ⟨(k.block _ (lt_of_heap h.1)).trans h.1, (k.block _ (lt_of_heap h.2.1)).trans h.2.1, (k.block _ (lt_of_heap h.2.2.1)).trans h.2.2.1, bel_bel h.2.2.2 k h.2.2.2.size⟩
theorem K3.drew {w x : World} {c z : Array Value} {l : List Value} (h : K3 w c l z x) : K3 w c l z x.drew := ⟨h.1, h.2.1, h.2.2.1, h.2.2.2.drew⟩
theorem K3.set {w x : World} {c z : Array Value} {l : List Value} (h : K3 w c l z x) (i : Nat) (v : Value) : K3 w c l z (x.setCell ⟨w.heap.size + 1 + 1 + 1, i, none⟩ v) :=
  ⟨heap_set_far h.1 (by show _ ≠ w.heap.size + 1 + 1 + 1; omega), heap_set_far h.2.1 (by show _ ≠ w.heap.size + 1 + 1 + 1; omega), heap_set_far h.2.2.1 (by show _ ≠ w.heap.size + 1 + 1 + 1; omega), h.2.2.2.setCell (by show w.heap.size ≤ w.heap.size + 1 + 1 + 1; omega) v⟩
theorem K3.at {w x : World} {c z : Array Value} {l : List Value} {i : Nat} {v : Value} (hc : c[i]? = some v) (h : K3 w c l z x) : x.rangeAt (w.heap.size + 1) 0 l ∧ x.cell? ⟨w.heap.size, i, none⟩ = some v ∧ K3 w c l z x :=
  ⟨fun j v hv => by rw [Nat.zero_add, cell_of h.2.1]; simpa using hv, (cell_of h.1).trans hc, h⟩
set_option maxHeartbeats 4000000 in
set_option maxRecDepth 1000000 in
theorem then_any (c d : Array Value) (m n : Nat) (w : World) (hM : Mx c m 32) (hN : Mx d n 32) :
    Calls Try.prog 37 #[.agg c, .agg d] w fun e w' => ∃ z, e = .returned (.agg z) ∧ Mx z (m + n) 32 ∧ Below w.heap.size w w' := by
  have hv := (zero_of_info Try.infoMat).1
  have hi := (zero_of_info Try.infoMat).2
  have hc := hM.1
  have hd := hN.1
  have HM : Hid (Mx c m 32) := hM
  have HN : Hid (Mx d n 32) := hN
  clear hM hN
  obtain ⟨l, rfl⟩ : ∃ l : List Value, d = l.toArray := ⟨d.toList, by simp⟩
  go_enter Try.func37, Try.ntmps37
  go_wp2_with fail
  clear hc hd hv
  have hz : Mx (Array.replicate 32 (.int .u32 0)) (m + n) 0 := by
    refine ⟨by simp, by omega, ?_⟩
    intro v hv
    rw [Array.mem_replicate] at hv
    rw [hv.2]; rfl
  have hK : K3 w c l (Array.replicate 32 (.int .u32 0)) ((((w.alloc (.cells c 52)).alloc (.cells l.toArray 52)).alloc (.cells (Array.replicate 32 (.int .u32 0)) 52)).alloc (.cells (Array.replicate 32 (.int .u32 0)) 52)) :=
    ⟨heap_alloc_at (heap_alloc_at (heap_alloc_at (heap_new _ _))), heap_alloc_at (heap_alloc_at (heap_new' _ _ _ (by simp))), heap_alloc_at (heap_new' _ _ _ (by simp)), (((((Below.refl _ w).alloc (Nat.le_refl _) _).alloc (by simp) _).alloc (by simp; omega) _).alloc (by simp; omega) _)⟩
  have hE : ((((w.alloc (.cells c 52)).alloc (.cells l.toArray 52)).alloc (.cells (Array.replicate 32 (.int .u32 0)) 52)).alloc (.cells (Array.replicate 32 (.int .u32 0)) 52)).heap[w.heap.size + 1 + 1 + 1]? = some (.cells (Array.replicate 32 (.int .u32 0)) 52 (0, 0)) := heap_new' _ _ _ (by simp)
  generalize (((w.alloc (.cells c 52)).alloc (.cells l.toArray 52)).alloc (.cells (Array.replicate 32 (.int .u32 0)) 52)).alloc (.cells (Array.replicate 32 (.int .u32 0)) 52) = V at *
  have hzs : (Array.replicate 32 (Value.int .u32 0)).size = 32 := by simp
  generalize Array.replicate 32 (Value.int .u32 0) = z at *
  go_loopg [6] 32 (fun k u wr => ∃ (e : Array Value) (i : Nat), i + k = 32 ∧ u = .int .i64 i ∧ Mx e (m + n) i ∧ K3 w c l z wr ∧ wr.heap[w.heap.size + 1 + 1 + 1]? = some (.cells e 52 (0, 0)))
  case atStart => exact ⟨z, 0, by omega, rfl, hz, hK, hE⟩
  case round =>
    clear hK hE hz
    obtain ⟨e, i, hk, rfl, hMe, hK, hE⟩ := hrel
    by_cases hlt : i < 32
    · obtain ⟨k, rfl⟩ : ∃ k, gk = k + 1 := ⟨gk - 1, by omega⟩
      have hlt' : (i : Int) < 32 := by omega
      have hci := HM.out.2.1 i hlt
      have hcl := M.mvN_lt m (M.pow32_lt hlt)
      have cO := fun x => of_any l.toArray n (M.mvN m (2 ^ i)) x HN.out hcl
      have HS : Hid (Mx (e.setIfInBounds i (.int .u32 (M.mvN n (M.mvN m (2 ^ i)) : Nat))) (m + n) (i + 1)) := hMe.step hlt (by rw [M.mvN_add])
      obtain ⟨v0, hv0⟩ : ∃ v0, e[i]? = some v0 := ⟨e[i]'(by rw [hMe.1]; omega), Array.getElem?_eq_getElem _⟩
      generalize M.mvN n (M.mvN m (2 ^ i)) = T at *
      generalize M.mvN m (2 ^ i) = U at *
      have CO := cO
      have COH : Hid (∀ x, _) := CO
      clear cO CO hMe
      have HCI : Hid (c[i]? = some (.int .u32 (U : Int))) := hci
      have HV0 : Hid (e[i]? = some v0) := hv0
      have hu := Try.underMat
      have hln : l.length = 32 := by have := HN.out.1; simpa using this
      have hi2 : (Try.prog.info? 52).map (·.size) = some l.length := by rw [hln]; exact hi
      have h1c : ∀ v ∈ l, v.oneCell' = true := fun v hv => HN.out.2.2 v (by simpa using hv)
      clear hci hv0
      go_upto_region 5 with fail
      go_region_held (fun x => x.rangeAt (w.heap.size + 1) 0 l ∧ x.cell? ⟨w.heap.size, i, none⟩ = some (.int .u32 (U : Int)) ∧ K3 w c l z x) (first | exact K3.at HCI.out (by assumption) | exact K3.at HCI.out (K3.drew (by assumption)) | exact K3.at HCI.out (K3.set (by assumption) _ _)) ((go_at_call 33; refine (COH.out _).mono ?_; rintro e' w' ⟨rfl, hb'⟩; have hK' := hK.drew.next hb'; have hE' := (hb'.block _ (lt_of_heap hE)).trans hE; have hc0 := (cell_of (i := i) hE').trans HV0.out; have hf0 := froz_of (i := i) hE'))
      rename_i hHeld
      obtain ⟨_, _, hK2⟩ := hHeld
      have hE2 := heap_set (i := i) (v := .int .u32 (T : Int)) hE'
      clear hb' hc0 hf0 hK' hE' hK hE hu hi2 h1c hln COH
      go_wp2_with fail
      go_roundg k
      case measure => omega
      case rel => exact ⟨_, i + 1, by omega, by first | rfl | simp, HS, hK2, hE2⟩
    · obtain rfl : i = 32 := by omega
      have hsz : (Try.prog.info? 52).map (·.size) = some e.size := by rw [hMe.1]; exact hi
      have hld := load_row hE Try.underMat hsz
      have hst := store_row hK.2.2.1 hsz (by rw [hMe.1]; exact hzs) hMe.2.2
      have hg2 := setRow_heap _ _ _ e _ _ hK.2.2.1
      have hld2 := run_loadVar_row _ _ _ _ _ _ _ hg2 Try.underMat rfl hsz
      have W2 : Hid (Below w.heap.size w (wr.setRow (w.heap.size + 1 + 1) e)) := bel_setRow hK.2.2.2 (by omega) e
      generalize wr.setRow (w.heap.size + 1 + 1) e = V2 at *
      clear hg2 hK hE
      go_upto_region 6 with fail
      go_step
      go_step
      refine oper_load rfl hld ?_
      go_step
      go_step
      refine oper_store rfl hst ?_
      go_wp2
      exact bodyPost_ret (v := .agg e) (results_ptr rfl rfl hld2) rfl ⟨e, rfl, hMe, W2⟩
end Go.Proofs.Ytohpjbhjcgihkaa
