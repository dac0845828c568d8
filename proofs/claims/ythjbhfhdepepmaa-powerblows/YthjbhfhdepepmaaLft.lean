/- The program's Left and Of. -/
import Derived.Test.YthjbhfhdepepmaaCbc
namespace Go.Proofs.Ythjbhfhdepepmaa
open Go.RowKit
/-- A row of writes that came in. -/
def w00 : Int × ByteArray := (0, ByteArray.empty)
def Wrs (w : World) (a : Option Addr) (ws : List (Int × ByteArray)) : Prop := ws = [] ∨ ∃ b off, a = some ⟨b, off, none⟩ ∧ b < w.heap.size ∧ ∀ j, j < ws.length → w.cell? ⟨b, off + j * 2, none⟩ = some (.int .i64 (ws.getD j w00).1) ∧ w.cell? ⟨b, off + j * 2 + 1, none⟩ = some (.string (ws.getD j w00).2)
def WrOk (x : Int × ByteArray) : Prop := -9223372036854775808 ≤ x.1 ∧ x.1 ≤ 9223372036854775807 ∧ x.2.size ≤ 140737488355328
theorem Wrs.kept {w w' : World} {a : Option Addr} {ws : List (Int × ByteArray)} (h : Wrs w a ws) (hb : Below w.heap.size w w') : Wrs w' a ws := by
  rcases h with h | ⟨b, off, h1, h2, h3⟩
  · exact Or.inl h
  · refine Or.inr ⟨b, off, h1, Nat.lt_of_lt_of_le h2 hb.size, fun j hj => ?_⟩
    obtain ⟨k1, k2⟩ := h3 j hj
    exact ⟨(hb.cell (p := ⟨b, off + j * 2, none⟩) h2).trans k1, (hb.cell (p := ⟨b, off + j * 2 + 1, none⟩) h2).trans k2⟩
def ftV (nm : ByteArray) (kp : Int) (v : Value) : Value := .agg #[.string nm, .int .i64 kp, v]
/-- What is left, under way. -/
def Lq (w : World) (P G C s t : Nat) (b : List UInt8) (wr : World) : Prop := Below w.heap.size w wr ∧ wr.heap[P]? = some (.cells #[.int .i64 s, .int .i64 t] 79 (0, 0)) ∧ Cb wr G C b
theorem Lq.kept {w : World} {P G C s t : Nat} {b : List UInt8} {wr wx : World} (h : Lq w P G C s t b wr) (hb : Below wr.heap.size wr wx) : Lq w P G C s t b wx :=
  ⟨h.1.trans (hb.mono h.1.size), (hb.block P (lt_of_heap h.2.1)).trans h.2.1, h.2.2.kept (hb.block G (by obtain ⟨_, _, k, _⟩ := h.2.2; exact lt_of_heap k))⟩
set_option maxHeartbeats 4000000 in
set_option maxRecDepth 20000 in
theorem left_any (D : ByteArray) (sy : Int) (nm : ByteArray) (kp : Int) (a : Option Addr) (cap : Nat) (ws : List (Int × ByteArray)) (w : World) (hD : D.size ≤ 140737488355328) (hw : Wrs w a ws) (hl : ws.length ≤ 140737488355328) (hok : ∀ x ∈ ws, WrOk x) :
    Calls Try.prog 10 #[.string D, .int .i64 sy, .agg #[.string nm, .int .i64 kp, .slice a ws.length cap]] w fun e w' => e = .returned (.string (ba (lft D.data.toList sy kp ws))) ∧ Below w.heap.size w w' := by
  have hsl : D.data.toList.length = D.size := Array.length_toList
  unfold lft
  rw [hsl]
  obtain ⟨s, hs⟩ : ∃ s, s = sfe D.size sy := ⟨_, rfl⟩
  have hsle : s ≤ D.size := by rw [hs]; exact sfe_le _ _
  have hsI : min (max sy 0) (D.size : Int) = (s : Int) := by rw [hs]; unfold sfe; omega
  rw [← hs]
  obtain ⟨t, ht⟩ : ∃ t, t = kpt D.size s kp := ⟨_, rfl⟩
  have htle := kpt_le (n := D.size) (s := s) kp hsle
  have HLO := hid' (fun (v : Value) (wx : World) => loose_any D.size s nm kp v wx)
  rw [← ht] at htle HLO ⊢
  clear hs ht
  have hXt : D.extract 0 t = ba (D.data.toList.take t) := by
    conv => lhs; rw [← ba_of' D]
    rw [ba_ext0]
  have hb0 : (D.data.toList.take t).length = t := by rw [List.length_take]; omega
  generalize D.data.toList.take t = b0 at *
  have HW := hid' hw
  have HOK := hid' hok
  clear hw hok
  generalize hN : ws.length = N at *
  have HN := hid' hN
  clear hN
  obtain ⟨wA, hwA⟩ : ∃ wA, wA = w.alloc (Obj.cells #[.string nm, .int .i64 kp, .slice a N cap] 24) := ⟨_, rfl⟩
  have hA := heap_new w (Obj.cells #[.string nm, .int .i64 kp, .slice a N cap] 24)
  have hbA : Below w.heap.size w wA := by rw [hwA]; exact (Below.refl _ w).alloc (Nat.le_refl _) _
  have hsA : wA.heap.size = w.heap.size + 1 := by rw [hwA]; simp
  rw [← hwA] at hA
  have hwA' := hwA.symm
  clear hwA
  have a0 : wA.cell? ⟨w.heap.size, 0, none⟩ = some (.string nm) := (cell_of hA).trans rfl
  have a1 : wA.cell? ⟨w.heap.size, 1, none⟩ = some (.int .i64 kp) := (cell_of hA).trans rfl
  have a2 : wA.cell? ⟨w.heap.size, 2, none⟩ = some (.slice a N cap) := (cell_of hA).trans rfl
  go_enter Try.func10, Try.ntmps10
  go_wp2_with (go_at_call 40; refine (HLO.out _ _).mono ?_; rintro e w1 ⟨rfl, hb1⟩)
  have hA1 := (hb1.block w.heap.size (by omega)).trans hA
  have hbw1 := hbA.trans (hb1.mono hbA.size)
  obtain ⟨w2, hw2⟩ : ∃ w2, w2 = w1.alloc (Obj.cells #[.int .i64 s, .int .i64 t] 79) := ⟨_, rfl⟩
  have hP2 := heap_new w1 (Obj.cells #[.int .i64 s, .int .i64 t] 79)
  have hs2 : w2.heap.size = w1.heap.size + 1 := by rw [hw2]; simp
  have hb2' : Below w1.heap.size w1 w2 := by rw [hw2]; exact (Below.refl _ w1).alloc (Nat.le_refl _) _
  rw [← hw2] at hP2
  have hA2 := (hb2'.block w.heap.size (lt_of_heap hA1)).trans hA1
  have hbw2 := hbw1.trans (hb2'.mono hbw1.size)
  have p1 : w2.cell? ⟨w1.heap.size, 1, none⟩ = some (.int .i64 t) := (cell_of hP2).trans rfl
  have hw2' := hw2.symm
  obtain ⟨C, w3, hcv, hC3, hbw3'⟩ := conv_b w2 b0
  rw [hb0] at hcv
  have hA3 := (hbw3'.block w.heap.size (lt_of_heap hA2)).trans hA2
  have hP3 := (hbw3'.block w1.heap.size (by omega)).trans hP2
  have hbw3 := hbw2.trans (hbw3'.mono hbw2.size)
  have a23 : w3.cell? ⟨w.heap.size, 2, none⟩ = some (.slice a N cap) := (cell_of hA3).trans rfl
  have htI : (t : Int) ≤ D.size := by omega
  have hG : w1.heap.size < w2.heap.size := by omega
  have hw1s : w.heap.size < w1.heap.size := lt_of_heap hA1
  clear hbw3' hb2' hb1 hA hA1 hA2 hP2 hbA hbw1 hbw2
  have HS2 := hid' hs2
  clear hs2 hw2
  generalize hGG : w2.heap.size = G at *
  clear hGG HS2
  rw [hw2', hcv]
  go_wp2_with fail
  have hq : Lq w w1.heap.size G C s t b0 w3 := ⟨hbw3, hP3, hC3⟩
  have HQ0 := hid' hq
  have hwG : w.heap.size ≤ G := by omega
  have hPG : w1.heap.size ≠ G := by omega
  have hwP : w.heap.size ≤ w1.heap.size := by omega
  clear hq hbw3 hP3 hC3 hcv hw2' p1 a0 a1 a2 a23 hwA' hA3 hsA HLO hXt hsI hw1s hG
  generalize w1.heap.size = P at *
  go_loopg [32] N (fun k i wr => ∃ (j : Nat) (b : List UInt8), j + k = N ∧ i = .int .i64 j ∧ b.length = t ∧ Hid (b = lfs s t b0 (ws.take j)) ∧ Hid (Lq w P G C s t b wr))
  case atStart => exact ⟨0, b0, by omega, rfl, hb0, rfl, HQ0⟩
  case round =>
    clear HQ0
    obtain ⟨j, b, hk, rfl, hbl, HB, HQ⟩ := hrel
    by_cases hlt : j < N
    · obtain ⟨k, rfl⟩ : ∃ k, gk = k + 1 := ⟨gk - 1, by omega⟩
      have hltD : decide ((j : Int) < N) = true := by simp; omega
      have hltI : (j : Int) < N := by omega
      have ew : wrap64 ((j : Int) + 1) = ((j + 1 : Nat) : Int) := by unfold wrap64; omega
      rcases HW.out with rfl | ⟨bk, off, rfl, hbl', hcl'⟩
      · exact absurd hlt (by rw [← HN.out]; simp)
      obtain ⟨q0, q1⟩ := hcl' j (by rw [HN.out]; exact hlt)
      have hbel := HQ.out.1
      rw [← hbel.cell (p := ⟨bk, off + j * 2, none⟩) hbl'] at q0
      rw [← hbel.cell (p := ⟨bk, off + j * 2 + 1, none⟩) hbl'] at q1
      have hok := HOK.out (ws.getD j w00) (by rw [List.getD_eq_getElem?_getD, List.getElem?_eq_getElem (by rw [HN.out]; exact hlt)]; exact List.getElem_mem _)
      have HE : Hid (lfs s t b0 (ws.take (j + 1)) = lf1 s t b (ws.getD j w00)) := by
        show _ = _
        rw [HB.out]
        unfold lfs
        rw [List.take_succ_eq_append_getElem (by rw [HN.out]; exact hlt), List.foldl_append]
        rw [List.getD_eq_getElem?_getD, List.getElem?_eq_getElem (by rw [HN.out]; exact hlt)]
        rfl
      generalize ws.getD j w00 = x at *
      obtain ⟨at', D'⟩ := x
      obtain ⟨o1, o2, o3⟩ := hok
      simp only at q0 q1 o1 o2 o3
      have hfit := wn_fit at' D'.data.toList htle.1
      obtain ⟨wa, hwa⟩ : ∃ wa, wa = wr.alloc (Obj.cells #[.int .i64 at', .string D'] 69) := ⟨_, rfl⟩
      have hF := heap_new wr (Obj.cells #[.int .i64 at', .string D'] 69)
      rw [← hwa] at hF
      have f0 : wa.cell? ⟨wr.heap.size, 0, none⟩ = some (.int .i64 at') := (cell_of hF).trans rfl
      have f1 : wa.cell? ⟨wr.heap.size, 1, none⟩ = some (.string D') := (cell_of hF).trans rfl
      have hQa := HQ.out.kept (wx := wa) (by rw [hwa]; exact (Below.refl _ wr).alloc (Nat.le_refl _) _)
      have g0 : wa.cell? ⟨P, 0, none⟩ = some (.int .i64 s) := (cell_of hQa.2.1).trans rfl
      have g1 : wa.cell? ⟨P, 1, none⟩ = some (.int .i64 t) := (cell_of hQa.2.1).trans rfl
      have HWI := hid' (within_any s t at' D' wa htle.1 (by omega) o1 o3)
      have HQa := hid' hQa
      have hwa' := hwa.symm
      have HE2 : Hid (lf1 s t b (at', D') = ovr b (wn s t at' D'.data.toList).1 (ba (wn s t at' D'.data.toList).2).data.toList) := rfl
      have hfs : (ba (wn s t at' D'.data.toList).2).size = (wn s t at' D'.data.toList).2.length := ba_size _
      rw [← hfs] at hfit
      generalize ba (wn s t at' D'.data.toList).2 = Y at *
      generalize (wn s t at' D'.data.toList).1 = o at *
      clear hwa hcl' hbel HQ hF hQa HW hfs
      have HPUT : Hid (∀ w4, Below wa.heap.size wa w4 → ∃ d5 n5 c5 rr w5, (∀ w' : World, (Instr.slice 81 (.slice (some ⟨G, 0, none⟩) t C) (some (.int .i64 (o : Int))) none none).run Try.prog w' = .ok (.slice d5 n5 c5) w') ∧ (Builtin.copy_ #[81, 9] 3 #[.slice d5 n5 c5, .string Y]).run Try.prog w4 = .ok (.int .i64 rr) w5 ∧ Lq w P G C s t (ovr b o Y.data.toList) w5) := by
        intro w4 hb4
        have hQ4 := HQa.out.kept hb4
        obtain ⟨v2, rr, w5, k1, k2, k3, k4, d5, n5, c5, rfl⟩ := hQ4.2.2.put o Y (by rw [hbl]; exact hfit.1)
        rw [hbl] at k1
        exact ⟨d5, n5, c5, rr, w5, k1, k2, hQ4.1.trans (k4.below hQ4.1.size (fun i hi e => by omega)), (k4.block P (lt_of_heap hQ4.2.1) hPG).trans hQ4.2.1, k3⟩
      have hyl : Y.data.toList.length = Y.size := Array.length_toList
      have HFIT := hid' (And.intro hfit (And.intro hk (And.intro hbl hyl)))
      clear hfit htle hD hl hsl hsle hbl hb0 hwG hPG hwP o1 o2 o3 hk hyl htI
      go_wp2_with (go_at_call 41; refine HWI.out.mono ?_; rintro e w4 ⟨rfl, hb4⟩; obtain ⟨d5, n5, c5, rr, w5, k1, k2, k3⟩ := HPUT.out w4 hb4; have k1' := k1 w4; have K3 := hid' k3; clear k1 k3 hb4)
      obtain ⟨hfit, hk, hbl, hyl⟩ := HFIT.out
      go_roundg k
      case measure => omega
      case rel => exact ⟨j + 1, _, by omega, by first | exact congrArg (Value.int .i64) ew | rfl, by rw [ovr_len _ _ _ (by omega)]; exact hbl, by show _ = _; rw [HE.out, HE2.out], K3⟩
    · have hltD : decide ((j : Int) < N) = false := by simp; omega
      have hj : ws.take j = ws := List.take_of_length_le (by rw [HN.out]; omega)
      have hbk := HQ.out.2.2.back
      rw [hbl] at hbk
      have hb' := HB.out
      rw [hj] at hb'
      have HBE := hid' (And.intro hb' HQ.out.1)
      clear hb' HQ
      go_wp2_with fail
      go_ret
      exact ⟨by rw [← HBE.out.1]; rfl, HBE.out.2⟩
end Go.Proofs.Ythjbhfhdepepmaa
