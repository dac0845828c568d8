/- What the program lays down for a token, behind what is unpacked; nothing that was there before is turned. -/
import Derived.Test.YtdkfenmhfkggdaaApp
namespace Go.Proofs.Ytdkfenmhfkggdaa
open Go.RowKit
theorem Own.form {w : World} {B : Nat} {v : Value} {l : List UInt8} (h : Own w B v l) (h0 : l.length ≠ 0) : ∃ g cap, v = .slice (some ⟨g, 0, none⟩) l.length cap ∧ ∀ j, j < l.length → w.cell? ⟨g, j, none⟩ = some (.int .u8 ((M.by_ l j).toNat : Int)) := by
  have hcell := fun (g : Nat) (hg : v.ownBlock = some g) => World.ownsRow.cells h hg
  obtain ⟨hl, h⟩ := h
  rcases h with ⟨rfl, h1⟩ | ⟨g, cap, cur, rfl, hg, hh, h1, h2, h3, h4⟩
  · exact absurd h1 h0
  · refine ⟨g, cap, rfl, fun j hj => ?_⟩
    have := hcell g rfl j (.int .u8 ((M.by_ l j).toNat : Int)) (by
      simp only [bc, List.getElem?_map, List.getElem?_eq_getElem hj]
      unfold M.by_
      rw [List.getD_eq_getElem?_getD, List.getElem?_eq_getElem hj]
      rfl)
    have e : (⟨g, 0, none⟩ : Addr).add j = ⟨g, j, none⟩ := by
      by_cases h0 : j = 0
      · subst h0; simp [Addr.add]
      · simp [Addr.add, h0]
    rw [e] at this
    exact this
set_option maxHeartbeats 4000000 in
set_option maxRecDepth 20000 in
theorem behind_any (B : Nat) (l : List UInt8) (v : Value) (TS : ByteArray) (N D : Nat) (w : World) (hown : Own w B v l) (hB : B ≤ w.heap.size) (hD : 1 ≤ N → 1 ≤ D ∧ D ≤ l.length) (hl : l.length + TS.size + N ≤ 140737488350000) :
    Calls Try.prog 31 #[.agg #[.string TS, .int .i64 N, .int .i64 D], v] w fun e w' => ∃ v', e = .returned v' ∧ Own w' B v' (M.cpy D N (l ++ TS.data.toList)) ∧ Below B w w' := by
  obtain ⟨i0, hi, hz0, hz1, hz2⟩ := info_parts Try.info5
  obtain ⟨F, hF⟩ : ∃ F, F = M.cpy D N (l ++ TS.data.toList) := ⟨_, rfl⟩
  rw [← hF]
  have HF := hid hF.symm
  have HOW := hid hown
  have ho := hown
  unfold Own at ho
  generalize hX : l.length = X at *
  have HX := hid hX
  clear hF hown hX
  go_enter Try.func31, Try.ntmps31
  go_wp2_with (at_builtin; refine Lib.wpList_append_own_string _ rfl _ _ 57 9 rfl B 5 i0 Try.underBytes Try.under9 hi hz0 hz1 hz2 _ _ _ rfl (ho.alloc _) TS rfl ?d1 ?d2 ?d3 ?_)
  case d1 => unfold maxLen; omega
  case d2 => omega
  case d3 => simp; omega
  intro v1 w1 hown1 hgrow1 _
  have HB1 := hid (bel_step (Below.refl B w) ho hB hgrow1)
  have HO1 : Hid (Own w1 B v1 (l ++ TS.data.toList)) := own_mk hown1 HX.out (len_ TS) (bc_str TS)
  have gT : w1.heap[w.heap.size]? = some (.cells #[.string TS, .int .i64 N, .int .i64 D] 47 (0, 0)) := (hgrow1.block _ (by simp) (fun e => own_ne (ho.alloc (.cells #[.string TS, .int .i64 N, .int .i64 D] 47)) (heap_new w _) (by decide) e.symm)).trans (heap_new w _)
  have k1 : w1.cell? ⟨w.heap.size, 1, none⟩ = some (.int .i64 N) := (cell_of gT).trans rfl
  have HT1 := hid gT
  have HS1 : Hid (B ≤ w1.heap.size) := by have := HB1.out.size; show B ≤ _; omega
  clear hown1 hgrow1 ho gT HOW
  go_wp2_with fail
  clear k1
  go_loopg [1, 11] N (fun k o i wr => ∃ (j : Nat) (cur : List UInt8), j + k = N ∧ i = .int .i64 j ∧ Hid (cur.length = X + TS.size + j) ∧ Hid (Own wr B o cur) ∧ Hid (M.cpy D k cur = F) ∧ Hid (Below B w wr) ∧ Hid (B ≤ wr.heap.size) ∧ Hid (wr.heap[w.heap.size]? = some (.cells #[.string TS, .int .i64 N, .int .i64 D] 47 (0, 0))))
  case atStart => exact ⟨0, _, by omega, rfl, by rw [List.length_append, HX.out, len_]; rfl, HO1, HF, HB1, HS1, HT1⟩
  case round =>
    clear HO1 HF HB1 HS1 HT1
    obtain ⟨j, cur, hj, rfl, HC, HO, HF, HB, HS, HT⟩ := hrel
    by_cases hlt : j < N
    · obtain ⟨k, rfl⟩ : ∃ k, gk = k + 1 := ⟨gk - 1, by omega⟩
      have hD' := hD (by omega)
      have hcl := HC.out
      obtain ⟨g, cap, rfl, hcell⟩ := Own.form HO.out (by omega)
      obtain ⟨i, hi2⟩ : ∃ i, i = cur.length - D := ⟨_, rfl⟩
      have kc := hcell i (by omega)
      have HF2 := HF.out
      unfold M.cpy at HF2
      rw [← hi2] at HF2
      have ho := HO.out
      unfold Own at ho
      generalize M.by_ cur i = b at *
      have e0 : ((cur.length : Nat) : Int) - (D : Int) = (i : Int) := by omega
      have hi3 : i < cur.length := by omega
      generalize hY : cur.length = Y at *
      have k2 : wr.cell? ⟨w.heap.size, 2, none⟩ = some (.int .i64 D) := (cell_of HT.out).trans rfl
      have HF3 := hid HF2
      have HY := hid hY
      have HI2 := hid hi2
      have HCL := hid hcl
      have hYb : Y ≤ 140737488350000 := by omega
      have q1 := b.toNat_lt
      have hsz := HS.out
      clear HF2 hcell hY hi2 hcl HF HO HC
      go_wp2_with (at_builtin; refine wpList_append_own _ rfl _ _ 57 rfl B 5 i0 (.int .u8 0) 1 1 Try.underBytes hi hz0 hz1 hz2 rfl (by decide) _ _ _ rfl (ho.alloc _) ⟨wr.heap.size, 0, none⟩ 1 1 (bc [b]) rfl rfl ?c1 ?c2 ?c3 ?c4 ?c5 ?_)
      case c1 => exact cells_new wr (bc [b]) 5
      case c2 => exact bc_one _
      case c3 => unfold maxLen; omega
      case c4 => omega
      case c5 => simp; omega
      intro v' w2 hown2 hgrow2 _
      have HB2 := hid (bel_step HB.out ho (by omega) hgrow2)
      have HO2 : Hid (Own w2 B v' (cur ++ [b])) := own_mk (r := [b]) hown2 HY.out rfl rfl
      have HS2 : Hid (B ≤ w2.heap.size) := by have := hgrow2.size; simp at this; show B ≤ _; omega
      have HT2 : Hid (w2.heap[w.heap.size]? = some (.cells #[.string TS, .int .i64 N, .int .i64 D] 47 (0, 0))) := (hgrow2.block _ (by have := lt_of_heap HT.out; simp; omega) (fun e => own_ne ho HT.out (by decide) e.symm)).trans (heap_alloc_at HT.out)
      clear hown2 hgrow2 ho HB HS HT
      go_wp2_with fail
      go_roundg k
      case measure => omega
      case rel => exact ⟨j + 1, cur ++ [b], by omega, by go_num, by show _ = _; rw [List.length_append, HY.out, HCL.out]; rfl, HO2, HF3, HB2, HS2, HT2⟩
    · obtain rfl : gk = 0 := by omega
      have HFF : Hid (cur = F) := HF.out
      go_wp2_with fail
      go_ret
      exact ⟨_, rfl, by rw [← HFF.out]; exact HO.out, HB.out⟩
end Go.Proofs.Ytdkfenmhfkggdaa
