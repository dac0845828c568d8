/- The program's Put and Bytes. -/
import Derived.Test.YtmhmohkeekmmgaaTby
import Derived.Test.YtmhmohkeekmmgaaTcl
namespace Go.Proofs.Ytmhmohkeekmmgaa
open Go.RowKit
set_option maxRecDepth 20000 in
set_option maxHeartbeats 1000000 in
theorem put_any (l : List En) (a : Option Addr) (cap : Nat) (w : World) (hv : Ens w a l) (hn : l.length ≤ 8796093022000) :
    Calls Try.prog 40 #[.slice a l.length cap] w fun e w' => e = .returned (.string (bs (eby l))) ∧ Below w.heap.size w w' := by
  have HV := hid hv
  obtain ⟨N, hN⟩ : ∃ N, N = l.length := ⟨_, rfl⟩
  have HN := hid hN
  rw [← hN] at hn ⊢
  have HS : Hid (Wr (w.alloc (.cells #[.int .i64 0, .slice none 0 0] 108)) w.heap.size (w.heap.size + 1) []) := wr_new (heap_new _ _) (by omega) (by simp)
  have HSB : Hid (Below w.heap.size w (w.alloc (.cells #[.int .i64 0, .slice none 0 0] 108))) := (Below.refl _ _).alloc (Nat.le_refl _) _
  have HWB : Hid (∀ wx wy, Below w.heap.size w wx → Ch (WU w.heap.size (w.heap.size + 1) wx) wx wy → Below w.heap.size w wy) := fun wx wy h1 h2 => h1.trans (h2.ws.below h1.size (fun i hi hs => by rcases hs with rfl | hs <;> omega))
  clear hv hN
  go_enter Try.func40, Try.ntmps40
  go_wp2_with (go_at_call 54; refine (newwriter_any _).mono ?_; rintro e w' ⟨rfl, rfl⟩)
  go_loopg [9] N (fun k i wr => ∃ j : Nat, j + k = N ∧ i = .int .i64 j ∧ Hid (Wr wr w.heap.size (w.heap.size + 1) (eby (l.take j))) ∧ Hid (Below w.heap.size w wr))
  case atStart => exact ⟨0, by omega, rfl, HS.out, HSB.out⟩
  case round =>
    clear HS HSB
    obtain ⟨j, hj, rfl, HW, HB⟩ := hrel
    by_cases hlt : j < N
    · obtain ⟨k', rfl⟩ : ∃ k', gk = k' + 1 := ⟨gk - 1, by omega⟩
      have hltI : (j : Int) < N := by omega
      have hjl : j < l.length := by rw [← HN.out]; exact hlt
      rcases HV.out with e | ⟨b, off, rfl, hb, hc⟩
      · rw [e] at hjl; cases hjl
      obtain ⟨p0, p1⟩ := hc j hjl
      have HT : Hid (eby (l.take (j + 1)) = eby (l.take j) ++ eb (l.getD j en0)) := by
        show _ = _
        rw [List.take_succ_eq_append_getElem hjl, eby_snoc, getD_of hjl]
      have HL : Hid ((eby (l.take j)).length = j * 16) := by show _ = _; rw [eby_len, List.length_take]; congr 1; omega
      have q0 := (HB.out.cell (p := ⟨b, off + j * 2, none⟩) hb).trans p0
      have q1 := (HB.out.cell (p := ⟨b, off + j * 2 + 1, none⟩) hb).trans p1
      generalize l.getD j en0 = s at *
      obtain ⟨sk, sa⟩ := s
      simp only at q0 q1
      unfold eb at HT
      simp only at HT
      generalize eby (l.take j) = T at *
      have HJ := hid hj
      have HWa : Hid (Wr (wr.alloc (.cells #[.int .i64 sk, .int .i64 sa] 29)) w.heap.size (w.heap.size + 1) T) := HW.out.alloc _
      have HBa : Hid (Below w.heap.size w (wr.alloc (.cells #[.int .i64 sk, .int .i64 sa] 29))) := HB.out.alloc HB.out.size _
      have HEa : Hid ((wr.alloc (.cells #[.int .i64 sk, .int .i64 sa] 29)).heap[wr.heap.size]? = some (.cells #[.int .i64 sk, .int .i64 sa] 29 (0, 0))) := heap_new _ _
      have HNe : Hid (wr.heap.size ≠ w.heap.size) := by have := HW.out.lt; show _ ≠ _; omega
      have HI1 : Hid (Calls Try.prog 55 #[.pointer (some ⟨w.heap.size, 0, none⟩), .int .i64 sk] (wr.alloc (.cells #[.int .i64 sk, .int .i64 sa] 29)) fun e w' => e = .returned (.tuple #[]) ∧ Wr w' w.heap.size (w.heap.size + 1) (T ++ n8 sk) ∧ Ch (WU w.heap.size (w.heap.size + 1) (wr.alloc (.cells #[.int .i64 sk, .int .i64 sa] 29))) (wr.alloc (.cells #[.int .i64 sk, .int .i64 sa] 29)) w') := wi64_any w.heap.size (w.heap.size + 1) T sk _ HWa.out (by rw [HL.out]; omega)
      have HI2 : Hid (∀ wx, Wr wx w.heap.size (w.heap.size + 1) (T ++ n8 sk) → Calls Try.prog 55 #[.pointer (some ⟨w.heap.size, 0, none⟩), .int .i64 sa] wx fun e w' => e = .returned (.tuple #[]) ∧ Wr w' w.heap.size (w.heap.size + 1) (T ++ n8 sk ++ n8 sa) ∧ Ch (WU w.heap.size (w.heap.size + 1) wx) wx w') := fun wx hx => wi64_any w.heap.size (w.heap.size + 1) _ sa _ hx (by rw [List.length_append, HL.out, n8_len]; omega)
      clear hc p0 p1 hb hj hjl
      go_wp2_with (first | (go_at_call 55; with_reducible refine HI1.out.mono ?_; rintro e w2 ⟨rfl, h2, hc2⟩; have HW2 := hid h2; have HB2 := hid (HWB.out _ _ HBa.out hc2); obtain ⟨y0, y1, _⟩ := ecell3 (hc2.other HEa.out HNe.out (by decide)); clear h2 hc2) | (go_at_call 55; with_reducible refine (HI2.out _ HW2.out).mono ?_; rintro e w3 ⟨rfl, h3, hc3⟩; have HW3 := hid h3; have HB3 := hid (HWB.out _ _ HB2.out hc3); clear h3 hc3))
      go_roundg k'
      case measure => omega
      case rel => exact ⟨j + 1, by have := HJ.out; omega, congrArg (Value.int .i64) (by omega), by rw [HT.out, ← List.append_assoc]; exact HW3.out, HB3.out⟩
    · have hltI : ¬ (j : Int) < N := by omega
      have e : l.take j = l := List.take_of_length_le (by rw [← HN.out]; omega)
      rw [e] at HW
      clear e
      go_wp2_with (go_at_call 56; refine (wbytes_any w.heap.size (w.heap.size + 1) _ _ HW.out).mono ?_; rintro e w' ⟨rfl, rfl⟩)
      go_ret
      exact ⟨rfl, HB.out⟩
theorem ibytes_any (p : Option Addr) (v : Value) (l : List En) (w : World) (h : Ip w p v l) (hn : l.length ≤ 8796093022000) : Calls Try.prog 20 #[.pointer p] w fun e w' => e = .returned (.string (bs (eby l))) ∧ Below w.heap.size w w' := by
  go_enter Try.func20, Try.ntmps20
  go_wp2_with (go_at_call 31; refine (source_any p v l _ h).mono ?_; rintro e w1 ⟨x, rfl, hx, hq⟩; obtain ⟨a, cap, rfl, hens⟩ := hx.row.ens; have c0 := hx.c0)
  refine (put_any l a cap w1 hens hn).mono ?_
  rintro e w2 ⟨rfl, hb⟩
  go_wp2
  go_ret
  exact ⟨rfl, hq.below.trans (hb.mono hq.below.size)⟩
theorem one_ens {w : World} {b : Nat} {sk sa : Int} (h : w.heap[b]? = some (.cells #[.int .i64 sk, .int .i64 sa] 29 (0, 0))) : Ens w (some ⟨b, 0, none⟩) [⟨sk, sa⟩] := by
  refine Or.inr ⟨b, 0, rfl, lt_of_heap h, fun j hj => ?_⟩
  obtain rfl : j = 0 := by simp at hj; omega
  obtain ⟨h1, h2, _⟩ := ecell3 h
  exact ⟨h1, h2⟩
end Go.Proofs.Ytmhmohkeekmmgaa
