/- The program's Best answers the best match; nothing that was there before is turned. -/
import Derived.Test.YtdkfenmhfkggdaaCbe
import Derived.Test.YtdkfenmhfkggdaaZero
namespace Go.Proofs.Ytdkfenmhfkggdaa
open Go.RowKit
theorem ChnC.zero (l : List UInt8) (lo : Nat) : ChnC (Array.replicate 16384 (.int .i64 0)) l lo lo := by
  refine ⟨by simp, ?_, ?_, ?_⟩
  · intro k hk
    rw [M.prv_low _ _ _ _ (Nat.le_refl _), Array.getElem?_replicate, if_pos (by omega)]
    rfl
  · intro q h1 h2
    omega
  · intro k hk
    exact ⟨_, by rw [Array.getElem?_replicate, if_pos hk]⟩
/-- The best match at any number. -/
def bestZ (l : List UInt8) (z : Int) : Nat × Nat := if 0 ≤ z ∧ z < l.length then M.best l z.toNat else (0, 0)
theorem bel_ch {B : Nat} {a b c : World} {S : Nat → Prop} (h : Below B a b) (k : Ch S b c) (hB : B ≤ b.heap.size) (hS : ∀ i, i < B → ¬ S i) : Below B a c := h.trans (k.below hB hS)
set_option maxHeartbeats 4000000 in
set_option maxRecDepth 20000 in
theorem best_in (s : ByteArray) (p : Nat) (w : World) (hs : s.size ≤ 9223372036854775807) (hp : p < s.size) :
    Calls Try.prog 12 #[.string s, .int .i64 p] w fun e w' => e = .returned (.tuple #[.int .i64 ((M.best s.data.toList p).1 : Nat), .int .i64 ((M.best s.data.toList p).2 : Nat)]) ∧ Below w.heap.size w w' := by
  have hv := (zero_of_info Try.infoChn).1
  have hz := fun lo => ChnC.zero s.data.toList lo
  have hadd := fun (g lo q : Nat) (wr : World) (h1 : q < p) (h2 : lo ≤ q) => add_any s g lo q wr hs (by omega) h2
  have hbst := fun (g lo : Nat) (wr : World) => cbest_any s g lo p wr hs hp
  generalize Array.replicate 16384 (Value.int .i64 0) = z at *
  generalize M.best s.data.toList p = R at *
  generalize s.data.toList = l at *
  have HZ := hid hz
  have HA := hid hadd
  have HB := hid hbst
  clear hz hadd hbst
  have hd1 : decide (s.size ≤ p) = false := by simp; omega
  have hd2 : decide ((p : Int) < 0) = false := by simp
  have hd3 : decide ((p : Int) ≥ (s.size : Int)) = false := by simp; omega
  by_cases h8 : 8192 ≤ p
  · have hx : (0 : Int) ≤ (p : Int) - 8192 := by omega
    obtain ⟨lo, hlo⟩ : ∃ lo, lo = p - 8192 := ⟨_, rfl⟩
    have hlo2 : lo = 0 ∨ lo + 8192 ≤ p := by omega
    have hlo3 : lo ≤ p := by omega
    have HLO := hid hlo2
    have HLE := hid hlo
    clear hlo2
    go_enter Try.func12, Try.ntmps12
    go_wp2_with fail
    clear hv
    have c0 : Chn (w.alloc (.cells z 56)) w.heap.size l lo lo := ⟨z, heap_new w _, HZ.out lo⟩
    have b0 : Below w.heap.size w (w.alloc (.cells z 56)) := (Below.refl _ w).alloc (Nat.le_refl _) _
    have C0 := hid c0
    have B0 := hid b0
    clear c0 b0
    generalize w.alloc (.cells z 56) = w0 at *
    go_loopw [7] (fun f wr => ∃ q : Nat, lo ≤ q ∧ q ≤ p ∧ f = .int .i64 q ∧ Hid (Chn wr w.heap.size l lo q) ∧ Hid (Below w.heap.size w wr)) (fun f _ => p - (intOf f).toNat)
    case atStart => exact ⟨lo, Nat.le_refl _, hlo3, by first | rfl | (rw [HLE.out]; go_num), C0, B0⟩
    case round =>
      obtain ⟨q, h1, h2, rfl, HC, HW⟩ := hrel
      clear C0 B0
      by_cases hlt : q < p
      · go_wp2_with fail
        refine (HA.out _ lo _ _ hlt h1 HC.out).mono ?_
        rintro e w1 ⟨rfl, hc1, hch⟩
        have HC1 := hid hc1
        have HW1 := hid (bel_ch HW.out hch HW.out.size (fun i hi => by omega))
        clear hc1 hch
        go_wp2_with fail
        go_roundw
        case rel => exact ⟨q + 1, by omega, by omega, by go_num, HC1, HW1⟩
        case measure => simp [intOf]; omega
      · obtain rfl : q = p := by omega
        go_wp2_with fail
        refine (HB.out _ lo _ HLO.out HC.out).mono ?_
        rintro e w1 ⟨rfl, hq⟩
        go_wp2_with fail
        go_ret2
        exact ⟨rfl, below_qt HW.out hq⟩
  · have hx : (p : Int) - 8192 < 0 := by omega
    obtain ⟨lo, hlo⟩ : ∃ lo, lo = 0 := ⟨_, rfl⟩
    have hlo2 : lo = 0 ∨ lo + 8192 ≤ p := by omega
    have hlo3 : lo ≤ p := by omega
    have HLO := hid hlo2
    have HLE := hid hlo
    clear hlo2
    go_enter Try.func12, Try.ntmps12
    go_wp2_with fail
    clear hv
    have c0 : Chn (w.alloc (.cells z 56)) w.heap.size l lo lo := ⟨z, heap_new w _, HZ.out lo⟩
    have b0 : Below w.heap.size w (w.alloc (.cells z 56)) := (Below.refl _ w).alloc (Nat.le_refl _) _
    have C0 := hid c0
    have B0 := hid b0
    clear c0 b0
    generalize w.alloc (.cells z 56) = w0 at *
    go_loopw [7] (fun f wr => ∃ q : Nat, lo ≤ q ∧ q ≤ p ∧ f = .int .i64 q ∧ Hid (Chn wr w.heap.size l lo q) ∧ Hid (Below w.heap.size w wr)) (fun f _ => p - (intOf f).toNat)
    case atStart => exact ⟨lo, Nat.le_refl _, hlo3, by rw [HLE.out]; rfl, C0, B0⟩
    case round =>
      obtain ⟨q, h1, h2, rfl, HC, HW⟩ := hrel
      clear C0 B0
      by_cases hlt : q < p
      · go_wp2_with fail
        refine (HA.out _ lo _ _ hlt h1 HC.out).mono ?_
        rintro e w1 ⟨rfl, hc1, hch⟩
        have HC1 := hid hc1
        have HW1 := hid (bel_ch HW.out hch HW.out.size (fun i hi => by omega))
        clear hc1 hch
        go_wp2_with fail
        go_roundw
        case rel => exact ⟨q + 1, by omega, by omega, by go_num, HC1, HW1⟩
        case measure => simp [intOf]; omega
      · obtain rfl : q = p := by omega
        go_wp2_with fail
        refine (HB.out _ lo _ HLO.out HC.out).mono ?_
        rintro e w1 ⟨rfl, hq⟩
        go_wp2_with fail
        go_ret2
        exact ⟨rfl, below_qt HW.out hq⟩
theorem best_any (s : ByteArray) (z : Int) (w : World) (hs : s.size ≤ 9223372036854775807) (hz : -9223372036854775808 ≤ z) (hz2 : z ≤ 9223372036854775807) :
    Calls Try.prog 12 #[.string s, .int .i64 z] w fun e w' => e = .returned (.tuple #[.int .i64 ((bestZ s.data.toList z).1 : Nat), .int .i64 ((bestZ s.data.toList z).2 : Nat)]) ∧ Below w.heap.size w w' := by
  by_cases h : 0 ≤ z ∧ z < s.size
  · obtain ⟨p, rfl⟩ := Int.eq_ofNat_of_zero_le h.1
    have e : bestZ s.data.toList p = M.best s.data.toList p := by
      unfold bestZ
      rw [if_pos (by rw [len_]; exact h)]
      rfl
    rw [e]
    exact best_in s p w hs (by omega)
  · have e : bestZ s.data.toList z = (0, 0) := by
      unfold bestZ
      rw [if_neg (by rw [len_]; exact h)]
    rw [e]
    by_cases h0 : z < 0
    · clear e h
      go_enter Try.func12, Try.ntmps12
      go_wp2_with fail
      go_ret2
      exact ⟨rfl, Below.refl _ _⟩
    · have h1 : (s.size : Int) ≤ z := by omega
      clear e h
      go_enter Try.func12, Try.ntmps12
      go_wp2_with fail
      go_ret2
      exact ⟨rfl, Below.refl _ _⟩
end Go.Proofs.Ytdkfenmhfkggdaa
