/- The chains of places: what a chain's block holds once some places are added; adding one more. -/
import Derived.Test.YtdkfenmhfkggdaaBuc
import Derived.Deep.RegionHeld3
namespace Go.Proofs.Ytdkfenmhfkggdaa
open Go.RowKit
/-- The cells of chains of the places from lo to p. -/
def ChnC (c : Array Value) (l : List UInt8) (lo p : Nat) : Prop := c.size = 16384 ∧ (∀ k, k < 8192 → c[k]? = some (.int .i64 (M.prv (hh l) lo k p : Nat))) ∧ (∀ q, lo ≤ q → q < p → p ≤ q + 8192 → q + 4 ≤ l.length → c[8192 + q % 8192]? = some (.int .i64 (M.prv (hh l) lo (hh l q) q : Nat))) ∧ ∀ k, k < 16384 → ∃ v, c[k]? = some v
def Chn (w : World) (g : Nat) (l : List UInt8) (lo p : Nat) : Prop := ∃ c, w.heap[g]? = some (.cells c 56 (0, 0)) ∧ ChnC c l lo p
theorem ChnC.skip {c : Array Value} {l : List UInt8} {lo p : Nat} (h : ChnC c l lo p) (hp : ¬ p + 4 ≤ l.length) : ChnC c l lo (p + 1) := by
  obtain ⟨h1, h2, h3, h4⟩ := h
  refine ⟨h1, ?_, ?_, h4⟩
  · intro k hk
    rw [M.prv_miss (by rw [hh_end hp]; omega)]
    exact h2 k hk
  · intro q a1 a2 a3 a4
    by_cases he : q = p
    · subst he; exact absurd a4 hp
    · exact h3 q a1 (by omega) (by omega) a4
theorem ChnC.step {c : Array Value} {l : List UInt8} {lo p : Nat} (h : ChnC c l lo p) (hp : p + 4 ≤ l.length) (hlo : lo ≤ p) :
    ChnC ((c.setIfInBounds (8192 + p % 8192) (.int .i64 (M.prv (hh l) lo (hh l p) p : Nat))).setIfInBounds (hh l p) (.int .i64 (p + 1 : Nat))) l lo (p + 1) := by
  obtain ⟨h1, h2, h3, h4⟩ := h
  have hb := hh_lt hp
  refine ⟨by simpa using h1, ?_, ?_, ?_⟩
  · intro k hk
    rw [Array.getElem?_setIfInBounds]
    by_cases he : hh l p = k
    · rw [if_pos he, if_pos (by simp; omega), M.prv_hit hlo he]
    · rw [if_neg he, Array.getElem?_setIfInBounds, if_neg (by omega), M.prv_miss he]
      exact h2 k hk
  · intro q a1 a2 a3 a4
    rw [Array.getElem?_setIfInBounds, if_neg (by omega), Array.getElem?_setIfInBounds]
    by_cases he : q = p
    · subst he
      rw [if_pos rfl, if_pos (by omega)]
    · rw [if_neg (by omega)]
      exact h3 q a1 (by omega) (by omega) a4
  · intro k hk
    refine ⟨_, Array.getElem?_eq_getElem (by simp; omega)⟩
theorem Chn.ch {S : Nat → Prop} {w w' : World} {g lo p : Nat} {l : List UInt8} (h : Chn w g l lo p) (hc : Ch S w w') (hS : ¬ S g) : Chn w' g l lo p := by
  obtain ⟨c, k, r⟩ := h
  exact ⟨c, (hc.block g (lt_of_heap k) hS).trans k, r⟩
theorem Chn.qt {w w' : World} {g lo p : Nat} {l : List UInt8} (h : Chn w g l lo p) (hc : Qt w w') : Chn w' g l lo p := by
  obtain ⟨n, rfl⟩ := hc
  exact h
theorem Chn.lt {w : World} {g lo p : Nat} {l : List UInt8} (h : Chn w g l lo p) : g < w.heap.size := by
  obtain ⟨c, k, r⟩ := h
  exact lt_of_heap k
set_option maxHeartbeats 1000000 in
set_option maxRecDepth 20000 in
theorem add_any (s : ByteArray) (g lo p : Nat) (w : World) (hs : s.size ≤ 9223372036854775807) (hp : p < s.size) (hlo : lo ≤ p) (h : Chn w g s.data.toList lo p) :
    Calls Try.prog 25 #[.pointer (some ⟨g, 0, none⟩), .string s, .int .i64 p] w fun e w' => e = .returned (.tuple #[]) ∧ Chn w' g s.data.toList lo (p + 1) ∧ Ch (fun i => i = g) w w' := by
  obtain ⟨c, hg, hc⟩ := h
  by_cases h4 : p + 4 ≤ s.size
  · have hb := bucket_any s p w hs h4
    have h5 : p + 4 ≤ s.data.toList.length := by simpa using h4
    have hst := hc.step h5 hlo
    have hB := hh_lt h5
    have hld := hc.2.1 _ hB
    have hsz := hc.1
    generalize M.prv (hh s.data.toList) lo (hh s.data.toList p) p = V at *
    generalize hh s.data.toList p = B at *
    have HST := hid hst
    obtain ⟨r, hr⟩ : ∃ r, r = p % 8192 := ⟨_, rfl⟩
    have hr2 : r < 8192 := by omega
    rw [← hr] at HST
    have HR := hid hr
    obtain ⟨v0, hv0⟩ := hc.2.2.2 (8192 + r) (by omega)
    clear hst hc hr
    go_enter Try.func25, Try.ntmps25
    go_wp2_with fail
    refine hb.mono ?_
    rintro e w1 ⟨rfl, hq⟩
    have hg1 : w1.heap[g]? = some (.cells c 56 (0, 0)) := by rw [hq.heap]; exact hg
    have HQ := hid ((Ch.refl (fun i => i = g) w).qt hq)
    clear hb hg hq
    have k1 : w1.cell? ⟨g, B, none⟩ = some (.int .i64 V) := (cell_of hg1).trans hld
    have k2 : w1.cell? ⟨g, 8192 + r, none⟩ = some v0 := (cell_of hg1).trans hv0
    have k3 := froz_of (i := 8192 + r) hg1
    have k4 := froz_of (i := B) hg1
    have HG := hid hg1
    clear hg1 hld hv0
    have hr := HR.out
    have d1 : (p : Int).tmod 8192 = (r : Int) := by rw [Int.tmod_eq_emod_of_nonneg (by omega)]; omega
    have d2 : (p : Int) % 8192 = (r : Int) := by omega
    have b1 : (0 : Int) ≤ (B : Int) := by omega
    have b2 : (B : Int) < 8192 := by omega
    have b3 : (0 : Int) ≤ (r : Int) := by omega
    have b4 : (r : Int) < 8192 := by omega
    have b5 : IntKind.i64.wrap (r : Int) = (r : Int) := wrap_in (by omega) (by omega)
    clear hr HR
    have hg2 := heap_set (i := 8192 + r) (v := .int .i64 V) HG.out
    have k5 : (w1.setCell ⟨g, 8192 + r, none⟩ (.int .i64 V)).cell? ⟨g, B, none⟩ = some (.int .i64 V) := by
      rw [cell_of hg2, Array.getElem?_setIfInBounds, if_neg (by omega), ← cell_of HG.out]
      exact k1
    have k6 := froz_of (i := B) hg2
    have K5 := hid k5
    have hg3 := heap_set (i := B) (v := .int .i64 (p + 1 : Nat)) hg2
    have HG3 := hid hg3
    clear hg2 hg3
    go_wp2_with fail
    go_region_held3 (fun x => x.cell? ⟨g, B, none⟩ = some (.int .i64 V)) (first | go_keep | exact K5.out) (fail)
    go_wp2_with fail
    go_end0
    exact ⟨rfl, ⟨_, HG3.out, HST.out⟩, ((HQ.out.setCell _ _ (fun _ => rfl)).drew).setCell _ _ (fun _ => rfl)⟩
  · have hsk := hc.skip (l := s.data.toList) (by simpa using h4)
    have HS := hid hsk
    have hx : (s.size : Int) - p < 4 := by omega
    clear hsk hc
    go_enter Try.func25, Try.ntmps25
    go_wp2_with fail
    refine bodyPost_ret (results_none rfl _ _ _) rfl ?_
    exact ⟨rfl, ⟨c, hg, HS.out⟩, Ch.refl _ _⟩
end Go.Proofs.Ytdkfenmhfkggdaa
