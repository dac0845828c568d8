/- What is kept of a head; whether a head is good. -/
import Derived.Test.YtolobmhbmajolaaPdm
namespace Go.Proofs.Ytolobmhbmajolaa
open Go.RowKit
abbrev ntV (x : Nt) : Value := .agg #[.int .i64 x.b, .int .i32 x.c, .int .i32 x.s]
set_option maxHeartbeats 1000000 in
theorem noted_any (base len : Int) (pk : Bool) (cnt fst gr prod seq : Int) (h0 : 0 ≤ cnt) (h1 : cnt ≤ 65536) (w : World) :
    Calls Try.prog 42 #[hdV base len pk cnt fst gr prod seq] w fun e w' => e = .returned (.agg #[.int .i64 base, .int .i32 cnt, .int .i32 seq]) ∧ Below w.heap.size w w' := by
  go_enter Try.func42, Try.ntmps42
  go_wp2
  refine bodyPost_ret (v := .agg #[.int .i64 base, .int .i32 cnt, .int .i32 seq]) (by simp [results, Try.results42, go_sem]) rfl ⟨rfl, ?_⟩
  exact ((Below.refl _ w).alloc (Nat.le_refl _) _).alloc (by simp) _
theorem bool_ret {a b : Bool} (h : a = b) : Ending.returned (.bool a) = .returned (.bool b) := by rw [h]
set_option maxHeartbeats 2000000 in
theorem good_any (base len : Int) (pk : Bool) (cnt fst gr prod seq : Int) (w : World) :
    Calls Try.prog 38 #[hdV base len pk cnt fst gr prod seq] w fun e w' => e = .returned (.bool (goodB base cnt prod seq)) ∧ Below w.heap.size w w' := by
  have HB : Hid (∀ w1, Below (w.heap.size + 1) (w.alloc (.cells #[.int .i64 base, .int .i64 len, .bool pk, .int .i64 cnt, .int .i64 fst, .int .i64 gr, .int .i64 prod, .int .i32 seq] 29)) w1 → Below w.heap.size w w1) := fun w1 hb => ((Below.refl _ w).alloc (Nat.le_refl _) _).trans (hb.mono (by omega))
  have HS : Hid (Calls Try.prog 48 #[hdV base len pk cnt fst gr prod seq] (w.alloc (.cells #[.int .i64 base, .int .i64 len, .bool pk, .int .i64 cnt, .int .i64 fst, .int .i64 gr, .int .i64 prod, .int .i32 seq] 29)) fun e w' => e = .returned (.bool (sndB prod seq)) ∧ Below (w.heap.size + 1) (w.alloc (.cells #[.int .i64 base, .int .i64 len, .bool pk, .int .i64 cnt, .int .i64 fst, .int .i64 gr, .int .i64 prod, .int .i32 seq] 29)) w') := by
    have := sender_any base len pk cnt fst gr prod seq (w.alloc (.cells #[.int .i64 base, .int .i64 len, .bool pk, .int .i64 cnt, .int .i64 fst, .int .i64 gr, .int .i64 prod, .int .i32 seq] 29))
    rw [World.size_alloc] at this
    exact this
  have hce : ∀ w1, Below (w.heap.size + 1) (w.alloc (.cells #[.int .i64 base, .int .i64 len, .bool pk, .int .i64 cnt, .int .i64 fst, .int .i64 gr, .int .i64 prod, .int .i32 seq] 29)) w1 → w1.cell? ⟨w.heap.size, 0, none⟩ = some (.int .i64 base) ∧ w1.cell? ⟨w.heap.size, 3, none⟩ = some (.int .i64 cnt) := fun w1 hb => by
    have := (hb.block w.heap.size (by omega)).trans (heap_new w _)
    exact ⟨(cell_of this).trans rfl, (cell_of this).trans rfl⟩
  have HE := Hid.mk hce
  clear hce
  have e : goodB base cnt prod seq = (sndB prod seq && decide (1 ≤ cnt) && decide (cnt ≤ 65536) && decide (0 ≤ base) && decide (base ≤ 4611686018427387904)) := rfl
  rw [e]
  clear e
  generalize sndB prod seq = b0 at *
  generalize g1 : decide (1 ≤ cnt) = b1 at *
  generalize g2 : decide (cnt ≤ 65536) = b2 at *
  generalize g3 : decide (0 ≤ base) = b3 at *
  generalize g4 : decide (base ≤ 4611686018427387904) = b4 at *
  cases b0 <;> cases b1 <;> cases b2 <;> cases b3 <;> cases b4
  all_goals
    go_enter Try.func38, Try.ntmps38
    go_wp2_with (go_at_call 48; refine HS.out.mono ?_; rintro e w1 ⟨rfl, hb1⟩; obtain ⟨k0, k3⟩ := HE.out w1 hb1; have HB1 := Hid.mk hb1; clear hb1)
    go_ret
    exact ⟨rfl, HB.out _ HB1.out⟩
end Go.Proofs.Ytolobmhbmajolaa
