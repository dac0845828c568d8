/- A nil book. -/
import Derived.Test.YtolobmhbmajolaaPj3
namespace Go.Proofs.Ytolobmhbmajolaa
open Go.RowKit
theorem ntail_any (p : Int) (w : World) : Calls Try.prog 36 #[.pointer none, .int .i64 p] w fun e w' => e = .returned (.pointer none) ∧ w' = w := by
  go_enter Try.func36, Try.ntmps36
  go_wp2
  go_ret
  exact ⟨rfl, rfl⟩
theorem nforget_any (n : Int) (w : World) : Calls Try.prog 17 #[.pointer none, .int .i64 n] w fun e w' => e = .returned (.int .i64 0) ∧ w' = w := by
  go_enter Try.func17, Try.ntmps17
  go_wp2
  go_ret
  exact ⟨rfl, rfl⟩
theorem nlen_any (w : World) : Calls Try.prog 28 #[.pointer none] w fun e w' => e = .returned (.int .i64 0) ∧ w' = w := by
  go_enter Try.func28, Try.ntmps28
  go_wp2
  go_ret
  exact ⟨rfl, rfl⟩
theorem nprods_any (w : World) : Calls Try.prog 24 #[.pointer none] w fun e w' => e = .returned (.slice none 0 0) ∧ w' = w := by
  go_enter Try.func24, Try.ntmps24
  go_wp2
  go_ret
  exact ⟨rfl, rfl⟩
theorem nclone_any (w : World) : Calls Try.prog 11 #[.pointer none] w fun e w' => e = .returned (.pointer none) ∧ w' = w := by
  go_enter Try.func11, Try.ntmps11
  go_wp2
  go_ret
  exact ⟨rfl, rfl⟩
/-- What a nil book, and one with nothing in it, answer whether a batch may come. -/
def ckN (p seq cnt : Int) : Int := if goodB 0 cnt p seq = true then 0 else 1
theorem chk_nil (p seq cnt : Int) : chk [] p seq cnt = (0, ckN p seq cnt) := by
  unfold chk ckN
  by_cases h : goodB 0 cnt p seq = true
  · rw [if_neg (by rw [h]; decide), if_pos h]
    rfl
  · rw [if_pos (by simpa using h), if_neg h]
theorem ncheck_any (p seq cnt : Int) (w : World) : Calls Try.prog 19 #[.pointer none, .int .i64 p, .int .i32 seq, .int .i64 cnt] w fun e w' => e = .returned (.tuple #[.int .i64 0, .int .i64 (ckN p seq cnt)]) ∧ Below w.heap.size w w' := by
  by_cases h : goodB 0 cnt p seq = true
  · have e : ckN p seq cnt = 0 := by unfold ckN; rw [if_pos h]
    rw [e]
    have HG := Hid.mk (good_any 0 0 false cnt 0 0 p seq w)
    rw [h] at HG
    have HT := Hid.mk (ntail_any p)
    clear e
    go_enter Try.func19, Try.ntmps19
    go_wp2_with (first | (go_at_call 38; with_reducible refine HG.out.mono ?_; rintro e w1 ⟨rfl, hb1⟩; have HB := Hid.mk hb1; clear hb1) | (go_at_call 36; with_reducible refine (HT.out _).mono ?_; rintro e w2 ⟨rfl, rfl⟩))
    go_ret2
    exact ⟨rfl, HB.out⟩
  · have e : ckN p seq cnt = 1 := by unfold ckN; rw [if_neg h]
    rw [e]
    exact check_bad none p seq cnt (by simpa using h) w
/-- What a nil book's Note answers. -/
def ntN (x : Hd) : Int := if goodB x.b x.c x.p x.s = true then 4 else 1
theorem nnote_any (x : Hd) (w : World) : Calls Try.prog 20 #[.pointer none, hdA x] w fun e w' => e = .returned (.int .i64 (ntN x)) ∧ Below w.heap.size w w' := by
  by_cases h : goodB x.b x.c x.p x.s = true
  · have e : ntN x = 4 := by unfold ntN; rw [if_pos h]
    rw [e]
    obtain ⟨r0, r1, r2, r3, r4, r5, r6, r7⟩ := x
    dsimp only at h
    have HG := Hid.mk (good_any r0 r1 r2 r3 r4 r5 r6 r7 (w.alloc (.cells #[.int .i64 r0, .int .i64 r1, .bool r2, .int .i64 r3, .int .i64 r4, .int .i64 r5, .int .i64 r6, .int .i32 r7] 29)))
    rw [h, World.size_alloc] at HG
    clear e h
    show Calls _ _ #[_, hdV r0 r1 r2 r3 r4 r5 r6 r7] _ _
    go_enter Try.func20, Try.ntmps20
    go_wp2_with (go_at_call 38; with_reducible refine HG.out.mono ?_; rintro e w1 ⟨rfl, hb1⟩; have HB := Hid.mk hb1; clear hb1)
    go_ret
    exact ⟨rfl, ((Below.refl _ w).alloc (Nat.le_refl _) _).trans (HB.out.mono (by omega))⟩
  · have e : ntN x = 1 := by unfold ntN; rw [if_neg h]
    rw [e]
    exact note_bad none x.b x.l x.pk x.c x.f x.g x.p x.s (by simpa using h) w
theorem rf_nil (q : Int) : RF [] q = [] := rfl
/-- The document's new book, asked whether a batch may come. -/
theorem rcheck_new (c : Nat) (p seq cnt : Int) (hs : seq < 2147483648) (w : World) (S : Nat → Prop) (h : RB c [] w S) : Calls Try.prog 27 #[.pointer (some ⟨c, 0, none⟩), .int .i64 p, .int .i32 seq, .int .i64 cnt] w fun e w' => e = .returned (.tuple #[.int .i64 0, .int .i64 (ckN p seq cnt)]) ∧ Below w.heap.size w w' := by
  have := rcheck_any c [] p seq cnt hs w S h ⟨fun _ h => by cases h⟩ (by simp)
  rw [rf_nil, chk_nil] at this
  exact this
end Go.Proofs.Ytolobmhbmajolaa
