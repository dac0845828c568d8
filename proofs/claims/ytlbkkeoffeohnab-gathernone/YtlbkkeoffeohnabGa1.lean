/- Small calls of package gather: bounds as they count, distance, a batch's room, the sender, what is behind. -/
import Derived.Test.YtlbkkeoffeohnabSz
import Derived.Laws.EntriesVeiled
import Derived.Deep.DeepCutAuto
namespace Go.Proofs.Ytlbkkeoffeohnab
open Go.RowKit
/-- Bounds. -/
structure Bnd where
  R : Int
  P : Int
  F : Int
  sp : Int
  pk : Bool
  pr : Int
  sq : Int
def bndC (b : Bnd) : List Value := [.int .i64 b.R, .int .i64 b.P, .int .i64 b.F, .int .i64 b.sp, .bool b.pk, .int .i64 b.pr, .int .i32 b.sq]
def bndV (b : Bnd) : Value := .agg #[.int .i64 b.R, .int .i64 b.P, .int .i64 b.F, .int .i64 b.sp, .bool b.pk, .int .i64 b.pr, .int .i32 b.sq]
/-- Bounds as they count. -/
def cnt (b : Bnd) : Bnd := ⟨min (max b.R 1) 65536, min (max b.P 7) 16777216, min (max b.F 58) 16777216, max b.sp 0, b.pk, b.pr, b.sq⟩
/-- What a number is. -/
structure BndIn (b : Bnd) : Prop where
  sp : I64 b.sp
  pr : I64 b.pr
  sq : -2147483648 ≤ b.sq ∧ b.sq ≤ 2147483647
/-- Bounds that count. -/
structure BndOk (b : Bnd) : Prop where
  R : 1 ≤ b.R ∧ b.R ≤ 65536
  P : 7 ≤ b.P ∧ b.P ≤ 16777216
  F : 58 ≤ b.F ∧ b.F ≤ 16777216
  sp : 0 ≤ b.sp ∧ b.sp ≤ 9223372036854775807
  pr : I64 b.pr
  sq : -2147483648 ≤ b.sq ∧ b.sq ≤ 2147483647
theorem cnt_ok {b : Bnd} (h : BndIn b) : BndOk (cnt b) := by
  obtain ⟨⟨h1, h2⟩, h3, h4⟩ := h
  unfold cnt
  exact ⟨by dsimp only; omega, by dsimp only; omega, by dsimp only; omega, by dsimp only; omega, h3, h4⟩
set_option maxRecDepth 20000 in
theorem counted_any (b : Bnd) (w : World) : Calls Try.prog 22 #[bndV b] w fun e w' => e = .returned (bndV (cnt b)) ∧ Below w.heap.size w w' := by
  obtain ⟨R, P, F, sp, pk, pr, sq⟩ := b
  unfold bndV cnt
  go_enter Try.func22, Try.ntmps22
  go_wp2_with fail
  exact bodyPost_ret (v := .agg #[.int .i64 (min (max R 1) 65536), .int .i64 (min (max P 7) 16777216), .int .i64 (min (max F 58) 16777216), .int .i64 (max sp 0), .bool pk, .int .i64 pr, .int .i32 sq]) (by simp [results, Try.results22, go_sem]) rfl ⟨rfl, ((Below.refl _ w).alloc (Nat.le_refl _) _).alloc (by simp) _⟩
/-- Bound. -/
def bndZ (n : Int) : Int := if n < 0 then 0 else if 1073741824 < n then 1082130432 else n + (n + 127) / 128
theorem bound_any (n : Int) (w : World) : Calls Try.prog 37 #[.int .i64 n] w fun e w' => e = .returned (.int .i64 (bndZ n)) ∧ w' = w := by
  have HE : Hid (bndZ n = min (max n 0) 1073741824 + (min (max n 0) 1073741824 + 127) / 128) := by show bndZ n = _; unfold bndZ; split <;> (try split) <;> omega
  generalize bndZ n = R at *
  go_enter Try.func37, Try.ntmps37
  go_wp2_with fail
  go_ret
  exact ⟨ret_int (by have := HE.out; omega), rfl⟩
/-- The most bytes of a frame with such a body. -/
def roomZ (pk : Bool) (n : Int) : Int := if pk then 55 + bndZ n else 51 + n
theorem room_any (n : Int) (pk : Bool) (w : World) (h : 0 ≤ n ∧ n ≤ 1073741824) : Calls Try.prog 33 #[.int .i64 n, .bool pk] w fun e w' => e = .returned (.int .i64 (roomZ pk n)) ∧ w' = w := by
  cases pk
  · have HE : Hid (roomZ false n = 51 + n) := rfl
    generalize roomZ false n = Z at *
    go_enter Try.func33, Try.ntmps33
    go_wp2_with fail
    go_ret
    exact ⟨ret_int (by have := HE.out; omega), rfl⟩
  · have HE : Hid (roomZ true n = 55 + bndZ n) := rfl
    have hb : 0 ≤ bndZ n ∧ bndZ n ≤ 1082130432 := by unfold bndZ; rw [if_neg (by omega), if_neg (by omega)]; omega
    have hc := fun w => bound_any n w
    have HC := hid hc
    clear hc
    generalize roomZ true n = Z at *
    generalize bndZ n = B at *
    go_enter Try.func33, Try.ntmps33
    go_wp2_with (go_at_call 37; refine (HC.out _).mono ?_; rintro e w' ⟨rfl, rfl⟩)
    go_ret
    exact ⟨ret_int (by have := HE.out; omega), rfl⟩
/-- How far two times are apart. -/
def dst (a b : Int) : Int := if a < b then b - a else a - b
theorem dist_any (a b : Int) (w : World) (ha : I64 a) (hb : I64 b) : Calls Try.prog 29 #[.int .i64 a, .int .i64 b] w fun e w' => e = .returned (.int .u64 (dst a b)) ∧ w' = w := by
  obtain ⟨a1, a2⟩ := ha
  obtain ⟨b1, b2⟩ := hb
  by_cases h : a < b
  · have HE : Hid (dst a b = b - a) := if_pos h
    generalize dst a b = Z at *
    go_enter Try.func29, Try.ntmps29
    go_wp2_with fail
    go_ret
    exact ⟨ret_int (by have := HE.out; rw [IntKind.wrap_u64, IntKind.wrap_u64, IntKind.wrap_u64]; omega), rfl⟩
  · have HE : Hid (dst a b = a - b) := if_neg h
    generalize dst a b = Z at *
    go_enter Try.func29, Try.ntmps29
    go_wp2_with fail
    go_ret
    exact ⟨ret_int (by have := HE.out; rw [IntKind.wrap_u64, IntKind.wrap_u64, IntKind.wrap_u64]; omega), rfl⟩
/-- Can a producer send a batch with that sequence? -/
def sndG (p s : Int) : Bool := (decide (p = -1) && decide (s = -1)) || (decide (0 ≤ p) && decide (0 ≤ s))
theorem sender_any (p s : Int) (w : World) : Calls Try.prog 12 #[.int .i64 p, .int .i32 s] w fun e w' => e = .returned (.bool (sndG p s)) ∧ w' = w := by
  by_cases h : p < 0
  · by_cases h1 : p = -1
    · by_cases h2 : s = -1
      · have e : sndG p s = true := by unfold sndG; rw [decide_eq_true h1, decide_eq_true h2]; rfl
        rw [e]
        go_enter Try.func12, Try.ntmps12
        go_wp2_with fail
        go_ret
        exact ⟨rfl, rfl⟩
      · have e : sndG p s = false := by unfold sndG; rw [decide_eq_false h2, decide_eq_false (show ¬ 0 ≤ p by omega), Bool.and_false]; rfl
        rw [e]
        go_enter Try.func12, Try.ntmps12
        go_wp2_with fail
        go_ret
        exact ⟨congrArg (fun b => Ending.returned (.bool b)) (by simpa using h2), rfl⟩
    · have e : sndG p s = false := by unfold sndG; rw [decide_eq_false h1, decide_eq_false (show ¬ 0 ≤ p by omega)]; rfl
      rw [e]
      go_enter Try.func12, Try.ntmps12
      go_wp2_with fail
      go_ret
      exact ⟨rfl, rfl⟩
  · have e : sndG p s = decide (0 ≤ s) := by unfold sndG; rw [decide_eq_false (show ¬ p = -1 by omega), decide_eq_true (show 0 ≤ p by omega)]; rfl
    rw [e]
    go_enter Try.func12, Try.ntmps12
    go_wp2_with fail
    go_ret
    exact ⟨rfl, rfl⟩
/-- The sequence behind a batch. -/
def behZ (pr q : Int) (n : Nat) : Int := if pr = -1 then -1 else (q + n) % 2147483648
theorem behind_any (pk : Bool) (pr q : Int) (n cap : Nat) (a : Option Addr) (w : World) (hq : -1 ≤ q ∧ q ≤ 2147483647) (hp : pr = -1 ∨ 0 ≤ q) (hn : n ≤ 65536) :
    Calls Try.prog 18 #[.agg #[.int .i64 0, .bool pk, .int .i64 pr, .int .i32 q, .slice a n cap]] w fun e w' => e = .returned (.int .i32 (behZ pr q n)) ∧ Below w.heap.size w w' := by
  by_cases h : pr = -1
  · have HE : Hid (behZ pr q n = -1) := if_pos h
    generalize behZ pr q n = Z at *
    go_enter Try.func18, Try.ntmps18
    go_wp2_with fail
    go_ret
    exact ⟨ret_int (by have := HE.out; omega), (Below.refl _ w).alloc (Nat.le_refl _) _⟩
  · have HE : Hid (behZ pr q n = (q + n) % 2147483648) := if_neg h
    have hq0 : 0 ≤ q := hp.resolve_left h
    generalize behZ pr q n = Z at *
    go_enter Try.func18, Try.ntmps18
    go_wp2_with fail
    go_ret
    exact ⟨ret_int (by have := HE.out; omega), (Below.refl _ w).alloc (Nat.le_refl _) _⟩
end Go.Proofs.Ytlbkkeoffeohnab
