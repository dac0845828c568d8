import Derived.Test.YtlbkkeoffeohnabOsz2
/- What Size answers of any record: the number of its form's bytes, or why it has none; nothing that was there before is turned. -/
namespace Go.Proofs.Ytlbkkeoffeohnab
open Go.RowKit
theorem isnum_any (n : Int) (w : World) : Calls Try.prog 34 #[.int .i64 n] w fun e w' => e = .returned (.bool (decide (0 ≤ n ∧ n < 65536))) ∧ w' = w := by
  by_cases h1 : 0 ≤ n
  · by_cases h2 : n < 65536
    · rw [decide_eq_true ⟨h1, h2⟩]
      go_enter Try.func34, Try.ntmps34
      go_wp2
      go_ret
      exact ⟨rfl, rfl⟩
    · rw [decide_eq_false (fun h => h2 h.2)]
      go_enter Try.func34, Try.ntmps34
      go_wp2
      go_ret
      exact ⟨rfl, rfl⟩
  · rw [decide_eq_false (fun h => h1 h.1)]
    have h3 : n < 0 := by omega
    go_enter Try.func34, Try.ntmps34
    go_wp2
    go_ret
    exact ⟨rfl, rfl⟩
theorem isnum_yes (n : Int) (w : World) (h : 0 ≤ n ∧ n < 65536) : Calls Try.prog 34 #[.int .i64 n] w fun e w' => e = .returned (.bool true) ∧ w' = w := by
  have := isnum_any n w
  rw [decide_eq_true h] at this
  exact this
theorem isnum_no (n : Int) (w : World) (h : ¬ (0 ≤ n ∧ n < 65536)) : Calls Try.prog 34 #[.int .i64 n] w fun e w' => e = .returned (.bool false) ∧ w' = w := by
  have := isnum_any n w
  rw [decide_eq_false h] at this
  exact this
theorem diff_ok (t f : Int) (w : World) (h : I64 (t - f)) : Calls Try.prog 35 #[.int .i64 t, .int .i64 f] w fun e w' => e = .returned (.tuple #[.int .i64 (t - f), .bool true]) ∧ w' = w := by
  have hx : IntKind.i64.wrap (t - f) = t - f := wrap_in h.1 h.2
  have e : ((decide (0 ≤ t - f)) == (decide (f ≤ t))) = true := by
    by_cases h : f ≤ t
    · rw [decide_eq_true h, decide_eq_true (by omega)]; rfl
    · rw [decide_eq_false h, decide_eq_false (by omega)]; rfl
  obtain ⟨h1, h2⟩ := h
  go_enter Try.func35, Try.ntmps35
  go_wp2
  go_ret2
  exact ⟨rfl, rfl⟩
theorem diff_no (t f : Int) (w : World) (ht : I64 t) (hf : I64 f) (h : ¬ I64 (t - f)) : Calls Try.prog 35 #[.int .i64 t, .int .i64 f] w fun e w' => e = .returned (.tuple #[.int .i64 (wrap64 (t - f)), .bool false]) ∧ w' = w := by
  have e : ((decide (0 ≤ wrap64 (t - f))) == (decide (f ≤ t))) = false := by
    unfold I64 at *
    by_cases h : f ≤ t
    · rw [decide_eq_true h, decide_eq_false (by unfold wrap64; omega)]; rfl
    · rw [decide_eq_false h, decide_eq_true (by unfold wrap64; omega)]; rfl
  go_enter Try.func35, Try.ntmps35
  go_wp2
  go_ret2
  exact ⟨rfl, rfl⟩
theorem bel_al {w w' : World} {o : Obj} (h : Below (w.alloc o).heap.size (w.alloc o) w') : Below w.heap.size w w' := ((Below.refl _ w).alloc (Nat.le_refl _) o).trans (h.mono (by simp))
/-- Why a record has no form, or 0. -/
def sze (r : Rec) (first n : Int) : Nat := if ¬ (0 ≤ n ∧ n < 65536) then 1 else if ¬ I64 (r.t - first) then 27 else if 1024 < r.hs.length then 5 else if 16777216 < (fm (r.t - first) n.toNat r).length then 66 else 0
/-- How many bytes its form has. -/
def szn (r : Rec) (first n : Int) : Nat := if sze r first n = 0 then (fm (r.t - first) n.toNat r).length else 0
theorem sze_ok {r : Rec} {first n : Int} (h : sze r first n = 0) : (0 ≤ n ∧ n < 65536) ∧ I64 (r.t - first) ∧ r.hs.length ≤ 1024 ∧ (fm (r.t - first) n.toNat r).length ≤ 16777216 := by
  unfold sze at h
  split at h
  · cases h
  · split at h
    · cases h
    · split at h
      · cases h
      · split at h
        · cases h
        · rename_i h1 h2 h3 h4
          exact ⟨by omega, by simpa using h2, by omega, by omega⟩
/-- What the program's counting asks: nothing too great for any machine. -/
structure Mod (r : Rec) : Prop where
  k : r.kd.size ≤ 1000000000000000000
  v : r.vd.size ≤ 1000000000000000000
  h : Small r.hs
  n : r.hs.length ≤ 9223372036854775807
  all : r.hs.length ≤ 1024 → 100 + (ol r.kh r.kd).length + (ol r.vh r.vd).length + (hl r.hs).length ≤ 1000000000000000000
theorem own_le (d : Int) (n : Nat) (r : Rec) (hm : Mod r) (hh : r.hs.length ≤ 1024) : (own d n r).length ≤ 1000000000000000000 := by
  have := hm.all hh
  have h1 := M.form_le (M.zz d).toNat
  have h2 := M.form_le n
  have h3 := M.form_le r.hs.length
  simp only [own, List.length_append, List.length_cons, List.length_nil]
  omega
set_option maxHeartbeats 1000000 in
set_option maxRecDepth 20000 in
theorem formsize_any (r : Rec) (a : Option Addr) (cap : Nat) (d : Int) (n : Nat) (w : World) (V : Hds w a r.hs) (hd : I64 d) (hn : n ≤ 9223372036854775807) (hm : Mod r) (hh : r.hs.length ≤ 1024) :
    Calls Try.prog 36 #[recV r a cap, .int .i64 d, .int .i64 n] w fun e w' => e = .returned (.int .i64 (fm d n r).length) ∧ Below w.heap.size w w' := by
  have ho := own_le d n r hm hh
  have hc := fun w V => ownsize_any r a cap d n w V hd hn ho hm.n hm.k hm.v hm.h
  have HE : Hid ((fm d n r).length = (M.form (own d n r).length).length + (own d n r).length) := by unfold Hid fm; rw [List.length_append]
  have hfl := M.form_le (own d n r).length
  generalize (own d n r).length = L at *
  have hsz : M.size L = (M.form L).length := rfl
  have HC := hid hc
  have HVV := hid V
  clear hc hm V
  unfold recV at *
  go_enter Try.func36, Try.ntmps36
  go_wp2_with fail
  refine (HC.out _ (HVV.out.below ((Below.refl _ w).alloc (Nat.le_refl _) _))).mono ?_
  rintro e w' ⟨rfl, hb⟩
  go_wp2_with (go_at_call 39; refine (size_any L _ (by omega) (by omega)).mono ?_; rintro e w' ⟨rfl, rfl⟩)
  go_ret
  exact ⟨ret_int (by rw [HE.out]; omega), bel_al hb⟩
set_option maxHeartbeats 1000000 in
set_option maxRecDepth 20000 in
theorem size_no (r : Rec) (a : Option Addr) (cap : Nat) (first n : Int) (w : World) (V : Hds w a r.hs) (_ht : I64 r.t) (_hf : I64 first) (hn : ¬ (0 ≤ n ∧ n < 65536)) :
    Calls Try.prog 23 #[recV r a cap, .int .i64 first, .int .i64 n] w fun e w' => e = .returned (.tuple #[.int .i64 0, .int .i64 1]) ∧ Below w.heap.size w w' := by
  obtain ⟨t, kh, kd, vh, vd, hs⟩ := r
  simp only [recV] at *
  go_enter Try.func23, Try.ntmps23
  go_wp2_with (go_at_call 34; refine (isnum_no n _ hn).mono ?_; rintro e w' ⟨rfl, rfl⟩)
  go_ret2
  exact ⟨rfl, (Below.refl _ w).alloc (Nat.le_refl _) _⟩
set_option maxHeartbeats 1000000 in
set_option maxRecDepth 20000 in
theorem size_far (r : Rec) (a : Option Addr) (cap : Nat) (first n : Int) (w : World) (V : Hds w a r.hs) (_ht : I64 r.t) (_hf : I64 first) (hn : 0 ≤ n ∧ n < 65536) (hi : ¬ I64 (r.t - first)) :
    Calls Try.prog 23 #[recV r a cap, .int .i64 first, .int .i64 n] w fun e w' => e = .returned (.tuple #[.int .i64 0, .int .i64 27]) ∧ Below w.heap.size w w' := by
  obtain ⟨t, kh, kd, vh, vd, hs⟩ := r
  simp only [recV] at *
  go_enter Try.func23, Try.ntmps23
  go_wp2_with (first
    | (go_at_call 34; refine (isnum_yes n _ hn).mono ?_; rintro e w' ⟨rfl, rfl⟩)
    | (go_at_call 35; refine (diff_no _ _ _ _ht _hf hi).mono ?_; rintro e w' ⟨rfl, rfl⟩))
  go_ret2
  exact ⟨rfl, (Below.refl _ w).alloc (Nat.le_refl _) _⟩
set_option maxHeartbeats 1000000 in
set_option maxRecDepth 20000 in
theorem size_most (r : Rec) (a : Option Addr) (cap : Nat) (first n : Int) (w : World) (V : Hds w a r.hs) (_ht : I64 r.t) (_hf : I64 first) (hn : 0 ≤ n ∧ n < 65536) (hi : I64 (r.t - first)) (hh : 1024 < r.hs.length) :
    Calls Try.prog 23 #[recV r a cap, .int .i64 first, .int .i64 n] w fun e w' => e = .returned (.tuple #[.int .i64 0, .int .i64 5]) ∧ Below w.heap.size w w' := by
  obtain ⟨t, kh, kd, vh, vd, hs⟩ := r
  simp only [recV] at *
  go_enter Try.func23, Try.ntmps23
  go_wp2_with (first
    | (go_at_call 34; refine (isnum_yes n _ hn).mono ?_; rintro e w' ⟨rfl, rfl⟩)
    | (go_at_call 35; refine (diff_ok _ _ _ hi).mono ?_; rintro e w' ⟨rfl, rfl⟩))
  go_ret2
  exact ⟨rfl, (Below.refl _ w).alloc (Nat.le_refl _) _⟩
set_option maxHeartbeats 1000000 in
set_option maxRecDepth 20000 in
theorem size_big (r : Rec) (a : Option Addr) (cap : Nat) (first n : Int) (w : World) (V : Hds w a r.hs) (_ht : I64 r.t) (_hf : I64 first) (hn : 0 ≤ n ∧ n < 65536) (hi : I64 (r.t - first)) (hh : r.hs.length ≤ 1024) (hm : Mod r) (hb : 16777216 < (fm (r.t - first) n.toNat r).length) :
    Calls Try.prog 23 #[recV r a cap, .int .i64 first, .int .i64 n] w fun e w' => e = .returned (.tuple #[.int .i64 0, .int .i64 66]) ∧ Below w.heap.size w w' := by
  obtain ⟨N, rfl⟩ : ∃ N : Nat, n = (N : Int) := ⟨n.toNat, by omega⟩
  rw [Int.toNat_natCast] at hb
  have hc := fun w V => formsize_any r a cap (r.t - first) N w V hi (by omega) hm hh
  generalize (fm (r.t - first) N r).length = L at *
  have HC := hid hc
  have HVV := hid V
  clear hc V hm
  obtain ⟨t, kh, kd, vh, vd, hs⟩ := r
  simp only [recV] at *
  go_enter Try.func23, Try.ntmps23
  go_wp2_with (first
    | (go_at_call 34; refine (isnum_yes N _ hn).mono ?_; rintro e w' ⟨rfl, rfl⟩)
    | (go_at_call 35; refine (diff_ok _ _ _ hi).mono ?_; rintro e w' ⟨rfl, rfl⟩)
    | (go_at_call 36; refine (HC.out _ (HVV.out.below ((Below.refl _ w).alloc (Nat.le_refl _) _))).mono ?_; rintro e w' ⟨rfl, hbl⟩))
  go_ret2
  exact ⟨rfl, bel_al hbl⟩
set_option maxHeartbeats 1000000 in
set_option maxRecDepth 20000 in
theorem size_ok (r : Rec) (a : Option Addr) (cap : Nat) (first n : Int) (w : World) (V : Hds w a r.hs) (_ht : I64 r.t) (_hf : I64 first) (hn : 0 ≤ n ∧ n < 65536) (hi : I64 (r.t - first)) (hh : r.hs.length ≤ 1024) (hm : Mod r) (hb : (fm (r.t - first) n.toNat r).length ≤ 16777216) :
    Calls Try.prog 23 #[recV r a cap, .int .i64 first, .int .i64 n] w fun e w' => e = .returned (.tuple #[.int .i64 (fm (r.t - first) n.toNat r).length, .int .i64 0]) ∧ Below w.heap.size w w' := by
  obtain ⟨N, rfl⟩ : ∃ N : Nat, n = (N : Int) := ⟨n.toNat, by omega⟩
  rw [Int.toNat_natCast] at hb ⊢
  have hc := fun w V => formsize_any r a cap (r.t - first) N w V hi (by omega) hm hh
  generalize (fm (r.t - first) N r).length = L at *
  have HC := hid hc
  have HVV := hid V
  clear hc V hm
  obtain ⟨t, kh, kd, vh, vd, hs⟩ := r
  simp only [recV] at *
  go_enter Try.func23, Try.ntmps23
  go_wp2_with (first
    | (go_at_call 34; refine (isnum_yes N _ hn).mono ?_; rintro e w' ⟨rfl, rfl⟩)
    | (go_at_call 35; refine (diff_ok _ _ _ hi).mono ?_; rintro e w' ⟨rfl, rfl⟩)
    | (go_at_call 36; refine (HC.out _ (HVV.out.below ((Below.refl _ w).alloc (Nat.le_refl _) _))).mono ?_; rintro e w' ⟨rfl, hbl⟩))
  go_ret2
  exact ⟨rfl, bel_al hbl⟩
/-- Size. -/
theorem size5_any (r : Rec) (a : Option Addr) (cap : Nat) (first n : Int) (w : World) (V : Hds w a r.hs) (_ht : I64 r.t) (_hf : I64 first) (hm : Mod r) :
    Calls Try.prog 23 #[recV r a cap, .int .i64 first, .int .i64 n] w fun e w' => e = .returned (.tuple #[.int .i64 (szn r first n), .int .i64 (sze r first n)]) ∧ Below w.heap.size w w' := by
  by_cases h1 : 0 ≤ n ∧ n < 65536
  · by_cases h2 : I64 (r.t - first)
    · by_cases h3 : 1024 < r.hs.length
      · have e : sze r first n = 5 := by unfold sze; rw [if_neg (by simpa using h1), if_neg (by simpa using h2), if_pos h3]
        have e2 : szn r first n = 0 := by unfold szn; rw [e]; rfl
        rw [e, e2]
        exact size_most r a cap first n w V _ht _hf h1 h2 h3
      · by_cases h4 : 16777216 < (fm (r.t - first) n.toNat r).length
        · have e : sze r first n = 66 := by unfold sze; rw [if_neg (by simpa using h1), if_neg (by simpa using h2), if_neg h3, if_pos h4]
          have e2 : szn r first n = 0 := by unfold szn; rw [e]; rfl
          rw [e, e2]
          exact size_big r a cap first n w V _ht _hf h1 h2 (by omega) hm h4
        · have e : sze r first n = 0 := by unfold sze; rw [if_neg (by simpa using h1), if_neg (by simpa using h2), if_neg h3, if_neg h4]
          have e2 : szn r first n = (fm (r.t - first) n.toNat r).length := by unfold szn; rw [e]; rfl
          rw [e, e2]
          exact size_ok r a cap first n w V _ht _hf h1 h2 (by omega) hm (by omega)
    · have e : sze r first n = 27 := by unfold sze; rw [if_neg (by simpa using h1), if_pos h2]
      have e2 : szn r first n = 0 := by unfold szn; rw [e]; rfl
      rw [e, e2]
      exact size_far r a cap first n w V _ht _hf h1 h2
  · have e : sze r first n = 1 := by unfold sze; rw [if_pos h1]
    have e2 : szn r first n = 0 := by unfold szn; rw [e]; rfl
    rw [e, e2]
    exact size_no r a cap first n w V _ht _hf h1
end Go.Proofs.Ytlbkkeoffeohnab
