/- Parse: the program's. -/
import Derived.Test.YtgffipkbbenddaaDoorPrs
namespace Go.Proofs.YtgffipkbbenddaaDoor
open Go.RowKit Go.Lib
theorem base_any (s : ByteArray) (w : World) (hs : s.size ≤ 140737488355328) (hne : s.data.toList ≠ []) (G : Gd w) :
    Calls Tryd.prog 24 #[.string s] w fun e w' => (∃ x, e = .returned (.tuple #[.int .i64 x, .bool (dgt 0 s.data.toList).isSome]) ∧ ∀ u : Nat, dgt 0 s.data.toList = some u → x = u) ∧ Below w.heap.size w w' := by
  have hB : parseUintB 64 s.data.toList = parseUintM 18446744073709551615 0 s.data.toList := by unfold parseUintB; rw [if_neg hne]
  have hd : ∀ v, dgt 0 s.data.toList = some v → parseUintB 64 s.data.toList = .ok v ∧ v ≤ 4611686018427387904 := fun v hv => by
    rw [hB]
    exact (dgt_pu _ _ _).2 ⟨hv, dgt_le _ _ _ hv (by decide)⟩
  cases hq : dgt 0 s.data.toList with
  | some v =>
    obtain ⟨h1, h2⟩ := hd v hq
    refine (base_ok s v w hs h1 h2).mono ?_
    rintro e w' ⟨rfl, hb⟩
    exact ⟨⟨v, rfl, fun u hu => by cases hu; rfl⟩, hb⟩
  | none =>
    have key : Calls Tryd.prog 24 #[.string s] w fun e w' => (∃ x, e = .returned (.tuple #[.int .i64 x, .bool false])) ∧ Below w.heap.size w w' := by
      by_cases h : ∃ u, parseUintB 64 s.data.toList = .ok u
      · obtain ⟨u, hu⟩ := h
        refine base_gr s u w hs hu (Nat.lt_of_not_le fun hle => ?_)
        rw [hB] at hu
        have := ((dgt_pu _ _ _).1 ⟨hu, hle⟩).1
        rw [hq] at this
        cases this
      · exact base_no s w hs (fun u hu => h ⟨u, hu⟩) G
    refine key.mono ?_
    rintro e w' ⟨⟨x, rfl⟩, hb⟩
    exact ⟨⟨x, rfl, fun u hu => by cases hu⟩, hb⟩
/-- What Parse answers. -/
def prV : Option (Nat × Nat) → Value
  | some (b, k) => .tuple #[.int .i64 b, .int .i64 k, .bool true]
  | none => .tuple #[.int .i64 0, .int .i64 0, .bool false]
theorem ext_take (s : ByteArray) (n : Nat) : (s.extract 0 n).data.toList = s.data.toList.take n := by
  rw [ByteArray.data_extract, Array.toList_extract]
  simp
theorem ext_drop (s : ByteArray) (n : Nat) : (s.extract n s.size).data.toList = s.data.toList.drop n := by
  rw [ByteArray.data_extract, Array.toList_extract]
  have : s.data.toList.length = s.size := Array.length_toList
  simp only [List.extract_eq_take_drop] at *
  rw [List.take_of_length_le (by rw [List.length_drop]; omega)]
theorem len_ (s : ByteArray) : s.data.toList.length = s.size := Array.length_toList
theorem prs_short {l : List UInt8} (h : l.length < 20) : prs l = none := by
  unfold prs
  rw [List.drop_eq_nil_of_le (by omega), kd_len (by simp)]
  cases dgt 0 (l.take 20) <;> rfl
set_option maxRecDepth 20000 in
theorem parse_any (s : ByteArray) (w : World) (hs : s.size ≤ 140737488355328) (G : Gd w) :
    Calls Tryd.prog 12 #[.string s] w fun e w' => e = .returned (prV (prs s.data.toList)) ∧ Below w.heap.size w w' := by
  by_cases h : s.size < 20
  · rw [prs_short (by rw [len_]; exact h)]
    have h' : (s.size : Int) < 20 := by omega
    go_enter Tryd.func12, Tryd.ntmps12
    go_wp2_with fail
    go_ret3
    exact ⟨rfl, Below.refl _ _⟩
  · have h' : ¬ (s.size : Int) < 20 := by omega
    have h2 : (20 : Int) ≤ s.size := by omega
    have eX := ext_take s 20
    have eY := ext_drop s 20
    have hXs : (s.extract 0 20).size ≤ 140737488355328 := by rw [ByteArray.size_extract, Nat.min_def]; split <;> omega
    have hXn : (s.extract 0 20).data.toList ≠ [] := fun e => by rw [eX] at e; have := congrArg List.length e; rw [List.length_take, len_, List.length_nil] at this; omega
    have HB := hid (base_any (s.extract 0 20) w hXs hXn G)
    have HK : Hid (∀ wx, Below w.heap.size w wx → Calls Tryd.prog 25 #[.string (s.extract 20 s.size)] wx fun e w' => e = .returned (.tuple #[.int .i64 (((kd (s.extract 20 s.size).data.toList).getD 0 : Nat) : Int), .bool (kd (s.extract 20 s.size).data.toList).isSome]) ∧ Below w.heap.size w w') := fun wx hx => by
      refine (kind_any (s.extract 20 s.size) wx (G.kept hx (Nat.le_refl _))).mono ?_
      rintro e w' ⟨rfl, hb⟩
      exact ⟨rfl, hx.trans (hb.mono hx.size)⟩
    unfold prs
    rw [← eX, ← eY]
    clear eX eY hXs hXn G hs h
    generalize dgt 0 (s.extract 0 20).data.toList = A at *
    generalize kd (s.extract 20 s.size).data.toList = B at *
    cases A with
    | none =>
      cases B with
      | none =>
        simp only [Option.isSome, Option.getD] at HB HK
        go_enter Tryd.func12, Tryd.ntmps12
        go_wp2_with (first | (go_at_call 24; refine HB.out.mono ?_; rintro e w1 ⟨⟨x, rfl, hx⟩, hb1⟩) | (go_at_call 25; refine (HK.out _ hb1).mono ?_; rintro e w2 ⟨rfl, hb2⟩))
        go_ret3
        exact ⟨rfl, hb2⟩
      | some k =>
        simp only [Option.isSome, Option.getD] at HB HK
        go_enter Tryd.func12, Tryd.ntmps12
        go_wp2_with (first | (go_at_call 24; refine HB.out.mono ?_; rintro e w1 ⟨⟨x, rfl, hx⟩, hb1⟩) | (go_at_call 25; refine (HK.out _ hb1).mono ?_; rintro e w2 ⟨rfl, hb2⟩))
        go_ret3
        exact ⟨rfl, hb2⟩
    | some a =>
      cases B with
      | none =>
        simp only [Option.isSome, Option.getD] at HB HK
        go_enter Tryd.func12, Tryd.ntmps12
        go_wp2_with (first | (go_at_call 24; refine HB.out.mono ?_; rintro e w1 ⟨⟨x, rfl, hx⟩, hb1⟩; obtain rfl := hx _ rfl) | (go_at_call 25; refine (HK.out _ hb1).mono ?_; rintro e w2 ⟨rfl, hb2⟩))
        go_ret3
        exact ⟨rfl, hb2⟩
      | some k =>
        simp only [Option.isSome, Option.getD] at HB HK
        go_enter Tryd.func12, Tryd.ntmps12
        go_wp2_with (first | (go_at_call 24; refine HB.out.mono ?_; rintro e w1 ⟨⟨x, rfl, hx⟩, hb1⟩; obtain rfl := hx _ rfl) | (go_at_call 25; refine (HK.out _ hb1).mono ?_; rintro e w2 ⟨rfl, hb2⟩))
        go_ret3
        exact ⟨rfl, hb2⟩
end Go.Proofs.YtgffipkbbenddaaDoor
