/- The document's Parse: the whole. -/
import Derived.Test.YtgffipkbbenddaaDoorRpr
namespace Go.Proofs.YtgffipkbbenddaaDoor
open Go.RowKit Go.Lib
theorem prs_len {l : List UInt8} (h : l.length ≠ 24) : prs l = none := by
  unfold prs
  rw [kd_len (by rw [List.length_drop]; omega)]
  cases dgt 0 (l.take 20) <;> rfl
set_option maxRecDepth 20000 in
theorem rparse_any (s : ByteArray) (w : World) (hs : s.size ≤ 140737488355328) :
    Calls Tryd.prog 13 #[.string s] w fun e w' => e = .returned (prV (prs s.data.toList)) ∧ w' = w := by
  by_cases h : s.size = 24
  · have h' : ((s.size : Int) == 24) = true := by simp; omega
    have h2 : (20 : Int) ≤ s.size := by omega
    have hsI : (s.size : Int) = 24 := by omega
    have eX := ext_take s 20
    have eY := ext_drop s 20
    rw [h] at eY
    have hXs : (s.extract 0 20).size ≤ 140737488355328 := by rw [ByteArray.size_extract, Nat.min_def]; split <;> omega
    have HD := hid (digits_any (s.extract 0 20) w hXs)
    have HE : Hid (∀ k : Int, Calls Tryd.prog 23 #[.int .i64 k] w fun e w' => e = .returned (.tuple #[.string (ndV k).1, .bool (ndV k).2]) ∧ w' = w) := fun k => ending_any k w
    unfold prs
    rw [← eX, ← eY]
    clear eX eY hXs hs
    have HK := hid (kd_ba (s.extract 20 24))
    generalize dgt 0 (s.extract 0 20).data.toList = A at *
    generalize kd (s.extract 20 24).data.toList = B at *
    cases A with
    | none =>
      simp only [dgV] at HD
      go_enter Tryd.func13, Tryd.ntmps13
      go_wp2_with (go_at_call 26; refine HD.out.mono ?_; rintro e w1 ⟨rfl, rfl⟩)
      go_loopg [7] 0 (fun k i wr => wr = w1 ∧ k = 0 ∧ i = .int .i64 0)
      case atStart => exact ⟨rfl, rfl, rfl⟩
      case round =>
        obtain ⟨rfl, rfl, rfl⟩ := hrel
        go_wp2_with fail
        go_ret3
        exact ⟨by cases B <;> rfl, rfl⟩
    | some a =>
      simp only [dgV] at HD
      have E0 : Hid (∀ w, Calls Tryd.prog 23 #[.int .i64 0] w fun e w' => e = .returned (.tuple #[.string (ba (en 0)), .bool true]) ∧ w' = w) := fun w => ending_any 0 w
      have E1 : Hid (∀ w, Calls Tryd.prog 23 #[.int .i64 1] w fun e w' => e = .returned (.tuple #[.string (ba (en 1)), .bool true]) ∧ w' = w) := fun w => ending_any 1 w
      have E2 : Hid (∀ w, Calls Tryd.prog 23 #[.int .i64 2] w fun e w' => e = .returned (.tuple #[.string (ba (en 2)), .bool true]) ∧ w' = w) := fun w => ending_any 2 w
      generalize ba (en 0) = X0 at *
      generalize ba (en 1) = X1 at *
      generalize ba (en 2) = X2 at *
      clear HE
      go_enter Tryd.func13, Tryd.ntmps13
      go_wp2_with (go_at_call 26; refine HD.out.mono ?_; rintro e w1 ⟨rfl, rfl⟩)
      go_loopg [7] 3 (fun k i wr => wr = w1 ∧ ((k = 3 ∧ i = .int .i64 0) ∨ (k = 2 ∧ i = .int .i64 1 ∧ s.extract 20 24 ≠ X0) ∨ (k = 1 ∧ i = .int .i64 2 ∧ s.extract 20 24 ≠ X0 ∧ s.extract 20 24 ≠ X1) ∨ (k = 0 ∧ i = .int .i64 3 ∧ s.extract 20 24 ≠ X0 ∧ s.extract 20 24 ≠ X1 ∧ s.extract 20 24 ≠ X2)))
      case atStart => exact ⟨rfl, Or.inl ⟨rfl, rfl⟩⟩
      case round =>
        clear HD
        obtain ⟨rfl, ⟨rfl, rfl⟩ | ⟨rfl, rfl, h0⟩ | ⟨rfl, rfl, h0, h1⟩ | ⟨rfl, rfl, h0, h1, h2⟩⟩ := hrel
        · by_cases h : s.extract 20 24 = X0
          · have hR := HK.out.1 h
            have hq : ((s.extract 20 24).toList == X0.toList) = true := by rw [h]; simp
            go_wp2_with (go_at_call 23; refine (E0.out wr).mono ?_; rintro e w9 ⟨rfl, rfl⟩)
            go_ret3
            exact ⟨by rw [hR]; rfl, rfl⟩
          · have hq := tl_ne h
            go_wp2_with (go_at_call 23; refine (E0.out wr).mono ?_; rintro e w9 ⟨rfl, rfl⟩)
            go_roundg 2
            case measure => omega
            case rel => exact ⟨rfl, Or.inr (Or.inl ⟨rfl, rfl, h⟩)⟩
        · by_cases h : s.extract 20 24 = X1
          · have hR := HK.out.2.1 h0 h
            have hq : ((s.extract 20 24).toList == X1.toList) = true := by rw [h]; simp
            go_wp2_with (go_at_call 23; refine (E1.out wr).mono ?_; rintro e w9 ⟨rfl, rfl⟩)
            go_ret3
            exact ⟨by rw [hR]; rfl, rfl⟩
          · have hq := tl_ne h
            go_wp2_with (go_at_call 23; refine (E1.out wr).mono ?_; rintro e w9 ⟨rfl, rfl⟩)
            go_roundg 1
            case measure => omega
            case rel => exact ⟨rfl, Or.inr (Or.inr (Or.inl ⟨rfl, rfl, h0, h⟩))⟩
        · by_cases h : s.extract 20 24 = X2
          · have hR := HK.out.2.2.1 h0 h1 h
            have hq : ((s.extract 20 24).toList == X2.toList) = true := by rw [h]; simp
            go_wp2_with (go_at_call 23; refine (E2.out wr).mono ?_; rintro e w9 ⟨rfl, rfl⟩)
            go_ret3
            exact ⟨by rw [hR]; rfl, rfl⟩
          · have hq := tl_ne h
            go_wp2_with (go_at_call 23; refine (E2.out wr).mono ?_; rintro e w9 ⟨rfl, rfl⟩)
            go_roundg 0
            case measure => omega
            case rel => exact ⟨rfl, Or.inr (Or.inr (Or.inr ⟨rfl, rfl, h0, h1, h⟩))⟩
        · have hR := HK.out.2.2.2 h0 h1 h2
          go_wp2_with fail
          go_ret3
          exact ⟨by rw [hR]; rfl, rfl⟩
  · have h' : ((s.size : Int) == 24) = false := by simp; omega
    rw [prs_len (by rw [len_]; exact h)]
    go_enter Tryd.func13, Tryd.ntmps13
    go_wp2_with fail
    go_ret3
    exact ⟨rfl, rfl⟩
end Go.Proofs.YtgffipkbbenddaaDoor
