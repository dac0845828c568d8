/- Parse: the program's and the document's. -/
import Derived.Test.YtgffipkbbenddaaDoorRnm
namespace Go.Proofs.YtgffipkbbenddaaDoor
open Go.RowKit Go.Lib
theorem bytes_below (w : World) (s : ByteArray) : Below w.heap.size w (bytesWorld w 5 s) := ⟨rfl, rfl, rfl, by rw [bytesWorld_size]; omega, fun k hk => bytesWorld_at_old w 5 s k hk⟩
theorem pu_ok (s : ByteArray) (u : Nat) (w : World) (hs : s.size ≤ 140737488355328) (h : parseUintB 64 s.data.toList = .ok u) :
    Calls Tryd.prog 39 #[.string s, .int .i64 10, .int .i64 64] w fun e w' => e = .returned (.tuple #[.int .u64 u, .nilIface]) ∧ Below w.heap.size w w' := by
  refine (YtgffipkbbenddaaDoor.strconv_ParseUint_10_at64_ok s (by omega) u h w).mono ?_
  rintro e w' ⟨rfl, rfl | rfl⟩
  · exact ⟨rfl, Below.refl _ _⟩
  · exact ⟨rfl, bytes_below w s⟩
theorem pu_no (s : ByteArray) (w : World) (hs : s.size ≤ 140737488355328) (h : ∀ u, parseUintB 64 s.data.toList ≠ .ok u) (G : Gd w) :
    Calls Tryd.prog 39 #[.string s, .int .i64 10, .int .i64 64] w fun e w' => (∃ (u : Nat) (t : TypeId) (v : Value), u < 18446744073709551616 ∧ e = .returned (.tuple #[.int .u64 u, .iface t v])) ∧ Below w.heap.size w w' := by
  obtain ⟨te, pe, h3⟩ := G.sy
  obtain ⟨te', pe', h4⟩ := G.ra
  cases hp : parseUintB 64 s.data.toList with
  | ok u => exact absurd hp (h u)
  | «syntax» =>
    refine (YtgffipkbbenddaaDoor.strconv_ParseUint_10_at64_syntax s (by omega) hp _ w h3 (Or.inr ⟨_, _, rfl⟩)).mono ?_
    rintro e w' ⟨n, rfl, _, _, hb⟩
    exact ⟨⟨0, _, _, by decide, rfl⟩, hb⟩
  | range =>
    refine (YtgffipkbbenddaaDoor.strconv_ParseUint_10_at64_range s (by omega) hp _ w h4 (Or.inr ⟨_, _, rfl⟩)).mono ?_
    rintro e w' ⟨n, rfl, _, _, hb⟩
    exact ⟨⟨18446744073709551615, _, _, by decide, rfl⟩, hb⟩
theorem base_ok (s : ByteArray) (u : Nat) (w : World) (hs : s.size ≤ 140737488355328) (h : parseUintB 64 s.data.toList = .ok u) (hu : u ≤ 4611686018427387904) :
    Calls Tryd.prog 24 #[.string s] w fun e w' => e = .returned (.tuple #[.int .i64 u, .bool true]) ∧ Below w.heap.size w w' := by
  have HP := hid (pu_ok s u w hs h)
  have hu' : (u : Int) ≤ 4611686018427387904 := by omega
  clear h hs hu
  go_enter Tryd.func24, Tryd.ntmps24
  go_wp2_with (go_at_call 39; refine HP.out.mono ?_; rintro e w1 ⟨rfl, hb1⟩)
  go_ret2
  exact ⟨rfl, hb1⟩
theorem base_gr (s : ByteArray) (u : Nat) (w : World) (hs : s.size ≤ 140737488355328) (h : parseUintB 64 s.data.toList = .ok u) (hu : 4611686018427387904 < u) :
    Calls Tryd.prog 24 #[.string s] w fun e w' => (∃ x, e = .returned (.tuple #[.int .i64 x, .bool false])) ∧ Below w.heap.size w w' := by
  have HP := hid (pu_ok s u w hs h)
  have hu' : decide ((u : Int) ≤ 4611686018427387904) = false := decide_eq_false (by omega)
  clear h hs hu
  go_enter Tryd.func24, Tryd.ntmps24
  go_wp2_with (go_at_call 39; refine HP.out.mono ?_; rintro e w1 ⟨rfl, hb1⟩)
  go_ret2
  exact ⟨⟨_, rfl⟩, hb1⟩
theorem base_no (s : ByteArray) (w : World) (hs : s.size ≤ 140737488355328) (h : ∀ u, parseUintB 64 s.data.toList ≠ .ok u) (G : Gd w) :
    Calls Tryd.prog 24 #[.string s] w fun e w' => (∃ x, e = .returned (.tuple #[.int .i64 x, .bool false])) ∧ Below w.heap.size w w' := by
  have HP := hid (pu_no s w hs h G)
  clear h hs G
  go_enter Tryd.func24, Tryd.ntmps24
  go_wp2_with (go_at_call 39; refine HP.out.mono ?_; rintro e w1 ⟨⟨u, t, v, hu, rfl⟩, hb1⟩)
  go_ret2
  exact ⟨⟨_, rfl⟩, hb1⟩
theorem kd_ba (s : ByteArray) : (s = ba (en 0) → kd s.data.toList = some 0) ∧ (s ≠ ba (en 0) → s = ba (en 1) → kd s.data.toList = some 1) ∧ (s ≠ ba (en 0) → s ≠ ba (en 1) → s = ba (en 2) → kd s.data.toList = some 2) ∧ (s ≠ ba (en 0) → s ≠ ba (en 1) → s ≠ ba (en 2) → kd s.data.toList = none) := by
  have h : ∀ l, s = ba l ↔ s.data.toList = l := fun l => ⟨fun e => by rw [e]; simp [ba], fun e => by rw [← e, ba_of]⟩
  simp only [ne_eq, h, kd]
  refine ⟨fun e => if_pos e, fun e0 e1 => ?_, fun e0 e1 e2 => ?_, fun e0 e1 e2 => ?_⟩
  · rw [if_neg e0, if_pos e1]
  · rw [if_neg e0, if_neg e1, if_pos e2]
  · rw [if_neg e0, if_neg e1, if_neg e2]
theorem tl_inj {s t : ByteArray} (h : s.toList = t.toList) : s = t := by
  have e : ∀ x : ByteArray, x.toList = x.data.toList := fun x => by exact ByteArray.toList_eq x
  rw [e, e] at h
  rw [← ba_of s, ← ba_of t, h]
theorem tl_ne {s t : ByteArray} (h : s ≠ t) : (s.toList == t.toList) = false := by
  cases hq : (s.toList == t.toList) with
  | false => rfl
  | true => exact absurd (tl_inj (eq_of_beq hq)) h
theorem idx0 (E0 E1 E2 : ByteArray) (w : World) : (Instr.index 54 (.agg #[.string E0, .string E1, .string E2]) (.int .i64 0)).run Tryd.prog w = .ok (.string E0) w := by kernel_rfl
theorem idx1 (E0 E1 E2 : ByteArray) (w : World) : (Instr.index 54 (.agg #[.string E0, .string E1, .string E2]) (.int .i64 1)).run Tryd.prog w = .ok (.string E1) w := by kernel_rfl
theorem idx2 (E0 E1 E2 : ByteArray) (w : World) : (Instr.index 54 (.agg #[.string E0, .string E1, .string E2]) (.int .i64 2)).run Tryd.prog w = .ok (.string E2) w := by kernel_rfl
set_option maxRecDepth 20000 in
theorem kind_any (s : ByteArray) (w : World) (G : Gd w) :
    Calls Tryd.prog 25 #[.string s] w fun e w' => e = .returned (.tuple #[.int .i64 (((kd s.data.toList).getD 0 : Nat) : Int), .bool (kd s.data.toList).isSome]) ∧ Below w.heap.size w w' := by
  obtain ⟨t, fz, h0⟩ := G.g0
  have c0 : w.cell? ⟨0, 0, none⟩ = some (.string (ba (en 0))) := (cell_of h0).trans rfl
  have c1 : w.cell? ⟨0, 1, none⟩ = some (.string (ba (en 1))) := (cell_of h0).trans rfl
  have c2 : w.cell? ⟨0, 2, none⟩ = some (.string (ba (en 2))) := (cell_of h0).trans rfl
  have HK : Hid ((s = ba (en 0) → kd s.data.toList = some 0) ∧ (s ≠ ba (en 0) → s = ba (en 1) → kd s.data.toList = some 1) ∧ (s ≠ ba (en 0) → s ≠ ba (en 1) → s = ba (en 2) → kd s.data.toList = some 2) ∧ (s ≠ ba (en 0) → s ≠ ba (en 1) → s ≠ ba (en 2) → kd s.data.toList = none)) := kd_ba s
  generalize kd s.data.toList = R at *
  generalize ba (en 0) = E0 at *
  generalize ba (en 1) = E1 at *
  generalize ba (en 2) = E2 at *
  clear h0 G
  go_enter Tryd.func25, Tryd.ntmps25
  go_wp2_with fail
  go_loopg [7] 3 (fun k i wr => wr = w ∧ ((k = 3 ∧ i = .int .i64 0) ∨ (k = 2 ∧ i = .int .i64 1 ∧ s ≠ E0) ∨ (k = 1 ∧ i = .int .i64 2 ∧ s ≠ E0 ∧ s ≠ E1) ∨ (k = 0 ∧ i = .int .i64 3 ∧ s ≠ E0 ∧ s ≠ E1 ∧ s ≠ E2)))
  case atStart => exact ⟨rfl, Or.inl ⟨rfl, rfl⟩⟩
  case round =>
    obtain ⟨rfl, ⟨rfl, rfl⟩ | ⟨rfl, rfl, h0⟩ | ⟨rfl, rfl, h0, h1⟩ | ⟨rfl, rfl, h0, h1, h2⟩⟩ := hrel
    · have hi := idx0 E0 E1 E2 wr
      by_cases h : s = E0
      · have hR := HK.out.1 h
        have hq : (s.toList == E0.toList) = true := by rw [h]; simp
        go_wp2_with fail
        go_ret2
        exact ⟨by rw [hR]; rfl, Below.refl _ _⟩
      · have hq := tl_ne h
        go_wp2_with fail
        go_roundg 2
        case measure => omega
        case rel => exact ⟨rfl, Or.inr (Or.inl ⟨rfl, rfl, h⟩)⟩
    · have hi := idx1 E0 E1 E2 wr
      by_cases h : s = E1
      · have hR := HK.out.2.1 h0 h
        have hq : (s.toList == E1.toList) = true := by rw [h]; simp
        go_wp2_with fail
        go_ret2
        exact ⟨by rw [hR]; rfl, Below.refl _ _⟩
      · have hq := tl_ne h
        go_wp2_with fail
        go_roundg 1
        case measure => omega
        case rel => exact ⟨rfl, Or.inr (Or.inr (Or.inl ⟨rfl, rfl, h0, h⟩))⟩
    · have hi := idx2 E0 E1 E2 wr
      by_cases h : s = E2
      · have hR := HK.out.2.2.1 h0 h1 h
        have hq : (s.toList == E2.toList) = true := by rw [h]; simp
        go_wp2_with fail
        go_ret2
        exact ⟨by rw [hR]; rfl, Below.refl _ _⟩
      · have hq := tl_ne h
        go_wp2_with fail
        go_roundg 0
        case measure => omega
        case rel => exact ⟨rfl, Or.inr (Or.inr (Or.inr ⟨rfl, rfl, h0, h1, h⟩))⟩
    · have hR := HK.out.2.2.2 h0 h1 h2
      go_wp2_with fail
      go_ret2
      exact ⟨by rw [hR]; rfl, Below.refl _ _⟩
end Go.Proofs.YtgffipkbbenddaaDoor
