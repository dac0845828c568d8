/- The walk of WholeNames: it answers true; nothing that was there before is turned. -/
import Derived.Test.YtkaoipckjilnbabDoorItoa
namespace Go.Proofs.YtkaoipckjilnbabDoor
open Go.RowKit
/-- The world when the lists of errors have been laid. -/
def W5 (w : World) : World := ((((w.alloc (.cells #[.int .i64 0, .int .i64 1, .int .i64 2, .int .i64 3, .int .i64 4, .int .i64 5, .int .i64 6] 22)).alloc (.cells #[.int .i64 20, .int .i64 21, .int .i64 22, .int .i64 23, .int .i64 24, .int .i64 25, .int .i64 26, .int .i64 27, .int .i64 28, .int .i64 29, .int .i64 30, .int .i64 31] 22)).alloc (.cells #[.int .i64 60, .int .i64 61, .int .i64 62, .int .i64 63, .int .i64 64, .int .i64 65, .int .i64 66] 22)).alloc (.cells #[.int .i64 90, .int .i64 91, .int .i64 92] 22)).alloc (.cells #[.slice (some ⟨w.heap.size, 0, none⟩) 7 7, .slice (some ⟨w.heap.size + 1, 0, none⟩) 12 12, .slice (some ⟨w.heap.size + 1 + 1, 0, none⟩) 7 7, .slice (some ⟨w.heap.size + 1 + 1 + 1, 0, none⟩) 3 3] 23)
theorem W5_size (w : World) : (W5 w).heap.size = w.heap.size + 1 + 1 + 1 + 1 + 1 := by simp [W5]
theorem W5_bel (w : World) : Below w.heap.size w (W5 w) := by
  unfold W5
  exact (((((Below.refl _ _).alloc (Nat.le_refl _) _).alloc (by simp) _).alloc (by simp; omega) _).alloc (by simp; omega) _).alloc (by simp; omega) _
theorem o0 (w : World) : (W5 w).cell? ⟨w.heap.size + 1 + 1 + 1 + 1, 0, none⟩ = some (.slice (some ⟨w.heap.size, 0, none⟩) 7 7) := by unfold W5; go_simp
theorem c0 (w : World) : ∀ j : Nat, j < 7 → (W5 w).cell? ⟨w.heap.size, j, none⟩ = some (.int .i64 (0 + (j : Int)))
  | 0, _ => by unfold W5; go_simp
  | 1, _ => by unfold W5; go_simp
  | 2, _ => by unfold W5; go_simp
  | 3, _ => by unfold W5; go_simp
  | 4, _ => by unfold W5; go_simp
  | 5, _ => by unfold W5; go_simp
  | 6, _ => by unfold W5; go_simp
  | j + 7, h => by omega
theorem o1 (w : World) : (W5 w).cell? ⟨w.heap.size + 1 + 1 + 1 + 1, 1, none⟩ = some (.slice (some ⟨w.heap.size + 1, 0, none⟩) 12 12) := by unfold W5; go_simp
theorem c1 (w : World) : ∀ j : Nat, j < 12 → (W5 w).cell? ⟨w.heap.size + 1, j, none⟩ = some (.int .i64 (20 + (j : Int)))
  | 0, _ => by unfold W5; go_simp
  | 1, _ => by unfold W5; go_simp
  | 2, _ => by unfold W5; go_simp
  | 3, _ => by unfold W5; go_simp
  | 4, _ => by unfold W5; go_simp
  | 5, _ => by unfold W5; go_simp
  | 6, _ => by unfold W5; go_simp
  | 7, _ => by unfold W5; go_simp
  | 8, _ => by unfold W5; go_simp
  | 9, _ => by unfold W5; go_simp
  | 10, _ => by unfold W5; go_simp
  | 11, _ => by unfold W5; go_simp
  | j + 12, h => by omega
theorem o2 (w : World) : (W5 w).cell? ⟨w.heap.size + 1 + 1 + 1 + 1, 2, none⟩ = some (.slice (some ⟨w.heap.size + 1 + 1, 0, none⟩) 7 7) := by unfold W5; go_simp
theorem c2 (w : World) : ∀ j : Nat, j < 7 → (W5 w).cell? ⟨w.heap.size + 1 + 1, j, none⟩ = some (.int .i64 (60 + (j : Int)))
  | 0, _ => by unfold W5; go_simp
  | 1, _ => by unfold W5; go_simp
  | 2, _ => by unfold W5; go_simp
  | 3, _ => by unfold W5; go_simp
  | 4, _ => by unfold W5; go_simp
  | 5, _ => by unfold W5; go_simp
  | 6, _ => by unfold W5; go_simp
  | j + 7, h => by omega
theorem o3 (w : World) : (W5 w).cell? ⟨w.heap.size + 1 + 1 + 1 + 1, 3, none⟩ = some (.slice (some ⟨w.heap.size + 1 + 1 + 1, 0, none⟩) 3 3) := by unfold W5; go_simp
theorem c3 (w : World) : ∀ j : Nat, j < 3 → (W5 w).cell? ⟨w.heap.size + 1 + 1 + 1, j, none⟩ = some (.int .i64 (90 + (j : Int)))
  | 0, _ => by unfold W5; go_simp
  | 1, _ => by unfold W5; go_simp
  | 2, _ => by unfold W5; go_simp
  | j + 3, h => by omega
set_option maxHeartbeats 2000000 in
set_option maxRecDepth 20000 in
theorem names_walk (w : World) : Calls Tryd.prog 3 #[] w fun e w' => e = .returned (.bool true) ∧ Below w.heap.size w w' := by
  go_enter Tryd.func3, Tryd.ntmps3
  go_wp2
  go_loopw [20] (fun i wr => ∃ k : Nat, k ≤ 4 ∧ i = .int .i64 k ∧ Hid (Below (W5 w).heap.size (W5 w) wr)) (fun i _ => 4 - (intOf i).toNat)
  case atStart => exact ⟨0, by omega, rfl, Below.refl _ (W5 w)⟩
  case round =>
    obtain ⟨k, hk, rfl, hbr⟩ := hrel
    have hz := W5_size w
    have hsz := hbr.out.size
    rw [hz] at hsz
    have hcc : Hid (∀ b o, b < w.heap.size + 1 + 1 + 1 + 1 + 1 → wr.cell? ⟨b, o, none⟩ = (W5 w).cell? ⟨b, o, none⟩) := fun b o h => hbr.out.cell (p := ⟨b, o, none⟩) (by rw [hz]; exact h)
    clear hz
    obtain rfl | rfl | rfl | rfl | rfl : k = 0 ∨ k = 1 ∨ k = 2 ∨ k = 3 ∨ k = 4 := by omega
    · have ho : wr.cell? ⟨w.heap.size + 1 + 1 + 1 + 1, 0, none⟩ = some (.slice (some ⟨w.heap.size, 0, none⟩) 7 7) := (hcc.out _ _ (by omega)).trans (o0 w)
      go_wp2
      go_loop [31] (fun i => ∃ j : Nat, j ≤ 7 ∧ i = .int .i64 j) (fun i => 7 - (intOf i).toNat)
      case atStart => exact ⟨0, by omega, rfl⟩
      case round =>
        obtain ⟨j, hj, rfl⟩ := hrel
        by_cases hlt : j < 7
        · have hci : ∀ o, (wr.alloc o).cell? ⟨w.heap.size, j, none⟩ = some (.int .i64 (0 + (j : Int))) := fun o => (World.cell?_alloc_lt _ _ _ (by show w.heap.size < wr.heap.size; omega)).trans ((hcc.out _ _ (by omega)).trans (c0 w j hlt))
          go_wp2_with (go_at_call 4; refine (err_any _ _ (by omega) (by omega)).mono ?_; rintro e w' ⟨t, rfl, ht, rfl⟩)
          go_round
          case rel =>
            refine ⟨trivial, ?_⟩
            (repeat apply Exists.intro)
            exact ⟨⟨j + 1, by omega, by go_num⟩, rfl⟩
          case measure => simp [intOf]; omega
        · go_wp2
          go_roundw
          case rel => exact ⟨1, by omega, by go_num, hbr.out.alloc hbr.out.size _⟩
          case measure => simp [intOf]
    · have ho : wr.cell? ⟨w.heap.size + 1 + 1 + 1 + 1, 1, none⟩ = some (.slice (some ⟨w.heap.size + 1, 0, none⟩) 12 12) := (hcc.out _ _ (by omega)).trans (o1 w)
      go_wp2
      go_loop [31] (fun i => ∃ j : Nat, j ≤ 12 ∧ i = .int .i64 j) (fun i => 12 - (intOf i).toNat)
      case atStart => exact ⟨0, by omega, rfl⟩
      case round =>
        obtain ⟨j, hj, rfl⟩ := hrel
        by_cases hlt : j < 12
        · have hci : ∀ o, (wr.alloc o).cell? ⟨w.heap.size + 1, j, none⟩ = some (.int .i64 (20 + (j : Int))) := fun o => (World.cell?_alloc_lt _ _ _ (by show w.heap.size + 1 < wr.heap.size; omega)).trans ((hcc.out _ _ (by omega)).trans (c1 w j hlt))
          go_wp2_with (go_at_call 4; refine (err_any _ _ (by omega) (by omega)).mono ?_; rintro e w' ⟨t, rfl, ht, rfl⟩)
          go_round
          case rel =>
            refine ⟨trivial, ?_⟩
            (repeat apply Exists.intro)
            exact ⟨⟨j + 1, by omega, by go_num⟩, rfl⟩
          case measure => simp [intOf]; omega
        · go_wp2
          go_roundw
          case rel => exact ⟨2, by omega, by go_num, hbr.out.alloc hbr.out.size _⟩
          case measure => simp [intOf]
    · have ho : wr.cell? ⟨w.heap.size + 1 + 1 + 1 + 1, 2, none⟩ = some (.slice (some ⟨w.heap.size + 1 + 1, 0, none⟩) 7 7) := (hcc.out _ _ (by omega)).trans (o2 w)
      go_wp2
      go_loop [31] (fun i => ∃ j : Nat, j ≤ 7 ∧ i = .int .i64 j) (fun i => 7 - (intOf i).toNat)
      case atStart => exact ⟨0, by omega, rfl⟩
      case round =>
        obtain ⟨j, hj, rfl⟩ := hrel
        by_cases hlt : j < 7
        · have hci : ∀ o, (wr.alloc o).cell? ⟨w.heap.size + 1 + 1, j, none⟩ = some (.int .i64 (60 + (j : Int))) := fun o => (World.cell?_alloc_lt _ _ _ (by show w.heap.size + 1 + 1 < wr.heap.size; omega)).trans ((hcc.out _ _ (by omega)).trans (c2 w j hlt))
          go_wp2_with (go_at_call 4; refine (err_any _ _ (by omega) (by omega)).mono ?_; rintro e w' ⟨t, rfl, ht, rfl⟩)
          go_round
          case rel =>
            refine ⟨trivial, ?_⟩
            (repeat apply Exists.intro)
            exact ⟨⟨j + 1, by omega, by go_num⟩, rfl⟩
          case measure => simp [intOf]; omega
        · go_wp2
          go_roundw
          case rel => exact ⟨3, by omega, by go_num, hbr.out.alloc hbr.out.size _⟩
          case measure => simp [intOf]
    · have ho : wr.cell? ⟨w.heap.size + 1 + 1 + 1 + 1, 3, none⟩ = some (.slice (some ⟨w.heap.size + 1 + 1 + 1, 0, none⟩) 3 3) := (hcc.out _ _ (by omega)).trans (o3 w)
      go_wp2
      go_loop [31] (fun i => ∃ j : Nat, j ≤ 3 ∧ i = .int .i64 j) (fun i => 3 - (intOf i).toNat)
      case atStart => exact ⟨0, by omega, rfl⟩
      case round =>
        obtain ⟨j, hj, rfl⟩ := hrel
        by_cases hlt : j < 3
        · have hci : ∀ o, (wr.alloc o).cell? ⟨w.heap.size + 1 + 1 + 1, j, none⟩ = some (.int .i64 (90 + (j : Int))) := fun o => (World.cell?_alloc_lt _ _ _ (by show w.heap.size + 1 + 1 + 1 < wr.heap.size; omega)).trans ((hcc.out _ _ (by omega)).trans (c3 w j hlt))
          go_wp2_with (go_at_call 4; refine (err_any _ _ (by omega) (by omega)).mono ?_; rintro e w' ⟨t, rfl, ht, rfl⟩)
          go_round
          case rel =>
            refine ⟨trivial, ?_⟩
            (repeat apply Exists.intro)
            exact ⟨⟨j + 1, by omega, by go_num⟩, rfl⟩
          case measure => simp [intOf]; omega
        · go_wp2
          go_roundw
          case rel => exact ⟨4, by omega, by go_num, hbr.out.alloc hbr.out.size _⟩
          case measure => simp [intOf]
    · go_wp2
      go_ret
      exact ⟨rfl, (W5_bel w).trans (hbr.out.mono (W5_bel w).size)⟩
end Go.Proofs.YtkaoipckjilnbabDoor
