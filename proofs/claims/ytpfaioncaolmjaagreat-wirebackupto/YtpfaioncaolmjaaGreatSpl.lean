/- The document's examples: the call that spells them answers true; nothing that was there before is turned. -/
import Derived.Test.YtpfaioncaolmjaaGreatWm
import Derived.Test.YtpfaioncaolmjaaGreatRmA
import Derived.Test.YtpfaioncaolmjaaGreatRmD
namespace Go.Proofs.YtpfaioncaolmjaaGreat
open Go.RowKit
theorem ch_bel {S : Nat → Prop} {w0 w w' : World} (hb : Below w0.heap.size w0 w) (hc : Ch S w w') (hS : ∀ i, i < w0.heap.size → ¬ S i) : Below w0.heap.size w0 w' := hb.trans (hc.below hb.size hS)
theorem drewN_belS {w0 w : World} (hb : Below w0.heap.size w0 w) (n : Nat) : Below w0.heap.size w0 (w.drewN n) := ⟨hb.os, hb.tape, hb.output, hb.size, hb.block⟩
theorem ex_a : ([] ++ nb 2 258 ++ nb 4 ((-2 : Int) % 4294967296).toNat ++ M.form 300 ++ M.form (M.zz (-1)).toNat : List Nat) = [1, 2, 255, 255, 255, 254, 172, 2, 1] := by decide
theorem ex_b : bs [1, 2, 255, 255, 255, 254, 172, 2, 1] = ⟨#[1, 2, 255, 255, 255, 254, 172, 2, 1]⟩ := by decide
theorem ex_c : tq 9 ⟨#[2, 97, 98, 5, 120]⟩ 0 0 = (⟨#[97, 98]⟩, 3, 0) := by kernel_rfl
theorem ex_d : tq 9 ⟨#[2, 97, 98, 5, 120]⟩ 3 0 = (⟨#[]⟩, 3, 21) := by kernel_rfl
theorem ex_e : fx 1 ⟨#[2, 97, 98, 5, 120]⟩ 3 21 = (0, 3, 21) := by kernel_rfl
theorem ex_f : dq ⟨#[2, 97, 98, 5, 120]⟩ 3 21 = 21 := by kernel_rfl
theorem ex_z : (⟨#[2, 97, 98, 5, 120]⟩ : ByteArray).size = 5 := rfl
set_option maxHeartbeats 2000000 in
set_option maxRecDepth 20000 in
theorem spells_any (w : World) :
    Calls Tryz.prog 5 #[] w fun e w' => e = .returned (.bool true) ∧ Below w.heap.size w w' := by
  go_enter Tryz.func5, Tryz.ntmps5
  go_wp2_with fail
  refine (newwriter_any w).mono ?_
  rintro e w0 ⟨rfl, rfl⟩
  have hw0 : Wr (w.alloc (.cells #[.int .i64 0, .slice none 0 0] 52)) w.heap.size (w.heap.size + 1) [] := wr_new (heap_new _ _) (by omega) (by simp)
  have hb0 : Below w.heap.size w (w.alloc (.cells #[.int .i64 0, .slice none 0 0] 52)) := (Below.refl _ _).alloc (Nat.le_refl _) _
  have hS : ∀ i, i < w.heap.size → ¬ WS w.heap.size (w.heap.size + 1) i := fun i hi h => by rcases h with h | h <;> omega
  generalize w.alloc (.cells #[.int .i64 0, .slice none 0 0] 52) = w0 at *
  go_wp2_with fail
  refine (wu16_any _ _ _ 258 _ hw0 (by omega) (by simp)).mono ?_
  rintro e w1 ⟨rfl, hw1, hc1⟩
  have hb1 := ch_bel hb0 hc1.ws hS
  clear hc1 hw0 hb0
  go_wp2_with fail
  refine (wi32_any _ _ _ (-2) _ hw1 (by simp [nb_len])).mono ?_
  rintro e w2 ⟨rfl, hw2, hc2⟩
  have hb2 := ch_bel hb1 hc2.ws hS
  clear hc2 hw1 hb1
  go_wp2_with fail
  refine (wuvarint_any _ _ _ 300 _ hw2 (by omega) (by simp [nb_len])).mono ?_
  rintro e w3 ⟨rfl, hw3, hc3⟩
  have hb3 := ch_bel hb2 hc3.ws hS
  clear hc3 hw2 hb2
  go_wp2_with fail
  refine (wvarint_any _ _ _ (-1) _ hw3 (by omega) (by omega) (by have := M.form_le 300; simp [nb_len]; omega)).mono ?_
  rintro e w4 ⟨rfl, hw4, hc4⟩
  have hb4 := ch_bel hb3 hc4.ws hS
  clear hc4 hw3 hb3
  rw [ex_a] at hw4
  have hby := wbytes_any _ _ _ _ hw4
  rw [ex_b] at hby
  have hat := wat_any _ _ _ _ hw4
  go_wp2_with (first
    | (go_at_call 10; refine hby.mono ?_; rintro e w4 ⟨rfl, rfl⟩)
    | (go_at_call 23; refine hat.mono ?_; rintro e w4 ⟨rfl, rfl⟩))
  refine (newreader_any _ _).mono ?_
  rintro e w5 ⟨rfl, rfl⟩
  have hr0 : Rd (w4.alloc (.cells #[.int .i64 0, .string ⟨#[2, 97, 98, 5, 120]⟩, .int .i64 0] 56)) w4.heap.size ⟨#[2, 97, 98, 5, 120]⟩ 0 0 := heap_new _ _
  have hb5 : Below w.heap.size w (w4.alloc (.cells #[.int .i64 0, .string ⟨#[2, 97, 98, 5, 120]⟩, .int .i64 0] 56)) := hb4.alloc hb4.size _
  have hq := hb4.size
  have hS2 : ∀ i, i < w.heap.size → ¬ i = w4.heap.size := fun i hi h => by omega
  generalize w4.alloc (.cells #[.int .i64 0, .string ⟨#[2, 97, 98, 5, 120]⟩, .int .i64 0] 56) = w5 at *
  generalize w4.heap.size = b at *
  clear hw4 hb4 hby hat
  go_wp2_with fail
  have t1 := rtext_any b ⟨#[2, 97, 98, 5, 120]⟩ 0 0 9 w5 hr0 (by omega) (by rw [ex_z]; omega) (by omega) (by omega)
  rw [ex_c] at t1
  refine t1.mono ?_
  rintro e w6 ⟨rfl, hr1, hc6⟩
  have hb6 := ch_bel hb5 hc6 hS2
  clear t1 hc6 hb5
  go_wp2_with fail
  have t2 := rtext_any b ⟨#[2, 97, 98, 5, 120]⟩ 3 0 9 w6 hr1 (by rw [ex_z]; omega) (by rw [ex_z]; omega) (by omega) (by omega)
  rw [ex_d] at t2
  refine t2.mono ?_
  rintro e w7 ⟨rfl, hr2, hc7⟩
  have hb7 := ch_bel hb6 hc7 hS2
  clear t2 hc7 hb6
  go_wp2_with fail
  have t3 := u8_any b ⟨#[2, 97, 98, 5, 120]⟩ 3 21 w7 hr2 (by rw [ex_z]; omega) (by rw [ex_z]; omega)
  rw [ex_e] at t3
  refine t3.mono ?_
  rintro e w8 ⟨rfl, hr3, hc8⟩
  have hb8 := ch_bel hb7 hc8 hS2
  clear t3 hc8 hb7
  have t4 := rat_any b ⟨#[2, 97, 98, 5, 120]⟩ 3 21 _ hr3
  have t5 := rdone_any b ⟨#[2, 97, 98, 5, 120]⟩ 3 21 _ hr3 (by rw [ex_z]; omega) (by rw [ex_z]; omega)
  rw [ex_f] at t5
  go_wp2_with (first
    | (go_at_call 15; refine t4.mono ?_; rintro e w8 ⟨rfl, rfl⟩)
    | (go_at_call 13; refine t5.mono ?_; rintro e w' ⟨rfl, n1, rfl⟩))
  go_ret
  exact ⟨rfl, drewN_belS hb8 _⟩
end Go.Proofs.YtpfaioncaolmjaaGreat
