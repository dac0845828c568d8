/- What Bytes answers of any record: its form, or why it has none; nothing that was there before is turned. -/
import Derived.Test.YtoohmbkgdmmghaaWrec
namespace Go.Proofs.Ytoohmbkgdmmghaa
open Go.RowKit
/-- The form as a text, or none. -/
def bym (r : Rec) (first n : Int) : ByteArray := if sze r first n = 0 then bs (fm (r.t - first) n.toNat r) else ⟨#[]⟩
set_option maxHeartbeats 1000000 in
set_option maxRecDepth 20000 in
theorem bytes_no (r : Rec) (a : Option Addr) (cap : Nat) (first n : Int) (w : World) (V : Hds w a r.hs) (ht : I64 r.t) (hf : I64 first) (hm : Mod r) (he : sze r first n ≠ 0) :
    Calls Try.prog 13 #[recV r a cap, .int .i64 first, .int .i64 n] w fun e w' => e = .returned (.tuple #[.string ⟨#[]⟩, .int .i64 (sze r first n)]) ∧ Below w.heap.size w w' := by
  have hc := fun x V => size5_any r a cap first n x V ht hf hm
  have hne : (((sze r first n : Nat) : Int) != 0) = true := by rw [bne_iff_ne]; omega
  generalize sze r first n = E at *
  generalize szn r first n = L at *
  have HC := hid hc
  have HVV := hid V
  clear hc he hm V
  unfold recV at *
  go_enter Try.func13, Try.ntmps13
  go_wp2_with fail
  refine (HC.out _ (HVV.out.below ((Below.refl _ w).alloc (Nat.le_refl _) _))).mono ?_
  rintro e w' ⟨rfl, hb⟩
  go_wp2_with fail
  go_ret2
  exact ⟨rfl, bel_al hb⟩
set_option maxHeartbeats 1000000 in
set_option maxRecDepth 20000 in
theorem bytes_ok (r : Rec) (a : Option Addr) (cap : Nat) (first n : Int) (w : World) (V : Hds w a r.hs) (ht : I64 r.t) (hf : I64 first) (hm : Mod r) (he : sze r first n = 0) :
    Calls Try.prog 13 #[recV r a cap, .int .i64 first, .int .i64 n] w fun e w' => e = .returned (.tuple #[.string (bs (fm (r.t - first) n.toNat r)), .int .i64 0]) ∧ Below w.heap.size w w' := by
  have hc := fun x V => size5_any r a cap first n x V ht hf hm
  simp only [he] at hc
  obtain ⟨h1, h2, h3, h4⟩ := sze_ok he
  obtain ⟨N, rfl⟩ : ∃ N : Nat, n = (N : Int) := ⟨n.toNat, by omega⟩
  rw [Int.toNat_natCast] at h4 ⊢
  have hr := fun p l x h0 hp h => wrec_any p (p + 1) l r a cap first N w x V h0 hp h h2 (by omega) hm
  generalize szn r first N = L at *
  have HC := hid hc
  have HR := hid hr
  have HL := hid h4
  have HVV := hid V
  clear hc hm V hr he h4
  generalize fm (r.t - first) N r = F at *
  unfold recV at *
  go_enter Try.func13, Try.ntmps13
  go_wp2_with fail
  refine (HC.out _ (HVV.out.below ((Below.refl _ w).alloc (Nat.le_refl _) _))).mono ?_
  rintro e w1 ⟨rfl, hb⟩
  have g1 := (hb.block w.heap.size (by simp)).trans (heap_new w _)
  obtain ⟨c0, c1, c2, c3, c4, c5⟩ := cells6 g1
  have hlt := lt_of_heap g1
  have hne : w.heap.size ≠ w1.heap.size := by omega
  have HB := hid (bel_al hb)
  clear g1 hb
  go_wp2_with fail
  refine (HR.out w1.heap.size [] _ (HB.out.alloc (by omega) _) (by omega) (wr_new (heap_new _ _) (by omega) (by simp)) (by have := HL.out; simp only [List.length_nil]; omega)).mono ?_
  rintro e w2 ⟨rfl, hw2, hc2⟩
  rw [List.nil_append] at hw2
  have HF := hid ((HB.out.alloc (Nat.le_of_lt hlt) (.cells #[.int .i64 0, .slice none 0 0] 65)).trans (hc2.below (by simp; omega) (fun i hi hs => by rcases hs with rfl | ⟨h, _⟩ <;> omega)))
  have CB := hid (wbytes_any _ _ _ _ hw2)
  clear hw2 hc2
  go_wp2_with (go_at_call 25; refine CB.out.mono ?_; rintro e w' ⟨rfl, rfl⟩)
  go_ret2
  exact ⟨rfl, HF.out⟩
theorem bytes5_any (r : Rec) (a : Option Addr) (cap : Nat) (first n : Int) (w : World) (V : Hds w a r.hs) (ht : I64 r.t) (hf : I64 first) (hm : Mod r) :
    Calls Try.prog 13 #[recV r a cap, .int .i64 first, .int .i64 n] w fun e w' => e = .returned (.tuple #[.string (bym r first n), .int .i64 (sze r first n)]) ∧ Below w.heap.size w w' := by
  unfold bym
  by_cases h : sze r first n = 0
  · rw [if_pos h, h]
    exact bytes_ok r a cap first n w V ht hf hm h
  · rw [if_neg h]
    exact bytes_no r a cap first n w V ht hf hm h
end Go.Proofs.Ytoohmbkgdmmghaa
