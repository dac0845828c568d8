/- Any call but Put32: what is written, and what is read of it. -/
import Derived.Test.YtpfaioncaolmjaaGreatAga
import Derived.Test.YtpfaioncaolmjaaGreatWra
namespace Go.Proofs.YtpfaioncaolmjaaGreat
open Go.RowKit
theorem wenc0 {K N : Nat} {S : ByteArray} (h : K % 14 = 0) : wenc K N S = nb 1 (N % 256) := by
  unfold wenc
  rw [if_pos h]
theorem wenc1 {K N : Nat} {S : ByteArray} (h : K % 14 = 1) : wenc K N S = nb 2 (N % 65536) := by
  unfold wenc
  rw [if_neg (by omega), if_pos h]
theorem wenc2 {K N : Nat} {S : ByteArray} (h : K % 14 = 2) : wenc K N S = nb 4 (N % 4294967296) := by
  unfold wenc
  rw [if_neg (by omega), if_neg (by omega), if_pos h]
theorem wenc3 {K N : Nat} {S : ByteArray} (h : K % 14 = 3) : wenc K N S = nb 8 N := by
  unfold wenc
  rw [if_neg (by omega), if_neg (by omega), if_neg (by omega), if_pos h]
theorem wenc4 {K N : Nat} {S : ByteArray} (h : K % 14 = 4) : wenc K N S = nb 4 ((IntKind.i32.wrap (N : Int)) % 4294967296).toNat := by
  unfold wenc
  rw [if_neg (by omega), if_neg (by omega), if_neg (by omega), if_neg (by omega), if_pos h]
theorem wenc5 {K N : Nat} {S : ByteArray} (h : K % 14 = 5) : wenc K N S = nb 8 ((IntKind.i64.wrap (N : Int)) % 18446744073709551616).toNat := by
  unfold wenc
  rw [if_neg (by omega), if_neg (by omega), if_neg (by omega), if_neg (by omega), if_neg (by omega), if_pos h]
theorem wenc6 {K N : Nat} {S : ByteArray} (h : K % 14 = 6) : wenc K N S = M.form N := by
  unfold wenc
  rw [if_neg (by omega), if_neg (by omega), if_neg (by omega), if_neg (by omega), if_neg (by omega), if_neg (by omega), if_pos h]
theorem wenc7 {K N : Nat} {S : ByteArray} (h : K % 14 = 7) : wenc K N S = M.form (M.zz (IntKind.i64.wrap (N : Int))).toNat := by
  unfold wenc
  rw [if_neg (by omega), if_neg (by omega), if_neg (by omega), if_neg (by omega), if_neg (by omega), if_neg (by omega), if_neg (by omega), if_pos h]
theorem wenc8 {K N : Nat} {S : ByteArray} (h : K % 14 = 8) : wenc K N S = bl S := by
  unfold wenc
  rw [if_neg (by omega), if_neg (by omega), if_neg (by omega), if_neg (by omega), if_neg (by omega), if_neg (by omega), if_neg (by omega), if_neg (by omega), if_pos h]
theorem wenc9 {K N : Nat} {S : ByteArray} (h : K % 14 = 9) : wenc K N S = tx S := by
  unfold wenc
  rw [if_neg (by omega), if_neg (by omega), if_neg (by omega), if_neg (by omega), if_neg (by omega), if_neg (by omega), if_neg (by omega), if_neg (by omega), if_neg (by omega), if_pos h]
theorem wenc10 {K N : Nat} {S : ByteArray} (h : K % 14 = 10) : wenc K N S = ol true S := by
  unfold wenc
  rw [if_neg (by omega), if_neg (by omega), if_neg (by omega), if_neg (by omega), if_neg (by omega), if_neg (by omega), if_neg (by omega), if_neg (by omega), if_neg (by omega), if_neg (by omega), if_pos h]
theorem wenc11 {K N : Nat} {S : ByteArray} (h : K % 14 = 11) : wenc K N S = ol false S := by
  unfold wenc
  rw [if_neg (by omega), if_neg (by omega), if_neg (by omega), if_neg (by omega), if_neg (by omega), if_neg (by omega), if_neg (by omega), if_neg (by omega), if_neg (by omega), if_neg (by omega), if_neg (by omega)]
theorem write_enc (K N : Nat) (S : ByteArray) (l : List Nat) (hK : K % 14 < 12) (hN : N < 18446744073709551616) (hl : l.length ≤ 10000000000000) (hS : S.size ≤ 1000000000) (p q B : Nat) (w : World) (hw : WW p q B l w) :
    Calls Tryz.prog 9 #[.pointer (some ⟨p, 0, none⟩), .pointer (some ⟨q, 0, none⟩), .agg #[.int .u8 K, .int .u64 N, .string S]] w fun e w' => e = .returned (.bool true) ∧ WW p q B (l ++ wenc K N S) w' ∧ Old p q B w w' := by
  rcases (show K % 14 = 0 ∨ K % 14 = 1 ∨ K % 14 = 2 ∨ K % 14 = 3 ∨ K % 14 = 4 ∨ K % 14 = 5 ∨ K % 14 = 6 ∨ K % 14 = 7 ∨ K % 14 = 8 ∨ K % 14 = 9 ∨ K % 14 = 10 ∨ K % 14 = 11 by omega) with h | h | h | h | h | h | h | h | h | h | h | h
  · rw [wenc0 h]; exact write0 p q B K N S l w hw (by omega) hN hl hS
  · rw [wenc1 h]; exact write1 p q B K N S l w hw (by omega) hN hl hS
  · rw [wenc2 h]; exact write2 p q B K N S l w hw (by omega) hN hl hS
  · rw [wenc3 h]; exact write3 p q B K N S l w hw (by omega) hN hl hS
  · rw [wenc4 h]; exact write4 p q B K N S l w hw (by omega) hN hl hS
  · rw [wenc5 h]; exact write5 p q B K N S l w hw (by omega) hN hl hS
  · rw [wenc6 h]; exact write6 p q B K N S l w hw (by omega) hN hl hS
  · rw [wenc7 h]; exact write7 p q B K N S l w hw (by omega) hN hl hS
  · rw [wenc8 h]; exact write8 p q B K N S l w hw (by omega) hN hl hS
  · rw [wenc9 h]; exact write9 p q B K N S l w hw (by omega) hN hl hS
  · rw [wenc10 h]; exact write10 p q B K N S l w hw (by omega) hN hl hS
  · rw [wenc11 h]; exact write11 p q B K N S l w hw (by omega) hN hl hS
theorem again_yes (b : Nat) (s : ByteArray) (k K N : Nat) (S : ByteArray) (w : World) (hr : Rd w b s k 0) (hst : Stands s k (wenc K N S)) (hs : s.size ≤ 9223372036854775807) (hK : K % 14 < 12) (hN : N < 18446744073709551616) (hS : S.size ≤ 1000000000) :
    Calls Tryz.prog 12 #[.pointer (some ⟨b, 0, none⟩), .agg #[.int .u8 K, .int .u64 N, .string S]] w fun e w' => e = .returned (.bool true) ∧ Rd w' b s (k + (wenc K N S).length) 0 ∧ Ch (fun i => i = b) w w' := by
  rcases (show K % 14 = 0 ∨ K % 14 = 1 ∨ K % 14 = 2 ∨ K % 14 = 3 ∨ K % 14 = 4 ∨ K % 14 = 5 ∨ K % 14 = 6 ∨ K % 14 = 7 ∨ K % 14 = 8 ∨ K % 14 = 9 ∨ K % 14 = 10 ∨ K % 14 = 11 by omega) with h | h | h | h | h | h | h | h | h | h | h | h
  · rw [wenc0 h] at hst ⊢; exact again0_yes b s k K N S w hr hst hs (by omega) hN hS
  · rw [wenc1 h] at hst ⊢; exact again1_yes b s k K N S w hr hst hs (by omega) hN hS
  · rw [wenc2 h] at hst ⊢; exact again2_yes b s k K N S w hr hst hs (by omega) hN hS
  · rw [wenc3 h] at hst ⊢; exact again3_yes b s k K N S w hr hst hs (by omega) hN hS
  · rw [wenc4 h] at hst ⊢; exact again4_yes b s k K N S w hr hst hs (by omega) hN hS
  · rw [wenc5 h] at hst ⊢; exact again5_yes b s k K N S w hr hst hs (by omega) hN hS
  · rw [wenc6 h] at hst ⊢; exact again6_yes b s k K N S w hr hst hs (by omega) hN hS
  · rw [wenc7 h] at hst ⊢; exact again7_yes b s k K N S w hr hst hs (by omega) hN hS
  · rw [wenc8 h] at hst ⊢; exact again8_yes b s k K N S w hr hst hs (by omega) hN hS
  · rw [wenc9 h] at hst ⊢; exact again9_yes b s k K N S w hr hst hs (by omega) hN hS
  · rw [wenc10 h] at hst ⊢; exact again10_yes b s k K N S w hr hst hs (by omega) hN hS
  · rw [wenc11 h] at hst ⊢; exact again11_yes b s k K N S w hr hst hs (by omega) hN hS
theorem again_no (b : Nat) (s : ByteArray) (k K N : Nat) (S : ByteArray) (w : World) (hr : Rd w b s k 0) (hst : Cuts s k (wenc K N S)) (hs : s.size ≤ 9223372036854775807) (hK : K % 14 < 12) (hN : N < 18446744073709551616) (hS : S.size ≤ 1000000000) :
    Calls Tryz.prog 12 #[.pointer (some ⟨b, 0, none⟩), .agg #[.int .u8 K, .int .u64 N, .string S]] w fun e w' => e = .returned (.bool false) ∧ ∃ e', (e' = 20 ∨ e' = 21) ∧ Rd w' b s k e' ∧ Ch (fun i => i = b) w w' := by
  rcases (show K % 14 = 0 ∨ K % 14 = 1 ∨ K % 14 = 2 ∨ K % 14 = 3 ∨ K % 14 = 4 ∨ K % 14 = 5 ∨ K % 14 = 6 ∨ K % 14 = 7 ∨ K % 14 = 8 ∨ K % 14 = 9 ∨ K % 14 = 10 ∨ K % 14 = 11 by omega) with h | h | h | h | h | h | h | h | h | h | h | h
  · rw [wenc0 h] at hst; exact again0_no b s k K N S w hr hst hs (by omega) hN hS
  · rw [wenc1 h] at hst; exact again1_no b s k K N S w hr hst hs (by omega) hN hS
  · rw [wenc2 h] at hst; exact again2_no b s k K N S w hr hst hs (by omega) hN hS
  · rw [wenc3 h] at hst; exact again3_no b s k K N S w hr hst hs (by omega) hN hS
  · rw [wenc4 h] at hst; exact again4_no b s k K N S w hr hst hs (by omega) hN hS
  · rw [wenc5 h] at hst; exact again5_no b s k K N S w hr hst hs (by omega) hN hS
  · rw [wenc6 h] at hst; exact again6_no b s k K N S w hr hst hs (by omega) hN hS
  · rw [wenc7 h] at hst; exact again7_no b s k K N S w hr hst hs (by omega) hN hS
  · rw [wenc8 h] at hst; exact again8_no b s k K N S w hr hst hs (by omega) hN hS
  · rw [wenc9 h] at hst; exact again9_no b s k K N S w hr hst hs (by omega) hN hS
  · rw [wenc10 h] at hst; exact again10_no b s k K N S w hr hst hs (by omega) hN hS
  · rw [wenc11 h] at hst; exact again11_no b s k K N S w hr hst hs (by omega) hN hS
theorem opq_memA {os : List (Nat × Nat × ByteArray)} {k : Nat} (h : k < os.length) : os.getD k (0, 0, ByteArray.empty) ∈ os := by
  simp [List.getD_eq_getElem?_getD, h]
def at' (ls : List (Nat × Nat × ByteArray)) (j : Nat) : List Nat := wencs (ls.take j)
theorem at_zero (ls : List (Nat × Nat × ByteArray)) : at' ls 0 = [] := rfl
theorem at_all (ls : List (Nat × Nat × ByteArray)) : at' ls ls.length = wencs ls := by unfold at'; rw [List.take_length]
theorem at_succ {ls : List (Nat × Nat × ByteArray)} {j : Nat} (h : j < ls.length) : at' ls (j + 1) = at' ls j ++ wenc (ls.getD j (0, 0, ByteArray.empty)).1 (ls.getD j (0, 0, ByteArray.empty)).2.1 (ls.getD j (0, 0, ByteArray.empty)).2.2 := by
  unfold at' wencs
  rw [List.take_add_one, List.flatMap_append, List.getElem?_eq_getElem h, List.getD_eq_getElem?_getD, List.getElem?_eq_getElem h]
  simp
theorem at_len {ls : List (Nat × Nat × ByteArray)} (hz : ∀ o ∈ ls, o.2.2.size ≤ 1048576) : ∀ j, j ≤ ls.length → (at' ls j).length ≤ j * 1048596
  | 0, _ => by rw [at_zero]; simp
  | j + 1, h => by
    have h1 := at_len hz j (by omega)
    have h2 := wenc_len (ls.getD j (0, 0, ByteArray.empty)).1 (ls.getD j (0, 0, ByteArray.empty)).2.1 (ls.getD j (0, 0, ByteArray.empty)).2.2
    have h3 := hz _ (opq_memA (show j < ls.length by omega))
    rw [at_succ (by omega), List.length_append]
    omega
theorem at_drop {ls : List (Nat × Nat × ByteArray)} {j : Nat} (h : j < ls.length) : ∃ r, (wencs ls).drop (at' ls j).length = wenc (ls.getD j (0, 0, ByteArray.empty)).1 (ls.getD j (0, 0, ByteArray.empty)).2.1 (ls.getD j (0, 0, ByteArray.empty)).2.2 ++ r := by
  have e : wencs ls = at' ls (j + 1) ++ wencs (ls.drop (j + 1)) := by
    unfold at' wencs
    rw [← List.flatMap_append, List.take_append_drop]
  rw [at_succ h, List.append_assoc] at e
  exact ⟨_, by rw [e, List.drop_left]⟩
theorem at_stands {ls : List (Nat × Nat × ByteArray)} {s : ByteArray} {j : Nat} (hs : bl s = wencs ls) (h : j < ls.length) : Stands s (at' ls j).length (wenc (ls.getD j (0, 0, ByteArray.empty)).1 (ls.getD j (0, 0, ByteArray.empty)).2.1 (ls.getD j (0, 0, ByteArray.empty)).2.2) := by
  obtain ⟨r, hr⟩ := at_drop h
  have e : wencs ls = at' ls j ++ wencs (ls.drop j) := by
    unfold at' wencs
    rw [← List.flatMap_append, List.take_append_drop]
  have hz := congrArg List.length hs
  rw [bl_len, e, List.length_append] at hz
  exact stands_of (by omega) (by rw [hs]; exact hr)
/-- Of a beginning of all bytes: the j-th call's stand there, or are cut. -/
theorem at_part {ls : List (Nat × Nat × ByteArray)} {s : ByteArray} {j n : Nat} (hs : bl s = wencs ls) (h : j < ls.length) (hn : n ≤ s.size) (hj : (at' ls j).length ≤ n) :
    (Stands (s.extract 0 n) (at' ls j).length (wenc (ls.getD j (0, 0, ByteArray.empty)).1 (ls.getD j (0, 0, ByteArray.empty)).2.1 (ls.getD j (0, 0, ByteArray.empty)).2.2) ∧ (at' ls (j + 1)).length ≤ n) ∨ Cuts (s.extract 0 n) (at' ls j).length (wenc (ls.getD j (0, 0, ByteArray.empty)).1 (ls.getD j (0, 0, ByteArray.empty)).2.1 (ls.getD j (0, 0, ByteArray.empty)).2.2) := by
  obtain ⟨r, hr⟩ := at_drop h
  rw [at_succ h, List.length_append]
  generalize wenc (ls.getD j (0, 0, ByteArray.empty)).1 (ls.getD j (0, 0, ByteArray.empty)).2.1 (ls.getD j (0, 0, ByteArray.empty)).2.2 = e at *
  have hz : (s.extract 0 n).size = n := by rw [ByteArray.size_extract]; omega
  have hb : (bl (s.extract 0 n)).drop (at' ls j).length = (e ++ r).take (n - (at' ls j).length) := by
    rw [bl_ext, List.drop_zero, Nat.sub_zero, List.drop_take, hs, hr]
  by_cases hc : e.length ≤ n - (at' ls j).length
  · left
    rw [List.take_append, List.take_of_length_le hc] at hb
    exact ⟨stands_of (by omega) hb, by omega⟩
  · right
    rw [List.take_append_of_le_length (by omega)] at hb
    exact ⟨by omega, _, by omega, hb⟩
end Go.Proofs.YtpfaioncaolmjaaGreat
