/- What a crash leaves of a file, as plain lists. -/
import Derived.Test.YthjbhfhdepepmaaDfp
namespace Go.Proofs.Ythjbhfhdepepmaa
open Go.RowKit
def sfe (n : Nat) (sy : Int) : Nat := (min (max sy 0) n).toNat
def kpt (n s : Nat) (kp : Int) : Nat := (min (max kp s) n).toNat
theorem sfe_le (n : Nat) (sy : Int) : sfe n sy ≤ n := by unfold sfe; omega
theorem kpt_le {n s : Nat} (kp : Int) (h : s ≤ n) : s ≤ kpt n s kp ∧ kpt n s kp ≤ n := by unfold kpt; omega
/-- Those bytes of a write that come to stand in the part. -/
def wn (fr to : Nat) (a : Int) (D : List UInt8) : Nat × List UInt8 :=
  if (to : Int) ≤ a then (to, []) else if min (a + D.length) to ≤ fr then (fr, []) else ((max a fr).toNat, (D.drop (max a fr - a).toNat).take (min (a + D.length) to - max a fr).toNat)
/-- One byte of it. -/
def pt (fr : Nat) (a : Int) (D : List UInt8) (j : Nat) (c : UInt8) : UInt8 := if fr ≤ j ∧ a ≤ j ∧ (j : Int) - a < D.length then D.getD ((j : Int) - a).toNat 0 else c
theorem wn_fit {fr to : Nat} (a : Int) (D : List UInt8) (h : fr ≤ to) : (wn fr to a D).1 + (wn fr to a D).2.length ≤ to ∧ fr ≤ (wn fr to a D).1 := by
  unfold wn
  split
  · simp; omega
  · split
    · simp; omega
    · simp only [List.length_take, List.length_drop]
      omega
theorem ovr_get (b s : List UInt8) (a j : Nat) (h : a + s.length ≤ b.length) : (ovr b a s)[j]? = if a ≤ j ∧ j < a + s.length then s[j - a]? else b[j]? := by
  unfold ovr
  rw [List.append_assoc]
  by_cases h1 : j < a
  · rw [List.getElem?_append_left (by rw [List.length_take]; omega), List.getElem?_take, if_pos h1, if_neg (by omega)]
  · rw [List.getElem?_append_right (by rw [List.length_take]; omega), List.length_take, Nat.min_eq_left (by omega)]
    by_cases h2 : j < a + s.length
    · rw [List.getElem?_append_left (by omega), if_pos (by omega)]
    · rw [List.getElem?_append_right (by omega), List.getElem?_drop, if_neg (by omega)]
      congr 1
      omega
theorem wn_pt {fr to : Nat} (a : Int) (D b : List UInt8) (h : fr ≤ to) (hb : b.length = to) (j : Nat) : (ovr b (wn fr to a D).1 (wn fr to a D).2)[j]? = b[j]?.map (pt fr a D j) := by
  have hf := wn_fit a D h
  rw [ovr_get _ _ _ _ (by omega)]
  by_cases hj : j < b.length
  · rw [List.getElem?_eq_getElem hj, Option.map_some]
    unfold wn pt
    split
    · rw [if_neg (by simp only [List.length_nil]; omega), if_neg (by omega)]
    · split
      · rw [if_neg (by simp only [List.length_nil]; omega), if_neg (by omega)]
      · simp only [List.length_take, List.length_drop]
        split
        · rename_i h1 h2 h3
          rw [if_pos (by omega), List.getElem?_take, if_pos (by omega), List.getElem?_drop, List.getD_eq_getElem?_getD]
          have e : (max a fr - a).toNat + (j - (max a fr).toNat) = ((j : Int) - a).toNat := by omega
          rw [e, List.getElem?_eq_getElem (by omega)]
          rfl
        · rename_i h1 h2 h3
          rw [if_neg (by omega)]
  · rw [if_neg (by omega), List.getElem?_eq_none (by omega)]
    rfl
/-- A write, and all of them. -/
def lf1 (fr to : Nat) (b : List UInt8) (w : Int × ByteArray) : List UInt8 := ovr b (wn fr to w.1 w.2.data.toList).1 (wn fr to w.1 w.2.data.toList).2
def lfs (fr to : Nat) (b : List UInt8) (ws : List (Int × ByteArray)) : List UInt8 := ws.foldl (lf1 fr to) b
theorem lf1_len {fr to : Nat} {b : List UInt8} (w : Int × ByteArray) (h : fr ≤ to) (hb : b.length = to) : (lf1 fr to b w).length = to := by
  have := wn_fit w.1 w.2.data.toList h
  unfold lf1 ovr
  simp
  omega
theorem lfs_len {fr to : Nat} (h : fr ≤ to) : ∀ (ws : List (Int × ByteArray)) (b : List UInt8), b.length = to → (lfs fr to b ws).length = to
  | [], _, hb => hb
  | w :: ws, b, hb => lfs_len h ws (lf1 fr to b w) (lf1_len w h hb)
/-- What a crash leaves. -/
def lft (X : List UInt8) (sy kp : Int) (ws : List (Int × ByteArray)) : List UInt8 :=
  lfs (sfe X.length sy) (kpt X.length (sfe X.length sy) kp) (X.take (kpt X.length (sfe X.length sy) kp)) ws
theorem lft_len (X : List UInt8) (sy kp : Int) (ws : List (Int × ByteArray)) : (lft X sy kp ws).length = kpt X.length (sfe X.length sy) kp := by
  have h1 := sfe_le X.length sy
  have h2 := kpt_le kp h1
  exact lfs_len h2.1 ws _ (by rw [List.length_take]; omega)
theorem lf1_head {fr to : Nat} {b : List UInt8} (w : Int × ByteArray) (h : fr ≤ to) (hb : b.length = to) : (lf1 fr to b w).take fr = b.take fr := by
  have hf := wn_fit w.1 w.2.data.toList h
  unfold lf1 ovr
  rw [List.append_assoc, List.take_append_of_le_length (by rw [List.length_take]; omega), List.take_take, Nat.min_eq_left hf.2]
theorem lfs_head {fr to : Nat} (h : fr ≤ to) : ∀ (ws : List (Int × ByteArray)) (b : List UInt8), b.length = to → (lfs fr to b ws).take fr = b.take fr
  | [], _, _ => rfl
  | w :: ws, b, hb => (lfs_head h ws (lf1 fr to b w) (lf1_len w h hb)).trans (lf1_head w h hb)
end Go.Proofs.Ythjbhfhdepepmaa
