/- The document's Parse. -/
import Derived.Test.YtgffipkbbenddaaDoorPrb
namespace Go.Proofs.YtgffipkbbenddaaDoor
open Go.RowKit Go.Lib
/-- What is read of the digits from j on. -/
theorem dgt_drop {l : List UInt8} {j v : Nat} (h : j < l.length) : dgt v (l.drop j) = if 48 ≤ l[j].toNat ∧ l[j].toNat ≤ 57 then (if (4611686018427387904 - (l[j].toNat - 48)) / 10 < v then none else dgt (v * 10 + (l[j].toNat - 48)) (l.drop (j + 1))) else none := by
  rw [List.drop_eq_getElem_cons h, dgt]
/-- What digits answers. -/
def dgV : Option Nat → Value
  | some v => .tuple #[.int .i64 v, .bool true]
  | none => .tuple #[.int .i64 0, .bool false]
set_option maxRecDepth 20000 in
theorem digits_any (s : ByteArray) (w : World) (hs : s.size ≤ 140737488355328) :
    Calls Tryd.prog 26 #[.string s] w fun e w' => e = .returned (dgV (dgt 0 s.data.toList)) ∧ w' = w := by
  have hl : s.data.toList.length = s.size := Array.length_toList
  obtain ⟨R, hR⟩ : ∃ R, R = dgt 0 s.data.toList := ⟨_, rfl⟩
  have HR := hid hR
  rw [← hR]
  clear hR
  go_enter Tryd.func26, Tryd.ntmps26
  go_wp2_with fail
  go_loopg [4, 5] s.size (fun k v i wr => wr = w ∧ ∃ j x : Nat, j + k = s.size ∧ v = .int .i64 x ∧ i = .int .i64 j ∧ x ≤ 4611686018427387904 ∧ Hid (R = dgt x (s.data.toList.drop j)))
  case atStart => exact ⟨rfl, 0, 0, by omega, rfl, rfl, by omega, HR⟩
  case round =>
    obtain ⟨rfl, j, x, hj, rfl, rfl, hx, HJ⟩ := hrel
    by_cases hlt : j < s.size
    · obtain ⟨k', rfl⟩ : ∃ k', gk = k' + 1 := ⟨gk - 1, by omega⟩
      have hltD : decide ((j : Int) < s.size) = true := by simp; omega
      have hd := HJ.out
      rw [dgt_drop (by rw [hl]; exact hlt)] at hd
      have hget : s.data.toList[j]'(by rw [hl]; exact hlt) = s[j]'hlt := rfl
      rw [hget] at hd
      have hc8 : (s[j]'hlt).toNat < 256 := UInt8.toNat_lt _
      by_cases q1 : (s[j]'hlt).toNat < 48
      · rw [if_neg (by omega)] at hd
        have q1' : ((s[j]'hlt).toNat : Int) < 48 := by omega
        have HD := hid hd
        clear hd
        go_wp2_with fail
        go_ret2
        exact ⟨by rw [HD.out]; rfl, rfl⟩
      · have q1' : ¬ ((s[j]'hlt).toNat : Int) < 48 := by omega
        by_cases q2 : 57 < (s[j]'hlt).toNat
        · rw [if_neg (by omega)] at hd
          have q2' : (57 : Int) < ((s[j]'hlt).toNat : Int) := by omega
          have HD := hid hd
          clear hd
          go_wp2_with fail
          go_ret2
          exact ⟨by rw [HD.out]; rfl, rfl⟩
        · rw [if_pos (by omega)] at hd
          have q2' : ¬ (57 : Int) < ((s[j]'hlt).toNat : Int) := by omega
          by_cases q3 : (4611686018427387904 - ((s[j]'hlt).toNat - 48)) / 10 < x
          · rw [if_pos q3] at hd
            have q3' : ((4611686018427387904 : Int) - (((s[j]'hlt).toNat : Int) - 48)) / 10 < x := by omega
            have HD := hid hd
            clear hd
            go_wp2_with fail
            go_ret2
            exact ⟨by rw [HD.out]; rfl, rfl⟩
          · rw [if_neg q3] at hd
            have q3' : ¬ ((4611686018427387904 : Int) - (((s[j]'hlt).toNat : Int) - 48)) / 10 < x := by omega
            have HD := hid hd
            clear hd
            go_wp2_with fail
            go_roundg k'
            case measure => omega
            case rel => exact ⟨rfl, j + 1, x * 10 + ((s[j]'hlt).toNat - 48), by omega, congrArg (Value.int .i64) (by omega), congrArg (Value.int .i64) (by omega), by omega, HD⟩
    · have hltD : decide ((j : Int) < s.size) = false := by simp; omega
      have hd := HJ.out
      rw [List.drop_eq_nil_of_le (by omega), dgt] at hd
      have HD := hid hd
      clear hd
      go_wp2_with fail
      go_ret2
      exact ⟨by rw [HD.out]; rfl, rfl⟩
end Go.Proofs.YtgffipkbbenddaaDoor
