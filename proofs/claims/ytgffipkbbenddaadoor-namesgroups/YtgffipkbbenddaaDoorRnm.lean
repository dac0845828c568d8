/- The document's Name. -/
import Derived.Test.YtgffipkbbenddaaDoorNam
import Derived.Lib.ConvBytes
import Derived.ChangeShapes
namespace Go.Proofs.YtgffipkbbenddaaDoor
open Go.RowKit Go.Lib
/-- What ending answers. -/
def ndV (k : Int) : ByteArray × Bool := if k = 0 then (ba (en 0), true) else if k = 1 then (ba (en 1), true) else if k = 2 then (ba (en 2), true) else (ByteArray.empty, false)
theorem ending_any (k : Int) (w : World) : Calls Tryd.prog 23 #[.int .i64 k] w fun e w' => e = .returned (.tuple #[.string (ndV k).1, .bool (ndV k).2]) ∧ w' = w := by
  unfold ndV
  by_cases h0 : k = 0
  · subst h0
    go_enter Tryd.func23, Tryd.ntmps23
    go_wp2_with fail
    go_ret2
    exact ⟨rfl, rfl⟩
  · rw [if_neg h0]
    by_cases h1 : k = 1
    · subst h1
      go_enter Tryd.func23, Tryd.ntmps23
      go_wp2_with fail
      go_ret2
      exact ⟨rfl, rfl⟩
    · rw [if_neg h1]
      by_cases h2 : k = 2
      · subst h2
        go_enter Tryd.func23, Tryd.ntmps23
        go_wp2_with fail
        go_ret2
        exact ⟨rfl, rfl⟩
      · rw [if_neg h2]
        go_enter Tryd.func23, Tryd.ntmps23
        go_wp2_with fail
        go_ret2
        exact ⟨rfl, rfl⟩
theorem rname_out (base kind : Int) (w : World) (h : base < 0 ∨ 4611686018427387904 < base) :
    Calls Tryd.prog 11 #[.int .i64 base, .int .i64 kind] w fun e w' => e = .returned (.tuple #[.string ByteArray.empty, .int .i64 1]) ∧ Below w.heap.size w w' := by
  by_cases h1 : base < 0
  · clear h
    go_enter Tryd.func11, Tryd.ntmps11
    go_wp2_with fail
    go_ret2
    exact ⟨rfl, Below.refl _ _⟩
  · have h2 : 4611686018427387904 < base := by omega
    clear h
    go_enter Tryd.func11, Tryd.ntmps11
    go_wp2_with fail
    go_ret2
    exact ⟨rfl, Below.refl _ _⟩
theorem rname_kind (base kind : Int) (w : World) (h0 : 0 ≤ base) (h1 : base ≤ 4611686018427387904) (h : kind < 0 ∨ 2 < kind) :
    Calls Tryd.prog 11 #[.int .i64 base, .int .i64 kind] w fun e w' => e = .returned (.tuple #[.string ByteArray.empty, .int .i64 6]) ∧ Below w.heap.size w w' := by
  have d0 : ¬ base < 0 := by omega
  have d1 : ¬ 4611686018427387904 < base := by omega
  have HE := hid (ending_any kind w)
  have e : ndV kind = (ByteArray.empty, false) := by unfold ndV; rw [if_neg (by omega), if_neg (by omega), if_neg (by omega)]
  rw [e] at HE
  clear h h0 h1 e
  go_enter Tryd.func11, Tryd.ntmps11
  go_wp2_with (go_at_call 23; refine HE.out.mono ?_; rintro e w1 ⟨rfl, rfl⟩)
  go_ret2
  exact ⟨rfl, Below.refl _ _⟩
theorem Tryd.underBytes : Tryd.prog.underlying 57 = some (.slice 5) := Tryd.underlying57
/-- One byte as a text. -/
theorem conv1 (w : World) (n : Nat) (h : n < 256) : (convert 57 9 (.slice (some ⟨w.heap.size, 0, none⟩) 1 1)).run Tryd.prog (w.alloc (Obj.cells #[.int .u8 (n : Int)] 5)) = .ok (.string (ba [UInt8.ofNat n])) (w.alloc (Obj.cells #[.int .u8 (n : Int)] 5)) := by
  have := run_convert_bytes_back (P := Tryd.prog) (w.alloc (Obj.cells #[.int .u8 (n : Int)] 5)) 57 9 5 ⟨w.heap.size, 0, none⟩ 1 [UInt8.ofNat n] Tryd.underlying57 Tryd.underlying5 Tryd.underlying9 (by
    intro j hj
    have hj0 : j = 0 := by simpa using hj
    subst hj0
    rw [Go.WideShapes.add_plain, Nat.zero_add, cell_of (heap_new _ _)]
    simp [UInt8.toNat_ofNat', Nat.mod_eq_of_lt h])
  exact this
set_option maxRecDepth 20000 in
theorem rname_good (b k : Nat) (w : World) (hb : b ≤ 4611686018427387904) (hk : k ≤ 2) :
    Calls Tryd.prog 11 #[.int .i64 b, .int .i64 k] w fun e w' => e = .returned (.tuple #[.string (ba (nm b k)), .int .i64 0]) ∧ Below w.heap.size w w' := by
  have d0 : ¬ (b : Int) < 0 := by omega
  have d1 : ¬ (4611686018427387904 : Int) < (b : Int) := by omega
  have HE := hid (ending_any k w)
  have e : ndV k = (ba (en k), true) := by
    match k, hk with
    | 0, _ => rfl
    | 1, _ => rfl
    | 2, _ => rfl
  rw [e] at HE
  have HQ : Hid (ba (D 20 b) ++ ba (en k) = ba (nm b k)) := by show _ = _; rw [ba_app, nm]
  have hE : (ba (en k)).size = 4 := by rw [ba_size, en_len]
  generalize ba (nm b k) = Q at HQ
  generalize ba (en k) = E at HE HQ hE
  have HB := hid hb
  clear hk hb
  go_enter Tryd.func11, Tryd.ntmps11
  go_wp2_with (go_at_call 23; refine HE.out.mono ?_; rintro e w1 ⟨rfl, rfl⟩)
  go_loopg [0, 8, 9] 20 (fun k vb vs vi wr => ∃ j : Nat, j + k = 20 ∧ vb = .int .i64 ((b / 10 ^ j : Nat) : Int) ∧ vs = .string (ba (D j b)) ∧ vi = .int .i64 (j : Int) ∧ Below w1.heap.size w1 wr)
  case atStart => exact ⟨0, rfl, by simp, rfl, rfl, Below.refl _ _⟩
  case round =>
    obtain ⟨j, hj, rfl, rfl, rfl, hbw⟩ := hrel
    by_cases hlt : j < 20
    · obtain ⟨k', rfl⟩ : ∃ k', gk = k' + 1 := ⟨gk - 1, by omega⟩
      have hlt' : (j : Int) < 20 := by omega
      obtain ⟨x, hx⟩ : ∃ x : Nat, x = b / 10 ^ j := ⟨_, rfl⟩
      have hxb : x ≤ 4611686018427387904 := by rw [hx]; exact Nat.le_trans (Nat.div_le_self _ _) HB.out
      obtain ⟨C, hC⟩ : ∃ C, C = ba [UInt8.ofNat (48 + x % 10)] := ⟨_, rfl⟩
      have hCs : C.size = 1 := by rw [hC, ba_size]; rfl
      obtain ⟨S, hS⟩ : ∃ S, S = ba (D j b) := ⟨_, rfl⟩
      have hSs : S.size = j := by rw [hS, ba_size, D_len]
      have HX : Hid (C ++ S = ba (D (j + 1) b)) := by
        show _ = _
        rw [hC, hS, ba_app, D_front, ← hx]
        rfl
      have HY : Hid (x / 10 = b / 10 ^ (j + 1)) := by
        show _ = _
        rw [hx, Nat.div_div_eq_div_mul, ← Nat.pow_succ]
      have hcv := conv1 wr (48 + x % 10) (by omega)
      rw [← hC] at hcv
      have e10 : ((48 + x % 10 : Nat) : Int) = 48 + (x : Int) % 10 := by omega
      rw [e10] at hcv
      have hcat : ¬ 9223372036854775807 < C.size + S.size := by rw [hCs, hSs]; omega
      rw [← hx, ← hS]
      have HZ : Hid (j + (k' + 1) = 20) := hj
      have HBW := hid hbw
      clear hx hS hC hSs hCs e10 hj hlt hbw
      go_wp2_with fail
      go_roundg k'
      case measure => omega
      case rel => exact ⟨j + 1, by have := HZ.out; omega, by rw [← HY.out]; exact congrArg (Value.int .i64) (by omega), by rw [HX.out], congrArg (Value.int .i64) (by omega), HBW.out.alloc HBW.out.size _⟩
    · obtain rfl : j = 20 := by omega
      have HBW := hid hbw
      have hD : (ba (D 20 b)).size = 20 := by rw [ba_size, D_len]
      generalize ba (D 20 b) = X at *
      have hcat : ¬ 9223372036854775807 < X.size + E.size := by rw [hD, hE]; omega
      clear hbw hlt hj
      generalize b / 10 ^ 20 = y
      go_wp2_with fail
      go_ret2
      exact ⟨by rw [← HQ.out]; rfl, HBW.out⟩
theorem rname_any (base kind : Int) (w : World) :
    Calls Tryd.prog 11 #[.int .i64 base, .int .i64 kind] w fun e w' => e = .returned (.tuple #[.string (nmV base kind).1, .int .i64 (nmV base kind).2]) ∧ Below w.heap.size w w' := by
  unfold nmV
  by_cases h1 : base < 0 ∨ 4611686018427387904 < base
  · rw [if_pos h1]; exact rname_out base kind w h1
  · rw [if_neg h1]
    by_cases h2 : kind < 0 ∨ 2 < kind
    · rw [if_pos h2]; exact rname_kind base kind w (by omega) (by omega) h2
    · rw [if_neg h2]
      obtain ⟨b, rfl⟩ : ∃ b : Nat, base = b := ⟨base.toNat, by omega⟩
      obtain ⟨k, rfl⟩ : ∃ k : Nat, kind = k := ⟨kind.toNat, by omega⟩
      exact rname_good b k w (by omega) (by omega)
end Go.Proofs.YtgffipkbbenddaaDoor
