/- Whether some bytes are packed bytes of a length: the number of the fault, or 0. -/
import Derived.Test.YtdkfenmhfkggdaaFst
namespace Go.Proofs.Ytdkfenmhfkggdaa
open Go.RowKit
/-- The number of the fault; 0, if there is none. -/
def code : Except Nat (List UInt8) → Nat
  | .error k => k
  | .ok _ => 0
theorem tok_small {t : M.Tok} (h : t.ok) : t.lits.length ≤ 128 ∧ t.len ≤ 131 ∧ t.dist ≤ 8192 ∧ t.count = t.lits.length + t.len := by
  cases t with
  | lit s => exact ⟨h.2, by simp [M.Tok.len], by simp [M.Tok.dist], rfl⟩
  | mat n d => exact ⟨by simp [M.Tok.lits], h.2.1, h.2.2.2, rfl⟩
theorem fst_code {p : List UInt8} {k : Nat} (h : M.fst' p = .error k) : k = 20 ∨ k = 25 := by
  unfold M.fst' at h
  simp only at h
  split at h
  · split at h
    · injection h with h; omega
    · cases h
  · split at h
    · injection h with h; omega
    · split at h
      · injection h with h; omega
      · cases h
/-- Three cells of a block. -/
theorem cells3 {w : World} {b : Nat} {x y z : Value} {T : TypeId} (h : w.heap[b]? = some (.cells #[x, y, z] T (0, 0))) : w.cell? ⟨b, 0, none⟩ = some x ∧ w.cell? ⟨b, 1, none⟩ = some y ∧ w.cell? ⟨b, 2, none⟩ = some z := ⟨(cell_of h).trans rfl, (cell_of h).trans rfl, (cell_of h).trans rfl⟩
theorem ext_drop (S : ByteArray) (n : Nat) : (S.extract n S.size).data.toList = S.data.toList.drop n := by
  rw [len_ext, List.take_of_length_le (by rw [List.length_drop, len_]; omega)]
set_option maxHeartbeats 4000000 in
set_option maxRecDepth 20000 in
theorem check_any (p : ByteArray) (len : Nat) (w : World) (hl : len ≤ 9223372036854775807) :
    Calls Try.prog 29 #[.string p, .int .i64 len] w fun e w' => e = .returned (.int .i64 (code (M.un len p.data.toList []) : Nat)) ∧ Below w.heap.size w w' := by
  obtain ⟨R, hR⟩ : ∃ R, R = M.un len p.data.toList [] := ⟨_, rfl⟩
  rw [← hR]
  have HR := hid hR.symm
  clear hR
  go_enter Try.func29, Try.ntmps29
  go_wp2_with fail
  go_loopg [0, 5, 6, 7, 8] p.size (fun k s u a b c wr => ∃ (S : ByteArray) (out : List UInt8) (U : Nat), S.size = k ∧ s = .string S ∧ u = .int .i64 U ∧ U ≤ len ∧ Hid (out.length = U) ∧ Hid (M.un len S.data.toList out = R) ∧ Hid (Below w.heap.size w wr))
  case atStart => exact ⟨p, [], 0, rfl, rfl, rfl, by omega, rfl, HR, Below.refl _ _⟩
  case round =>
    clear HR
    obtain ⟨S, out, U, rfl, rfl, rfl, hU, HU, HP, HW⟩ := hrel
    by_cases h0 : S.size = 0
    · have e1 := (empty_iff S).1 h0
      subst e1
      have hp := HP.out
      have e2 : M.un len (⟨#[]⟩ : ByteArray).data.toList out = if out.length < len then .error 20 else .ok out := M.un_nil len out
      rw [e2, HU.out] at hp
      by_cases hlt : U < len
      · rw [if_pos hlt] at hp
        have HC : Hid (20 = code R) := by rw [← hp]; rfl
        clear hp e2
        go_wp2_with fail
        go_ret
        exact ⟨ret_int (by rw [← HC.out]; rfl), HW.out⟩
      · rw [if_neg hlt] at hp
        have HC : Hid (0 = code R) := by rw [← hp]; rfl
        clear hp e2
        go_wp2_with fail
        go_ret
        exact ⟨ret_int (by rw [← HC.out]; rfl), HW.out⟩
    · have e1 := ne_emp h0
      have hp := HP.out
      rw [M.un_step (by rw [len_]; exact h0)] at hp
      cases hf : M.fst' S.data.toList with
      | error k =>
        rw [hf] at hp
        simp only at hp
        have HC : Hid (k = code R) := by rw [← hp]; rfl
        have cf := fun w => first_err S k w (by omega) hf
        have hk : ((k : Int) != 0) = true := by rw [bne_iff_ne]; have := fst_code hf; omega
        have CF := hid cf
        clear hp cf hf HP
        go_wp2_with fail
        refine (CF.out _).mono ?_
        rintro e w1 ⟨rfl, hb1⟩
        have HB1 := hid (HW.out.trans (hb1.mono HW.out.size))
        have HS1 := hid (HB1.out.size)
        clear hb1
        go_wp2_with fail
        go_ret
        exact ⟨ret_int (by rw [HC.out]), HB1.out.alloc HS1.out _⟩
      | ok tn =>
        obtain ⟨t, n⟩ := tn
        rw [hf] at hp
        simp only at hp
        have hok := M.fst_ok (by rw [len_]; exact h0) hf
        have hsm := tok_small hok.1
        have hn := hok.2.2.1
        have hn2 := hok.2.1
        rw [len_] at hn
        have cf := fun w => first_ok S t n w (by omega) hf
        rw [HU.out] at hp
        have hba := ba_size t.lits
        have hal := M.app_len out t
        rw [HU.out] at hal
        rw [hsm.2.2.2] at hp hal
        generalize M.app out t = out2 at *
        have cc := fun w => count_any (ba t.lits) t.len t.dist w (by omega)
        rw [hba] at cc
        have h128 := hsm.1
        have h131 := hsm.2.1
        generalize ba t.lits = TS at *
        generalize t.lits.length = TL at *
        generalize t.len = TN at *
        generalize t.dist = TD at *
        have CF := hid cf
        have CC := hid cc
        clear hok hsm hf cf cc HP hba
        by_cases hd : U < TD
        · rw [if_pos hd] at hp
          have HC : Hid (25 = code R) := by rw [← hp]; rfl
          clear hp hal
          go_wp2_with fail
          refine (CF.out _).mono ?_
          rintro e w1 ⟨rfl, hb1⟩
          have HB1 := hid (HW.out.trans (hb1.mono HW.out.size))
          have HS1 := hid (HB1.out.size)
          clear hb1
          go_wp2_with fail
          go_ret
          exact ⟨ret_int (by rw [← HC.out]; rfl), HB1.out.alloc HS1.out _⟩
        · rw [if_neg hd] at hp
          by_cases hc : len - U < TL + TN
          · rw [if_pos hc] at hp
            have HC : Hid (22 = code R) := by rw [← hp]; rfl
            clear hp hal
            go_wp2_with fail
            refine (CF.out _).mono ?_
            rintro e w1 ⟨rfl, hb1⟩
            have HB1 := hid (HW.out.trans (hb1.mono HW.out.size))
            have HS1 := hid (HB1.out.size)
            clear hb1
            go_wp2_with fail
            refine (CC.out _).mono ?_
            rintro e w2 ⟨rfl, hb2⟩
            have HB2 := hid ((HB1.out.alloc HS1.out (.cells #[.string TS, .int .i64 TN, .int .i64 TD] 47)).trans (hb2.mono (by have := HS1.out; simp; omega)))
            clear hb2
            go_wp2_with fail
            go_ret
            exact ⟨ret_int (by rw [← HC.out]; rfl), HB2.out⟩
          · rw [if_neg hc] at hp
            have HP2 := hid hp
            have HAL := hid hal
            clear hp hal
            go_wp2_with fail
            refine (CF.out _).mono ?_
            rintro e w1 ⟨rfl, hb1⟩
            have HB1 := hid (HW.out.trans (hb1.mono HW.out.size))
            have HS1 := hid (HB1.out.size)
            clear hb1
            go_wp2_with fail
            refine (CC.out _).mono ?_
            rintro e w2 ⟨rfl, hb2⟩
            have HB2 := hid ((HB1.out.alloc HS1.out (.cells #[.string TS, .int .i64 TN, .int .i64 TD] 47)).trans (hb2.mono (by have := HS1.out; simp; omega)))
            have gT : w2.heap[w1.heap.size]? = some (.cells #[.string TS, .int .i64 TN, .int .i64 TD] 47 (0, 0)) := (hb2.block _ (by simp)).trans (heap_new w1 _)
            obtain ⟨k0, k1, k2⟩ := cells3 gT
            clear hb2 gT
            go_wp2_with fail
            refine (CC.out _).mono ?_
            rintro e w3 ⟨rfl, hb3⟩
            have HB3 := hid (HB2.out.trans (hb3.mono HB2.out.size))
            clear hb3
            go_wp2_with fail
            have hex := ext_drop S n
            go_roundg (S.size - n)
            case measure => omega
            case rel => exact ⟨_, out2, U + (TL + TN), by rw [← len_, hex, List.length_drop, len_], rfl, by go_num, by omega, HAL, by rw [hex]; exact HP2, HB3⟩
end Go.Proofs.Ytdkfenmhfkggdaa
