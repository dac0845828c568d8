/- A text with some bits of one byte turned; nothing that was there before is turned. -/
import Derived.Test.YtohpjbhjcgihkabAwake
import Derived.Lib.ConvBytes
namespace Go.Proofs.Ytohpjbhjcgihkab
open Go.RowKit Go.WideShapes
theorem hid {p : Prop} (h : p) : Hid p := h
/-- The text with a byte turned. -/
def tn (s : ByteArray) (k m : Nat) : ByteArray := ⟨(s.data.toList.set k (UInt8.ofNat ((s.data.toList.getD k 0).toNat ^^^ m))).toArray⟩
theorem tn_size (s : ByteArray) (k m : Nat) : (tn s k m).size = s.size := by
  show (List.toArray _).size = _
  simp
theorem tn_data (s : ByteArray) (k m : Nat) : (tn s k m).data.toList = s.data.toList.set k (UInt8.ofNat ((s.data.toList.getD k 0).toNat ^^^ m)) := rfl
theorem bel_bytes (w : World) (e : TypeId) (s : ByteArray) : Below w.heap.size w (Lib.bytesWorld w e s) :=
  ⟨rfl, rfl, rfl, by rw [Lib.bytesWorld_size]; omega, fun k hk => Lib.bytesWorld_at_old w e s k hk⟩
set_option maxHeartbeats 2000000 in
set_option maxRecDepth 20000 in
theorem turned_any (s : ByteArray) (k m : Nat) (w : World) (hk : k < s.size) (hm : m < 256) :
    Calls Try.prog 7 #[.string s, .int .i64 k, .int .u8 m] w fun e w' => e = .returned (.string (tn s k m)) ∧ Below w.heap.size w w' := by
  have hcv := Lib.run_convert_string_bytes (P := Try.prog) w 9 41 5 s Try.underStr Try.underBytes Try.underU8
  have hbel := bel_bytes w 5 s
  have hcell := fun j hj => Lib.bytesWorld_cell w 5 s j hj
  have hnew := Lib.bytesWorld_at_new w 5 s
  have hcs : s.size ≤ (Lib.bytesCells w 5 s).size := by simp [Lib.bytesCells]
  have hfz : ∀ j, j < s.size → (Lib.bytesWorld w 5 s).frozen? ⟨w.heap.size, j, none⟩ = false := fun j hj => by
    simp [World.frozen?, hnew]; omega
  generalize grownCap w s.size 0 5 = C at *
  generalize Lib.bytesWorld w 5 s = V at *
  obtain ⟨B, hB⟩ : ∃ B : Nat, B = (s.data.toList.getD k 0).toNat := ⟨_, rfl⟩
  have hBl : B < 256 := by rw [hB]; exact UInt8.toNat_lt _
  have hck := hcell k hk
  rw [← hB] at hck
  have hfk := hfz k hk
  have hx := u8_xor_nat B m hBl hm
  have hxl : B ^^^ m < 256 := Nat.xor_lt_two_pow (n := 8) hBl hm
  have hback : (convert 41 9 (.slice (some ⟨w.heap.size, 0, none⟩) s.size C)).run Try.prog (V.setCell ⟨w.heap.size, k, none⟩ (.int .u8 (B ^^^ m : Nat))) = .ok (.string (tn s k m)) (V.setCell ⟨w.heap.size, k, none⟩ (.int .u8 (B ^^^ m : Nat))) := by
    have h := run_convert_bytes_back (P := Try.prog) (V.setCell ⟨w.heap.size, k, none⟩ (.int .u8 (B ^^^ m : Nat))) 41 9 5 ⟨w.heap.size, 0, none⟩ C (tn s k m).data.toList Try.underBytes Try.underU8 Try.underStr (by
      intro j hj
      have hj2 : j < s.size := by rw [tn_data] at hj; simpa using hj
      have hadd : (⟨w.heap.size, 0, none⟩ : Addr).add j = ⟨w.heap.size, j, none⟩ := by unfold Addr.add; split <;> simp_all
      rw [hadd]
      have hVn := heap_set (i := k) (v := .int .u8 (B ^^^ m : Nat)) hnew
      have hc1 := hcell j hj2
      rw [cell_of hnew] at hc1
      rw [cell_of hVn, Array.getElem?_setIfInBounds]
      by_cases he : k = j
      · subst he
        rw [if_pos rfl, if_pos (by omega)]
        simp only [tn_data, List.getElem_set_self, UInt8.toNat_ofNat', ← hB]
        congr 2; omega
      · rw [if_neg he, hc1]
        simp only [tn_data, List.getElem_set_ne he]
        congr 3
        rw [List.getD_eq_getElem?_getD, List.getElem?_eq_getElem (by simpa using hj2)]
        rfl)
    rw [show (tn s k m).data.toList.length = s.size by rw [tn_data]; simp] at h
    exact h
  have hb2 : Below w.heap.size w (V.setCell ⟨w.heap.size, k, none⟩ (.int .u8 (B ^^^ m : Nat))) := hbel.setCell (Nat.le_refl _) _
  clear hcell hnew hcs hfz hbel hB
  generalize tn s k m = T at *
  generalize B ^^^ m = Y at *
  go_enter Try.func7, Try.ntmps7
  go_wp2_with fail
  go_ret
  exact ⟨rfl, hb2⟩
end Go.Proofs.Ytohpjbhjcgihkab
