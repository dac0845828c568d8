/- LzUnpacks' walk: every Unpack is the document's. -/
import Derived.Test.YtdkfenmhfkggdaaRUnp
import Derived.Test.YtdkfenmhfkggdaaFix
namespace Go.Proofs.Ytdkfenmhfkggdaa
open Go.RowKit
theorem un_len (len : Nat) : ∀ (n : Nat) (p out F : List UInt8), p.length = n → M.un len p out = .ok F → len ≤ out.length + 131 * p.length := by
  intro n
  induction n using Nat.strongRecOn with
  | ind n ih =>
    intro p out F hn h
    by_cases h0 : p.length = 0
    · rw [List.eq_nil_of_length_eq_zero h0, M.un_nil] at h
      split at h
      · cases h
      · omega
    · rw [M.un_step h0] at h
      cases hf : M.fst' p with
      | error e => rw [hf] at h; cases h
      | ok tn =>
        obtain ⟨t, m⟩ := tn
        rw [hf] at h
        simp only at h
        have hok := M.fst_ok h0 hf
        have hsm := tok_small hok.1
        have hal := M.app_len out t
        split at h
        · cases h
        · split at h
          · cases h
          · have := ih (p.drop m).length (by simp; omega) _ _ _ rfl h
            rw [List.length_drop, hal] at this
            omega
theorem unZ_form (p : List UInt8) (z m : Int) : ∃ X Y, unZ p z m = .tuple #[.string X, .int .i64 Y] := by
  unfold unZ
  split
  · exact ⟨_, _, rfl⟩
  · split
    · exact ⟨_, _, rfl⟩
    · exact ⟨_, _, rfl⟩
set_option maxHeartbeats 1000000 in
theorem runpack_any (p : ByteArray) (z m : Int) (w : World) (hs : p.size ≤ 1048576) (h1 : z ≤ 9223372036854775807) :
    Calls Try.prog 17 #[.string p, .int .i64 z, .int .i64 m] w fun e w' => e = .returned (unZ p.data.toList z m) ∧ Below w.heap.size w w' := by
  by_cases h0 : z < 0 ∨ m < z
  · unfold unZ
    rw [if_pos h0]
    by_cases hz : z < 0
    · clear h0
      go_enter Try.func17, Try.ntmps17
      go_wp2_with fail
      go_ret2
      exact ⟨rfl, Below.refl _ _⟩
    · have hz2 : m < z := by omega
      clear h0
      go_enter Try.func17, Try.ntmps17
      go_wp2_with fail
      go_ret2
      exact ⟨rfl, Below.refl _ _⟩
  · obtain ⟨len, rfl⟩ := Int.eq_ofNat_of_zero_le (show 0 ≤ z by omega)
    have hx := runpack_in p len m w hs (by omega) (by omega)
    unfold unZ
    rw [if_neg h0]
    exact hx
/-- The elements of a slice of a text and two numbers each, where they lie. -/
def Trip (w : World) (a : Option Addr) (rs : List (ByteArray × Int × Int)) : Prop := rs = [] ∨ ∃ b off, a = some ⟨b, off, none⟩ ∧ b < w.heap.size ∧ ∀ j, j < rs.length → w.cell? ⟨b, off + j * 3, none⟩ = some (.string (rs.getD j (ByteArray.empty, 0, 0)).1) ∧ w.cell? ⟨b, off + j * 3 + 1, none⟩ = some (.int .i64 (rs.getD j (ByteArray.empty, 0, 0)).2.1) ∧ w.cell? ⟨b, off + j * 3 + 2, none⟩ = some (.int .i64 (rs.getD j (ByteArray.empty, 0, 0)).2.2)
theorem trip_mem {rs : List (ByteArray × Int × Int)} {k : Nat} (h : k < rs.length) : rs.getD k (ByteArray.empty, 0, 0) ∈ rs := by
  simp [List.getD_eq_getElem?_getD, h]
set_option maxHeartbeats 4000000 in
set_option maxRecDepth 20000 in
theorem unps_walk (a : Option Addr) (cap : Nat) (rs : List (ByteArray × Int × Int)) (w : World) (hl : rs.length ≤ 9223372036854775807) (hz : ∀ r ∈ rs, r.1.size ≤ 1048576 ∧ r.2.1 ≤ 9223372036854775807) (V : Trip w a rs) :
    Calls Try.prog 5 #[.slice a rs.length cap] w fun e w' => e = .returned (.bool true) ∧ Below w.heap.size w w' := by
  have HV := hid V
  have HZ := hid hz
  clear V hz
  go_enter Try.func5, Try.ntmps5
  go_wp2_with fail
  refine (fixed_any w).mono ?_
  rintro e w1 ⟨rfl, hb1⟩
  go_wp2_with fail
  go_loopg [3, 4, 5, 6, 7, 8] rs.length (fun k u x1 x2 x3 x4 x5 wr => ∃ j : Nat, j + k = rs.length ∧ u = .int .i64 j ∧ Hid (Below w.heap.size w wr))
  case atStart => exact ⟨0, by omega, rfl, hb1⟩
  case round =>
    clear hb1
    obtain ⟨j, hk, rfl, HB⟩ := hrel
    by_cases hlt : j < rs.length
    · obtain ⟨k, rfl⟩ : ∃ k, gk = k + 1 := ⟨gk - 1, by omega⟩
      rcases HV.out with rfl | ⟨b, off, rfl, hbl, hc⟩
      · simp at hlt
      obtain ⟨q0, q1, q2⟩ := hc j hlt
      have hzz := HZ.out _ (trip_mem hlt)
      generalize rs.getD j (ByteArray.empty, 0, 0) = r at *
      obtain ⟨S, z, m⟩ := r
      simp only at q0 q1 q2 hzz
      have k0 := (HB.out.cell (p := ⟨b, off + j * 3, none⟩) hbl).trans q0
      have k1 := (HB.out.cell (p := ⟨b, off + j * 3 + 1, none⟩) hbl).trans q1
      have k2 := (HB.out.cell (p := ⟨b, off + j * 3 + 2, none⟩) hbl).trans q2
      have c1 := fun w => unpack_any S z m w hzz.2 (fun F hF => by have := un_len _ _ _ _ _ rfl hF; rw [len_] at this; simp only [List.length_nil] at this; omega)
      have c2 := fun w => runpack_any S z m w hzz.1 hzz.2
      obtain ⟨X, Y, hXY⟩ := unZ_form S.data.toList z m
      rw [hXY] at c1 c2
      have C1 := hid c1; have C2 := hid c2
      have hsz := HB.out.size
      clear c1 c2 hXY hc q0 q1 q2 hzz
      go_wp2_with fail
      refine (C1.out _).mono ?_
      rintro e w2 ⟨rfl, hb2⟩
      have HB2 := hid ((HB.out.alloc hsz (.cells #[.string S, .int .i64 z, .int .i64 m] 33)).trans (hb2.mono (by simp; omega)))
      have gT : w2.heap[wr.heap.size]? = some (.cells #[.string S, .int .i64 z, .int .i64 m] 33 (0, 0)) := (hb2.block _ (by simp)).trans (heap_new wr _)
      obtain ⟨m0, m1, m2⟩ := cells3 gT
      clear hb2 gT k0 k1 k2 HB
      go_wp2_with fail
      refine (C2.out _).mono ?_
      rintro e w3 ⟨rfl, hb3⟩
      have HB3 := hid (bel_bel HB2.out hb3 HB2.out.size)
      clear hb3
      go_wp2_with fail
      go_roundg k
      case measure => omega
      case rel => exact ⟨j + 1, by omega, by go_num, HB3⟩
    · go_wp2_with fail
      go_ret
      exact ⟨rfl, HB.out⟩
end Go.Proofs.Ytdkfenmhfkggdaa
