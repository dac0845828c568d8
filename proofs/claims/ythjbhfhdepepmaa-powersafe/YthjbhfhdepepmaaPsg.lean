/- PowerSafe: the whole. -/
import Derived.Test.YthjbhfhdepepmaaPsf
namespace Go.Proofs.Ythjbhfhdepepmaa
open Go.RowKit
theorem psf_any (D : ByteArray) (z : Int) (nm : ByteArray) (kp : Int) (a : Option Addr) (cap : Nat) (ws : List (Int × ByteArray)) (w : World) (hD : D.size ≤ 140737488355328) (hz0 : 0 ≤ z) (hz1 : z ≤ 65535) (hw : Wrs w a ws) (hl : ws.length ≤ 140737488355328) (hok : ∀ x ∈ ws, WrOk x) :
    Calls Try.prog 6 #[.string D, .int .u16 z, .agg #[.string nm, .int .i64 kp, .slice a ws.length cap]] w fun e w' => e = .returned (.bool true) ∧ Below w.heap.size w w' := by
  obtain ⟨z, rfl⟩ : ∃ k : Nat, z = k := ⟨z.toNat, by omega⟩
  have hdl : D.data.toList.length = D.size := Array.length_toList
  obtain ⟨s, hs⟩ : ∃ s, s = z % (D.size + 1) := ⟨_, rfl⟩
  have hsn : s ≤ D.size := by rw [hs]; exact Nat.le_of_lt_succ (Nat.mod_lt z (Nat.succ_pos D.size))
  obtain ⟨L, hL⟩ : ∃ L, L = lft D.data.toList (s : Int) kp ws := ⟨_, rfl⟩
  have hLl : L.length = kpt D.size s kp := by rw [hL, lft_len, hdl, sfe_nat hsn]
  have hk := kpt_le kp hsn
  have hLs : (ba L).size = L.length := ba_size L
  have hLd : (ba L).data.toList = L := by simp [ba]
  have e1 : (L = D.data.toList.take L.length) ↔ ((ba L).toList == (D.extract 0 L.length).toList) = true := by
    rw [beq_iff_eq, ByteArray.toList_eq, ByteArray.toList_eq, hLd, ext_take8]
  refine psf_core D (ba L) (D.extract 0 L.length) z s L.length D.size (ofN D.data.toList L) nm kp a ws.length cap w (by omega) rfl hD hs hLs (by omega) (by omega) (by rw [hLl]; unfold kpt; omega) ?_ rfl (decide ((L.length : Int) < D.size)) (!((ba L).toList == (D.extract 0 L.length).toList)) rfl (by simp) ?_ ?_ ?_ ?_ ?_ ?_
  · rw [beq_iff_eq, ByteArray.toList_eq, ByteArray.toList_eq, ext_take8, ext_take8, hLd, hL]
    exact lft_head (by omega) kp ws
  · unfold ofN
    congr 1
    · rw [hdl]
      by_cases h : L.length < D.size
      · rw [if_pos h, if_pos (by simpa using h)]
      · rw [if_neg h, if_neg (by simpa using h)]
    · by_cases h : L = D.data.toList.take L.length
      · rw [if_pos h, if_neg (by rw [e1.1 h]; decide)]
      · rw [if_neg h, if_pos (by
          cases hq : ((ba L).toList == (D.extract 0 L.length).toList) with
          | false => rfl
          | true => exact absurd (e1.2 hq) h)]
  · exact fun wx _ => fails_any wx
  · exact fun wx hb => by rw [hL]; exact left_any D s nm kp a cap ws wx hD (hw.kept hb) hl hok
  · exact fun wx hb => by rw [hL]; exact of_any D s nm kp a cap ws wx hD (hw.kept hb) hl hok
  · intro wx hb
    have := left_any (ba L) (L.length : Int) nm kp a cap ws wx (by omega) (hw.kept hb) hl hok
    rw [hLd, lft_again] at this
    exact this
  · intro wx hb
    have := left_any D s nm kp none 0 [] wx hD (Or.inl rfl) (by simp) (by simp)
    rw [lft_plain, hdl, sfe_nat hsn, ← hLl] at this
    have e : ba (D.data.toList.take L.length) = D.extract 0 L.length := ba_eq.1 (by rw [ext_take8]; simp [ba])
    rw [e] at this
    exact this
end Go.Proofs.Ythjbhfhdepepmaa
