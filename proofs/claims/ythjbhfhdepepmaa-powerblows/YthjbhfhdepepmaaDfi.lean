/- A disk's file by its name; what a file's own calls answer. -/
import Derived.Test.YthjbhfhdepepmaaDsk
import Derived.StringKeys
namespace Go.Proofs.Ythjbhfhdepepmaa
open Go.RowKit
theorem keyS {nm : ByteArray} (h : nm.size ≤ maxLen) : keyOf Try.prog 9 (.string nm) = some (.string nm.data.toList) := WideMaps.keyOf_string_mk Try.under9 h
set_option maxHeartbeats 1000000 in
theorem file_any (d : Nat) (m : Option Nat) (rm : Nat) (cl cb : Int) (fs : List Fl) (nm : ByteArray) (hn : nm.size ≤ maxLen) (w : World) (h : Dk w d m rm cl cb fs) :
    Calls Try.prog 66 #[.pointer (some ⟨d, 0, none⟩), .string nm] w fun e w' => e = .returned (.pointer (bkOf (look nm fs))) ∧ w' = w := by
  have c2 : w.cell? ⟨d, 2, none⟩ = some (.map m) := (cell_of h.blk).trans rfl
  have hrun : (Instr.lookup 103 (.map m) (.string nm) false).run Try.prog w = .ok (.pointer (bkOf (look nm fs))) w := by
    cases m with
    | none =>
      have e : fs = [] := h.map
      subst e
      exact Maps.look_nil false klaw Try.underMap (Try.zeroFile w) (keyS hn)
    | some b =>
      have ho : w.ownsMap Try.prog 9 RP b fs.length (dm fs) := h.map
      obtain ⟨v, ps, hr, hv⟩ := ho.lookup klaw Try.underMap (Try.zeroFile w) RP_none (keyS hn)
      rw [atKey_dm] at hv
      rw [hr]
      cases hl : look nm fs with
      | none => rw [hl] at hv; rw [RP_inv_nil hv]; rfl
      | some f => rw [hl] at hv; rw [RP_inv hv]; rfl
  generalize bkOf (look nm fs) = r at *
  clear h
  go_enter Try.func66, Try.ntmps66
  go_wp2
  go_ret
  exact ⟨rfl, rfl⟩
theorem file_nil (nm : ByteArray) (w : World) :
    Calls Try.prog 66 #[.pointer none, .string nm] w fun e w' => e = .returned (.pointer none) ∧ w' = w := by
  go_enter Try.func66, Try.ntmps66
  go_wp2
  go_ret
  exact ⟨rfl, rfl⟩
theorem good_any (nm : ByteArray) (w : World) :
    Calls Try.prog 65 #[.string nm] w fun e w' => e = .returned (.bool (decide (1 ≤ nm.size ∧ nm.size ≤ 255))) ∧ w' = w := by
  go_enter Try.func65, Try.ntmps65
  by_cases h1 : 1 ≤ nm.size
  · by_cases h2 : nm.size ≤ 255
    · have d1 : decide ((1 : Int) ≤ nm.size) = true := by simp; omega
      have d2 : decide ((nm.size : Int) ≤ 255) = true := by simp; omega
      have e : decide (1 ≤ nm.size ∧ nm.size ≤ 255) = true := by simp [h1, h2]
      rw [e]
      go_wp2
      go_ret
      exact ⟨by simp_all, rfl⟩
    · have e : decide (1 ≤ nm.size ∧ nm.size ≤ 255) = false := by simp [h2]
      rw [e]
      have d2 : decide ((nm.size : Int) ≤ 255) = false := by simp; omega
      go_wp2
      go_ret
      exact ⟨by simp_all, rfl⟩
  · have e : decide (1 ≤ nm.size ∧ nm.size ≤ 255) = false := by simp [h1]
    rw [e]
    go_wp2
    go_ret
    exact ⟨by simp_all, rfl⟩
theorem fsize_any (f : Fl) (w : World) (h : FA w f) :
    Calls Try.prog 70 #[.pointer (some ⟨f.bk, 0, none⟩)] w fun e w' => e = .returned (.int .i64 f.da.length) ∧ w' = w := by
  have c0 : w.cell? ⟨f.bk, 0, none⟩ = some f.sl := (cell_of h.1).trans rfl
  obtain ⟨a, cap, e⟩ : ∃ a cap, f.sl = .slice a f.da.length cap := by
    rcases h.2.2 with ⟨h1, h2⟩ | ⟨g, cap, cur, h1, _⟩
    · exact ⟨none, 0, by rw [h1, h2]⟩
    · exact ⟨_, cap, h1⟩
  rw [e] at c0
  generalize f.bk = p at *
  generalize f.da.length = n at *
  clear h e
  go_enter Try.func70, Try.ntmps70
  go_wp2
  go_ret
  exact ⟨rfl, rfl⟩
end Go.Proofs.Ythjbhfhdepepmaa
