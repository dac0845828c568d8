/- What a file's read answers; what its cut and put leave. -/
import Derived.Test.YthjbhfhdepepmaaDfl
import Derived.Lib.BufferRead
namespace Go.Proofs.Ythjbhfhdepepmaa
open Go.RowKit
def ba (l : List UInt8) : ByteArray := ⟨l.toArray⟩
theorem bc_at (l : List UInt8) (j : Nat) : (Lib.byteCells l)[j]? = (l[j]?).map (fun b => Value.int .u8 b.toNat) := by simp [Lib.byteCells]
theorem add_lit (g j : Nat) : (⟨g, 0, none⟩ : Addr).add j = ⟨g, j, none⟩ := by unfold Addr.add; split <;> simp_all
theorem add_lit2 (g i j : Nat) : (⟨g, i, none⟩ : Addr).add j = ⟨g, i + j, none⟩ := by unfold Addr.add; split <;> simp_all
theorem elemB : Try.prog.elem 81 = 5 := by kernel_rfl
theorem underB : Try.prog.underlying 81 = some (.slice (Try.prog.elem 81)) := by rw [elemB]; exact Try.underBytes
theorem conv_at {w : World} {g cap : Nat} {l : List UInt8} (h : w.ownsRow 0 5 1 (.slice (some ⟨g, 0, none⟩) l.length cap) l.length (Lib.byteCells l)) (a n : Nat) (hn : a + n ≤ l.length) (c : Nat) (ad : Addr) (ha : 0 < n → ad = ⟨g, a, none⟩) :
    (convert 81 9 (.slice (some ad) n c)).run Try.prog w = .ok (.string (ba ((l.drop a).take n))) w := by
  have hl : ((l.drop a).take n).length = n := by simp; omega
  have := run_convert_bytes_back (P := Try.prog) w 81 9 5 ad c ((l.drop a).take n) Try.underBytes Try.under5 Try.under9 (fun j hj => by
    rw [hl] at hj
    rw [ha (by omega), add_lit2, ← add_lit]
    refine h.cells (g := g) rfl (a + j) _ ?_
    rw [bc_at, List.getElem?_eq_getElem (by omega)]
    simp)
  rw [hl] at this
  exact this
/-- A slice of a row, as a text. -/
theorem conv_mid {w : World} {v : Value} {l : List UInt8} (h : w.ownsRow 0 5 1 v l.length (Lib.byteCells l)) (a n : Nat) (hn : a + n ≤ l.length) :
    ∃ v2, (∀ w' : World, (Instr.slice 81 v (some (.int .i64 (a : Int))) (some (.int .i64 ((a : Int) + n))) none).run Try.prog w' = .ok v2 w') ∧ (convert 81 9 v2).run Try.prog w = .ok (.string (ba ((l.drop a).take n))) w := by
  obtain ⟨i0, hi, hz0, hz1, hz2⟩ := info_parts Try.info5
  rcases h.2 with ⟨rfl, h2⟩ | ⟨g, cap, cur, rfl, hg, hh, hnc, hcm, hcs, htk⟩
  · have e1 : a = 0 := by omega
    have e2 : n = 0 := by omega
    subst e1; subst e2
    have e3 : l = [] := List.eq_nil_of_length_eq_zero h2
    subst e3
    refine ⟨.slice none 0 0, fun w' => ?_, ?_⟩
    · have := run_slice_lh (P := Try.prog) (w := w') 81 none 0 0 underB .i64 .i64 0 0 (by omega) (by omega) (by omega)
      simpa [sizeOf, typeInfo, elemB, hi, sliced, hz1] using this
    · exact Lib.run_convert_nil_bytes w 81 9 5 0 Try.underBytes Try.under5 Try.under9
  · have hsl : ∀ w' : World, (Instr.slice 81 (.slice (some ⟨g, 0, none⟩) l.length cap) (some (.int .i64 (a : Int))) (some (.int .i64 ((a : Int) + n))) none).run Try.prog w' = .ok (sliced (some ⟨g, 0, none⟩) a (a + n) cap 1) w' := fun w' => by
      have := run_slice_lh (P := Try.prog) (w := w') 81 (some ⟨g, 0, none⟩) l.length cap underB .i64 .i64 (a : Int) ((a : Int) + n) (by omega) (by omega) (by omega)
      rw [this]
      have e : ((a : Int) + n).toNat = a + n := by omega
      simp [sizeOf, typeInfo, elemB, hi, hz1, e]
    refine ⟨_, hsl, ?_⟩
    unfold sliced
    rw [Nat.add_sub_cancel_left, Nat.mul_one]
    split
    · exact conv_at h a n hn _ _ (fun h0 => by omega)
    · rw [Option.map_some, add_lit]
      exact conv_at h a n hn _ _ (fun _ => rfl)
set_option maxHeartbeats 1000000 in
theorem read_any (f : Fl) (a n : Nat) (w : World) (h : FA w f) (hn : a + n ≤ f.da.length) (hl : f.da.length ≤ 1073741824) :
    Calls Try.prog 74 #[.pointer (some ⟨f.bk, 0, none⟩), .int .i64 a, .int .i64 n] w fun e w' => e = .returned (.string (ba ((f.da.drop a).take n))) ∧ w' = w := by
  have c0 : w.cell? ⟨f.bk, 0, none⟩ = some f.sl := (cell_of h.1).trans rfl
  obtain ⟨v2, h1, h2⟩ := conv_mid h.2 a n hn
  obtain ⟨ad, cap, e⟩ := own_form h.2
  rw [e] at c0 h1
  have h1' := h1 w
  have ew : IntKind.i64.wrap ((a : Int) + n) = (a : Int) + n := by simp only [IntKind.wrap, IntKind.bits, IntKind.signed, Bool.true_and]; split <;> rename_i h <;> simp at h <;> omega
  generalize ba ((f.da.drop a).take n) = r at *
  have hb : (a : Int) + n < 4611686018427387904 := by omega
  generalize f.da.length = N at *
  clear h h1 e hn hl
  go_enter Try.func74, Try.ntmps74
  go_wp2
  go_ret
  exact ⟨rfl, rfl⟩
end Go.Proofs.Ythjbhfhdepepmaa
