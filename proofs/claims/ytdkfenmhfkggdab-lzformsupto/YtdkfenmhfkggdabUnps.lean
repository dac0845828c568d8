/- LzUnpacks' walk: every Unpack is the document's. -/
import Derived.Test.YtdkfenmhfkggdabRUnp
import Derived.Test.YtdkfenmhfkggdabFix
namespace Go.Proofs.Ytdkfenmhfkggdab
open Go.RowKit
theorem un_len (len : Nat) : ∀ (n : Nat) (p out F : List UInt8), p.length = n → M.un len p out = .ok F → len ≤ out.length + 131 * p.length := by
  intro n
  induction n using Nat.strongRecOn with
  | ind n ih =>
    intro p out F hn h
    by_cases h0 : p.length = 0
    · rw [List.eq_nil_of_length_eq_zero h0, M.un_nil] at h
      split at h
      · cases h
      · omega
    · rw [M.un_step h0] at h
      cases hf : M.fst' p with
      | error e => rw [hf] at h; cases h
      | ok tn =>
        obtain ⟨t, m⟩ := tn
        rw [hf] at h
        simp only at h
        have hok := M.fst_ok h0 hf
        have hsm := tok_small hok.1
        have hal := M.app_len out t
        split at h
        · cases h
        · split at h
          · cases h
          · have := ih (p.drop m).length (by simp; omega) _ _ _ rfl h
            rw [List.length_drop, hal] at this
            omega
theorem unZ_form (p : List UInt8) (z m : Int) : ∃ X Y, unZ p z m = .tuple #[.string X, .int .i64 Y] := by
  unfold unZ
  split
  · exact ⟨_, _, rfl⟩
  · split
    · exact ⟨_, _, rfl⟩
    · exact ⟨_, _, rfl⟩
/-- The elements of a slice of a text and two numbers each, where they lie. -/
def Trip (w : World) (a : Option Addr) (rs : List (ByteArray × Int × Int)) : Prop := rs = [] ∨ ∃ b off, a = some ⟨b, off, none⟩ ∧ b < w.heap.size ∧ ∀ j, j < rs.length → w.cell? ⟨b, off + j * 3, none⟩ = some (.string (rs.getD j (ByteArray.empty, 0, 0)).1) ∧ w.cell? ⟨b, off + j * 3 + 1, none⟩ = some (.int .i64 (rs.getD j (ByteArray.empty, 0, 0)).2.1) ∧ w.cell? ⟨b, off + j * 3 + 2, none⟩ = some (.int .i64 (rs.getD j (ByteArray.empty, 0, 0)).2.2)
theorem trip_mem {rs : List (ByteArray × Int × Int)} {k : Nat} (h : k < rs.length) : rs.getD k (ByteArray.empty, 0, 0) ∈ rs := by
  simp [List.getD_eq_getElem?_getD, h]
end Go.Proofs.Ytdkfenmhfkggdab
