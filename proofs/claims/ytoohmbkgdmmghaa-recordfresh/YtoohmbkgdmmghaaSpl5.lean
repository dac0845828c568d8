/- RecordSpells' walk: a record's form, spelled by the writer step by step. -/
import Derived.Test.YtoohmbkgdmmghaaRecOpen
namespace Go.Proofs.Ytoohmbkgdmmghaa
open Go.RowKit
theorem sze_in {r : Rec} {first : Int} {N : Nat} (hN : N < 65536) (h : sze r first N ≠ 0) : sze r first N = 27 ∨ sze r first N = 5 ∨ sze r first N = 66 := by
  unfold sze at *
  rw [if_neg (by omega)] at *
  split
  · exact Or.inl rfl
  · split
    · exact Or.inr (Or.inl rfl)
    · split
      · exact Or.inr (Or.inr rfl)
      · rename_i h1 h2 h3; rw [if_neg h1, if_neg h2, if_neg h3] at h; exact absurd rfl h
theorem ol_byte (h : Bool) (d : ByteArray) (hd : d.size ≤ 1000000000000000000) : ∀ b ∈ ol h d, b < 256 := by
  intro b hb
  unfold ol at hb
  split at hb
  · rcases List.mem_append.1 hb with hb | hb
    · exact M.form_byte (by omega) b hb
    · exact bl_byte d b hb
  · simp at hb; omega
theorem hl_byte (hs : List Hdr) (h : ∀ x ∈ hs, x.1.size ≤ 1000000000000000000 ∧ x.2.2.size ≤ 1000000000000000000) : ∀ b ∈ hl hs, b < 256 := by
  intro b hb
  simp only [hl, List.mem_flatMap] at hb
  obtain ⟨x, hx, hb⟩ := hb
  unfold hl1 tx at hb
  rcases List.mem_append.1 hb with hb | hb
  · rcases List.mem_append.1 hb with hb | hb
    · exact M.form_byte (by have := (h x hx).1; omega) b hb
    · exact bl_byte _ b hb
  · exact ol_byte _ _ (h x hx).2 b hb
theorem own_byte (d : Int) (n : Nat) (r : Rec) (hd : I64 d) (hn : n < 18446744073709551616) (hh : r.hs.length < 18446744073709551616) (hm : Mod r) : ∀ b ∈ own d n r, b < 256 := by
  have hzb := M.zz_bd hd.1 hd.2
  intro b hb
  unfold own at hb
  simp only [List.mem_append] at hb
  rcases hb with hb | hb | hb | hb | hb | hb | hb
  · simp at hb; omega
  · exact M.form_byte (by omega) b hb
  · exact M.form_byte hn b hb
  · exact ol_byte _ _ hm.k b hb
  · exact ol_byte _ _ hm.v b hb
  · exact M.form_byte hh b hb
  · refine hl_byte _ (fun x hx => ⟨?_, hm.h x hx⟩) b hb
    have h1 := hl_mem hx
    have h2 := hm.all
    have h3 := (tx_ge x.1).2
    unfold hl1 at h1
    rw [List.length_append] at h1
    omega
end Go.Proofs.Ytoohmbkgdmmghaa
