/- What each call of a writer writes, and what a reader makes of it, whole or cut. -/
import Derived.Test.YtpfaioncaolmjaaGreatRecN
namespace Go.Proofs.YtpfaioncaolmjaaGreat
open Go.RowKit
theorem be_nbA : ∀ (n v : Nat), be (nb n v) = v % 256 ^ n
  | 0, v => by show 0 = _; rw [Nat.pow_zero, Nat.mod_one]
  | n + 1, v => by
    rw [nb, be_snoc, be_nbA n, Nat.pow_succ, Nat.mul_comm (256 ^ n) 256, Nat.mod_mul]
    omega
/-- From k on s has the beginning of l alone, and ends. -/
def Cuts (s : ByteArray) (k : Nat) (l : List Nat) : Prop := k ≤ s.size ∧ ∃ m, m < l.length ∧ (bl s).drop k = l.take m
theorem Cuts.size {s : ByteArray} {k : Nat} {l : List Nat} (h : Cuts s k l) : ∃ m, m < l.length ∧ (bl s).drop k = l.take m ∧ s.size = k + m := by
  obtain ⟨hk, m, hm, e⟩ := h
  have := congrArg List.length e
  rw [List.length_drop, bl_len, List.length_take] at this
  exact ⟨m, hm, e, by omega⟩
theorem fx_yes {n k V : Nat} {s : ByteArray} (h : Stands s k (nb n V)) (hV : V < 256 ^ n) : fx n s k 0 = (V, k + n, 0) := by
  have h1 := h.1
  have h2 := h.2
  rw [nb_len] at h1 h2
  rw [fx_ok h1, bl_ext, Nat.add_sub_cancel_left, h2, be_nbA, Nat.mod_eq_of_lt hV]
theorem fx_cut {n k V : Nat} {s : ByteArray} (h : Cuts s k (nb n V)) : fx n s k 0 = (0, k, 20) := by
  obtain ⟨m, hm, _, hz⟩ := h.size
  rw [nb_len] at hm
  exact fx_short (by omega)
theorem uq_yes {k v : Nat} {s : ByteArray} (h : Stands s k (M.form v)) (hv : v < 18446744073709551616) : uq s k 0 = (v, k + (M.form v).length, 0) :=
  (uq_iff (by have := h.1; omega)).2 ⟨hv, h, rfl⟩
theorem rde_cut {k v m : Nat} {s : ByteArray} (h : (bl s).drop k = (M.form v).take m) (hm : m < (M.form v).length) (hv : v < 18446744073709551616) : rde (tl s k) = 20 := by
  unfold rde
  rw [bl_tl, h, M.rd_short hv hm]
theorem uq_cut {k v : Nat} {s : ByteArray} (h : Cuts s k (M.form v)) (hv : v < 18446744073709551616) : uq s k 0 = (0, k, 20) := by
  obtain ⟨m, hm, e, _⟩ := h.size
  have := rde_cut e hm hv
  rw [uq_bad (by omega), this]
theorem zz_lt {d : Int} (h : -9223372036854775808 ≤ d ∧ d ≤ 9223372036854775807) : (M.zz d).toNat < 18446744073709551616 := by unfold M.zz; split <;> omega
theorem vq_yes {k : Nat} {d : Int} {s : ByteArray} (h : Stands s k (M.form (M.zz d).toNat)) (hd : -9223372036854775808 ≤ d ∧ d ≤ 9223372036854775807) : vq s k 0 = (d, k + (M.form (M.zz d).toNat).length, 0) :=
  (vq_iff (by have := h.1; omega)).2 ⟨hd, h, rfl⟩
theorem vq_cut {k : Nat} {d : Int} {s : ByteArray} (h : Cuts s k (M.form (M.zz d).toNat)) (hd : -9223372036854775808 ≤ d ∧ d ≤ 9223372036854775807) : vq s k 0 = (0, k, 20) := by
  obtain ⟨m, hm, e, _⟩ := h.size
  have := rde_cut e hm (zz_lt hd)
  rw [vq_bad (by omega), this]
theorem rq_yes {k : Nat} {s S : ByteArray} (h : Stands s k (bl S)) : rq S.size s k 0 = (S, k + (bl S).length, 0) := by
  have h1 := h.1
  rw [bl_len] at h1 ⊢
  rw [rq_ok h1, ext_stands h]
theorem rq_cut {k : Nat} {s S : ByteArray} (h : Cuts s k (bl S)) : rq S.size s k 0 = (⟨#[]⟩, k, 20) := by
  obtain ⟨m, hm, _, hz⟩ := h.size
  rw [bl_len] at hm
  exact rq_short (by omega)
theorem tq_yes {k : Nat} {s S : ByteArray} (h : Stands s k (tx S)) (hS : S.size < 18446744073709551616) : tq S.size s k 0 = (S, k + (tx S).length, 0) := by
  unfold tx at h ⊢
  obtain ⟨h2, h3⟩ := stands_app.1 h
  obtain ⟨e1, e2, e3⟩ := (rd_stands (by have := h2.1; omega)).2 ⟨hS, h2⟩
  have h4 := h3.1
  rw [bl_len] at h4
  rw [tq_ok e1 (by rw [e2, e3]; exact ⟨Or.inl (Int.le_refl _), h4⟩), e2, e3, ext_stands h3, List.length_append, bl_len, Nat.add_assoc]
theorem tq_cut {k : Nat} {s S : ByteArray} (h : Cuts s k (tx S)) (hS : S.size < 18446744073709551616) : ∃ e, (e = 20 ∨ e = 21) ∧ tq S.size s k 0 = (⟨#[]⟩, k, e) := by
  obtain ⟨m, hm, e, hz⟩ := h.size
  have hk : k ≤ s.size := h.1
  unfold tx at hm e
  rw [List.length_append, bl_len] at hm
  by_cases hf : m < (M.form S.size).length
  · rw [List.take_append_of_le_length (by omega)] at e
    have := rde_cut e hf hS
    exact ⟨20, Or.inl rfl, by rw [tq_bad (by omega), this]⟩
  · rw [List.take_append, List.take_of_length_le (by omega)] at e
    obtain ⟨e1, e2, e3⟩ := (rd_stands hk).2 ⟨hS, stands_of hk e⟩
    exact ⟨21, Or.inr rfl, tq_long e1 (by rw [e2, e3]; intro hh; omega)⟩
theorem oq_yes {k : Nat} {s S : ByteArray} (h : Stands s k (ol true S)) (hS : S.size < 4611686018427387904) : oq S.size s k 0 = (true, S, k + (ol true S).length, 0) := by
  unfold ol at h ⊢
  rw [if_pos rfl] at h ⊢
  obtain ⟨h2, h3⟩ := stands_app.1 h
  obtain ⟨e1, e2, e3⟩ := (rd_stands (by have := h2.1; omega)).2 ⟨by omega, h2⟩
  have h4 := h3.1
  rw [bl_len] at h4
  rw [oq_ok (n := S.size) e1 (by rw [e2, uz_even2]) (Or.inl (Int.le_refl _)) (by rw [e3]; exact h4), e3, ext_stands h3, List.length_append, bl_len, Nat.add_assoc]
theorem oq_cut {k : Nat} {s S : ByteArray} (h : Cuts s k (ol true S)) (hS : S.size < 4611686018427387904) : ∃ e, (e = 20 ∨ e = 21) ∧ oq S.size s k 0 = (false, ⟨#[]⟩, k, e) := by
  obtain ⟨m, hm, e, hz⟩ := h.size
  have hk : k ≤ s.size := h.1
  unfold ol at hm e
  rw [if_pos rfl] at hm e
  rw [List.length_append, bl_len] at hm
  by_cases hf : m < (M.form (2 * S.size)).length
  · rw [List.take_append_of_le_length (by omega)] at e
    have := rde_cut e hf (by omega)
    exact ⟨20, Or.inl rfl, by rw [oq_bad (by omega), this]⟩
  · rw [List.take_append, List.take_of_length_le (by omega)] at e
    obtain ⟨e1, e2, e3⟩ := (rd_stands hk).2 ⟨by omega, stands_of hk e⟩
    exact ⟨21, Or.inr rfl, oq_long e1 (by rw [e2, uz_even2]; omega) (by rw [e2, e3, uz_even2]; intro hh; have := hh.2.2; rw [Int.toNat_natCast] at this; omega)⟩
theorem form1 : M.form 1 = [1] := rfl
theorem on_yes {k : Nat} {s S : ByteArray} (h : Stands s k (ol false S)) : oq 0 s k 0 = (false, ⟨#[]⟩, k + (ol false S).length, 0) := by
  unfold ol at h ⊢
  rw [if_neg (by decide)] at h ⊢
  rw [← form1] at h
  obtain ⟨e1, e2, e3⟩ := (rd_stands (by have := h.1; omega)).2 ⟨by omega, h⟩
  rw [oq_null e1 (by rw [e2]; rfl), e3]
  rfl
theorem on_cut {k : Nat} {s S : ByteArray} (h : Cuts s k (ol false S)) : oq 0 s k 0 = (false, ⟨#[]⟩, k, 20) := by
  obtain ⟨m, hm, e, hz⟩ := h.size
  unfold ol at hm e
  rw [if_neg (by decide)] at hm e
  rw [← form1] at hm e
  have := rde_cut e hm (by omega)
  rw [oq_bad (by omega), this]
/-- What a call writes. -/
def wenc (K N : Nat) (S : ByteArray) : List Nat :=
  if K % 14 = 0 then nb 1 (N % 256) else if K % 14 = 1 then nb 2 (N % 65536) else if K % 14 = 2 then nb 4 (N % 4294967296) else if K % 14 = 3 then nb 8 N
  else if K % 14 = 4 then nb 4 ((IntKind.i32.wrap (N : Int)) % 4294967296).toNat else if K % 14 = 5 then nb 8 ((IntKind.i64.wrap (N : Int)) % 18446744073709551616).toNat
  else if K % 14 = 6 then M.form N else if K % 14 = 7 then M.form (M.zz (IntKind.i64.wrap (N : Int))).toNat else if K % 14 = 8 then bl S else if K % 14 = 9 then tx S
  else if K % 14 = 10 then ol true S else ol false S
theorem wenc_len (K N : Nat) (S : ByteArray) : (wenc K N S).length ≤ 20 + S.size := by
  have hf := fun v => M.form_le v
  have h1 := hf N
  have h2 := hf (M.zz (IntKind.i64.wrap (N : Int))).toNat
  have h3 := hf S.size
  have h4 := hf (2 * S.size)
  unfold wenc
  repeat' split
  all_goals first
    | (rw [nb_len]; omega)
    | (rw [bl_len]; omega)
    | omega
    | (unfold tx; rw [List.length_append, bl_len]; omega)
    | (unfold ol; rw [if_pos rfl, List.length_append, bl_len]; omega)
    | (unfold ol; rw [if_neg (by decide)]; show 1 ≤ _; omega)
/-- What a script writes. -/
def wencs (os : List (Nat × Nat × ByteArray)) : List Nat := os.flatMap fun o => wenc o.1 o.2.1 o.2.2
end Go.Proofs.YtpfaioncaolmjaaGreat
