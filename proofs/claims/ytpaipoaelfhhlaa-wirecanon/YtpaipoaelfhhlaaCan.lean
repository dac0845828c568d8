/- Plain facts on bytes: what is read, written again, is the beginning that it was read from. -/
import Derived.Test.YtpaipoaelfhhlaaWm
import Derived.Test.YtpaipoaelfhhlaaSays
namespace Go.Proofs.Ytpaipoaelfhhlaa
open Go.RowKit
theorem bl_ext (s : ByteArray) (a b : Nat) : bl (s.extract a b) = ((bl s).drop a).take (b - a) := by
  have e : (s.extract a b).data.toList = (s.data.toList.drop a).take (b - a) := by
    rw [ByteArray.data_extract, Array.toList_extract]
  unfold bl
  rw [e, List.map_take, List.map_drop]
theorem tl_zero (s : ByteArray) : tl s 0 = s := by
  rw [← bs_bl (tl s 0), ← bs_bl s]
  congr 1
  rw [bs_bl]
  unfold tl
  rw [bl_ext, List.drop_zero, Nat.sub_zero]
  exact List.take_of_length_le (by rw [bl_len]; omega)
theorem pre_canon {s : ByteArray} {l t : List Nat} (h : bl s = l ++ t) : bs l = s.extract 0 l.length ∧ l.length ≤ s.size := by
  have hl : l.length ≤ s.size := by rw [← bl_len s, h, List.length_append]; omega
  refine ⟨?_, hl⟩
  rw [← bs_bl (s.extract 0 l.length), bl_ext, List.drop_zero, Nat.sub_zero, h, List.take_left]
theorem nb_be : ∀ (n : Nat) (l : List Nat), l.length = n → (∀ b ∈ l, b < 256) → nb n (be l) = l
  | 0, l, h, _ => by rw [List.eq_nil_of_length_eq_zero h]; rfl
  | n + 1, l, h, hb => by
    rcases List.eq_nil_or_concat l with rfl | ⟨l', b, rfl⟩
    · simp at h
    · have h' : l'.length = n := by simpa using h
      have hb1 := hb b (by simp)
      rw [List.concat_eq_append] at hb ⊢
      rw [be_snoc, nb]
      have e1 : (be l' * 256 + b) / 256 = be l' := by omega
      have e2 : (be l' * 256 + b) % 256 = b := by omega
      rw [e1, e2, nb_be n l' h' (fun c hc => hb c (by simp [hc]))]
theorem small10 (s : ByteArray) : (M.form (ByteArray.mk #[]).size).length + (ByteArray.mk #[]).size ≤ max 10 s.size := by
  have e : (M.form (ByteArray.mk #[]).size).length + (ByteArray.mk #[]).size = 1 := by decide
  rw [e]; omega
/-- What was read, written again. -/
def Canon (s : ByteArray) (l : List Nat) (K E : Nat) : Prop := (E = 0 → bs l = s.extract 0 K ∧ l.length = K ∧ K ≤ s.size) ∧ (E ≠ 0 → K = 0)
theorem canon_of {s : ByteArray} {l t : List Nat} {K : Nat} (h : bl s = l ++ t) (hK : K = l.length) : Canon s l K 0 := by
  subst hK
  have := pre_canon h
  exact ⟨fun _ => ⟨this.1, rfl, this.2⟩, fun h => absurd rfl h⟩
theorem canon_no (s : ByteArray) (l : List Nat) (E : Nat) (h : E ≠ 0) : Canon s l 0 E := ⟨fun h' => absurd h' h, fun _ => rfl⟩
theorem fwd {s : ByteArray} (h : rde s = 0) : ∃ t, bl s = M.form (rdv s) ++ t ∧ rdn s = (M.form (rdv s)).length := by
  obtain ⟨t, h1, _, h3⟩ := M.rd_fwd (bl_byte s) h
  exact ⟨t, h1, h3⟩
theorem canon_u (s : ByteArray) : Canon s (M.form (uq s 0 0).1) (uq s 0 0).2.1 (uq s 0 0).2.2 ∧ (uq s 0 0).1 < 18446744073709551616 := by
  by_cases h : rde (tl s 0) = 0
  · rw [uq_ok h]
    have hb := rd_bds (tl s 0)
    rw [tl_zero] at h hb ⊢
    obtain ⟨t, h1, h2⟩ := fwd h
    exact ⟨canon_of h1 (by simpa using h2), by have := hb.1; dsimp only; omega⟩
  · rw [uq_bad h]
    exact ⟨canon_no _ _ _ h, by dsimp only; omega⟩
theorem canon_v (s : ByteArray) : Canon s (M.form (M.zz (vq s 0 0).1).toNat) (vq s 0 0).2.1 (vq s 0 0).2.2 ∧ -9223372036854775808 ≤ (vq s 0 0).1 ∧ (vq s 0 0).1 ≤ 9223372036854775807 := by
  by_cases h : rde (tl s 0) = 0
  · rw [vq_ok h]
    have hb := rd_bds (tl s 0)
    have hub := M.uz_bd (u := (rdv (tl s 0) : Int)) (by omega) hb.1
    rw [tl_zero] at h hb hub ⊢
    obtain ⟨t, h1, h2⟩ := fwd h
    refine ⟨?_, hub⟩
    dsimp only
    rw [M.zz_uz _ (by omega), Int.toNat_natCast]
    exact canon_of h1 (by simpa using h2)
  · rw [vq_bad h]
    exact ⟨canon_no _ _ _ h, by dsimp only; omega⟩
theorem canon_text {s d : ByteArray} {l r : List Nat} {v : Nat} (h : bl s = l ++ r) (hd : d = s.extract l.length (l.length + v)) (hv : l.length + v ≤ s.size) : Canon s (l ++ bl d) (l.length + v) 0 ∧ d.size = v := by
  have e1 : bl d = r.take v := by
    rw [hd, bl_ext, h, List.drop_left]
    congr 1
    omega
  have e2 : d.size = v := by rw [hd, ByteArray.size_extract]; omega
  have e3 : bl s = (l ++ bl d) ++ r.drop v := by rw [e1, List.append_assoc, List.take_append_drop, h]
  exact ⟨canon_of e3 (by rw [List.length_append, bl_len, e2]), e2⟩
theorem canon_t (s : ByteArray) (most : Int) : Canon s (M.form (tq most s 0 0).1.size ++ bl (tq most s 0 0).1) (tq most s 0 0).2.1 (tq most s 0 0).2.2 ∧ (M.form (tq most s 0 0).1.size).length + (tq most s 0 0).1.size ≤ max 10 s.size := by
  by_cases h : rde (tl s 0) = 0
  · by_cases hx : ((rdv (tl s 0) : Int) ≤ most ∨ rdv (tl s 0) = 0) ∧ 0 + rdn (tl s 0) + rdv (tl s 0) ≤ s.size
    · rw [tq_ok h hx]
      rw [tl_zero] at h hx ⊢
      obtain ⟨t, h1, h2⟩ := fwd h
      dsimp only
      rw [Nat.zero_add, h2] at hx ⊢
      obtain ⟨c1, c2⟩ := canon_text h1 rfl hx.2
      rw [c2]
      exact ⟨c1, by omega⟩
    · rw [tq_long h hx]
      exact ⟨canon_no _ _ _ (by decide), by have := small10 s; exact this⟩
  · rw [tq_bad h]
    exact ⟨canon_no _ _ _ h, by have := small10 s; exact this⟩
/-- What Opt writes. -/
def ol (h : Bool) (d : ByteArray) : List Nat := if h then M.form (2 * d.size) ++ bl d else [1]
theorem canon_o (s : ByteArray) (most : Int) : Canon s (ol (oq most s 0 0).1 (oq most s 0 0).2.1) (oq most s 0 0).2.2.1 (oq most s 0 0).2.2.2 ∧ (M.form (2 * (oq most s 0 0).2.1.size)).length + (oq most s 0 0).2.1.size ≤ max 10 s.size := by
  by_cases h : rde (tl s 0) = 0
  · by_cases hz : M.uz (rdv (tl s 0)) = -1
    · rw [oq_null h hz]
      rw [tl_zero] at h hz ⊢
      obtain ⟨t, h1, h2⟩ := fwd h
      have e : rdv s = 1 := by have := M.zz_uz (rdv s : Int) (by omega); rw [hz] at this; simp [M.zz] at this; omega
      rw [e] at h1 h2
      refine ⟨canon_of (l := [1]) h1 (by dsimp only; rw [Nat.zero_add, h2]; rfl), ?_⟩
      exact small10 s
    · by_cases hx : 0 ≤ M.uz (rdv (tl s 0)) ∧ (M.uz (rdv (tl s 0)) ≤ most ∨ M.uz (rdv (tl s 0)) = 0) ∧ 0 + rdn (tl s 0) + (M.uz (rdv (tl s 0))).toNat ≤ s.size
      · obtain ⟨N, hN⟩ : ∃ N : Nat, M.uz (rdv (tl s 0)) = (N : Int) := ⟨(M.uz (rdv (tl s 0))).toNat, by omega⟩
        rw [hN] at hx
        rw [oq_ok h hN (by omega) (by omega)]
        rw [tl_zero] at h hN hx ⊢
        obtain ⟨t, h1, h2⟩ := fwd h
        have e : rdv s = 2 * N := by have := M.zz_uz (rdv s : Int) (by omega); rw [hN] at this; have := zz_nat N; omega
        rw [e] at h1 h2
        dsimp only
        rw [Nat.zero_add, h2] at hx ⊢
        obtain ⟨c1, c2⟩ := canon_text (v := N) h1 rfl (by omega)
        unfold ol
        rw [c2, if_pos rfl]
        exact ⟨c1, by omega⟩
      · rw [oq_long h hz hx]
        exact ⟨canon_no _ _ _ (by decide), by have := small10 s; exact this⟩
  · rw [oq_bad h]
    exact ⟨canon_no _ _ _ h, by have := small10 s; exact this⟩
theorem canon_i (s : ByteArray) : Canon s (nb 8 ((wrap64 (fx 8 s 0 0).1 : Int) % 18446744073709551616).toNat) (fx 8 s 0 0).2.1 (fx 8 s 0 0).2.2 := by
  by_cases h : 0 + 8 ≤ s.size
  · rw [fx_ok h]
    have hl : (bl (s.extract 0 (0 + 8))).length = 8 := by rw [bl_len, ByteArray.size_extract]; omega
    have hb := be_ext s 0 8 h
    have e : ((wrap64 (be (bl (s.extract 0 (0 + 8))) : Int)) % 18446744073709551616).toNat = be (bl (s.extract 0 (0 + 8))) := by
      unfold wrap64; omega
    dsimp only
    rw [e, nb_be 8 _ hl (bl_byte _)]
    refine canon_of (t := (bl s).drop 8) ?_ (by rw [hl])
    rw [bl_ext, List.drop_zero]
    exact (List.take_append_drop 8 (bl s)).symm
  · rw [fx_short h]
    exact canon_no _ _ _ (by decide)
end Go.Proofs.Ytpaipoaelfhhlaa
