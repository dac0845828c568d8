/- Plain facts on the form of a record: what stands where in some bytes, what a reader of numbers and texts finds there, and the whole form. -/
import Derived.Test.YtpfaioncaolmjaaGreatWm
import Derived.Test.YtpfaioncaolmjaaGreatSays
namespace Go.Proofs.YtpfaioncaolmjaaGreat
open Go.RowKit
theorem bl_ext (s : ByteArray) (a b : Nat) : bl (s.extract a b) = ((bl s).drop a).take (b - a) := by
  have e : (s.extract a b).data.toList = (s.data.toList.drop a).take (b - a) := by
    rw [ByteArray.data_extract, Array.toList_extract]
  unfold bl
  rw [e, List.map_take, List.map_drop]
theorem bl_tl (s : ByteArray) (k : Nat) : bl (tl s k) = (bl s).drop k := by
  unfold tl
  rw [bl_ext, List.take_of_length_le]
  rw [List.length_drop, bl_len]
  omega
theorem bl_inj {s t : ByteArray} (h : bl s = bl t) : s = t := by rw [← bs_bl s, ← bs_bl t, h]
theorem bl_nil : bl (⟨#[]⟩ : ByteArray) = [] := rfl
/-- From k on l stands in s. -/
def Stands (s : ByteArray) (k : Nat) (l : List Nat) : Prop := k + l.length ≤ s.size ∧ ((bl s).drop k).take l.length = l
theorem Stands.le {s : ByteArray} {k : Nat} {l : List Nat} (h : Stands s k l) : k + l.length ≤ s.size := h.1
theorem stands_nil {s : ByteArray} {k : Nat} (h : k ≤ s.size) : Stands s k [] := ⟨by simpa using h, by simp⟩
theorem stands_app {s : ByteArray} {k : Nat} {l m : List Nat} : Stands s k (l ++ m) ↔ Stands s k l ∧ Stands s (k + l.length) m := by
  unfold Stands
  rw [List.length_append]
  constructor
  · rintro ⟨h1, h2⟩
    have e1 : ((bl s).drop k).take l.length = l := by
      have := congrArg (List.take l.length) h2
      rw [List.take_take, List.take_left, Nat.min_eq_left (by omega)] at this
      exact this
    have e2 : ((bl s).drop (k + l.length)).take m.length = m := by
      have := congrArg (List.drop l.length) h2
      rw [List.drop_take, List.drop_left, List.drop_drop, Nat.add_sub_cancel_left] at this
      exact this
    exact ⟨⟨by omega, e1⟩, ⟨by omega, e2⟩⟩
  · rintro ⟨⟨h1, h2⟩, h3, h4⟩
    refine ⟨by omega, ?_⟩
    rw [List.take_add, h2, List.drop_drop, h4]
theorem stands_of {s : ByteArray} {k : Nat} {l r : List Nat} (hk : k ≤ s.size) (h : (bl s).drop k = l ++ r) : Stands s k l := by
  have hz := congrArg List.length h
  rw [List.length_drop, bl_len, List.length_append] at hz
  exact ⟨by omega, by rw [h, List.take_left]⟩
theorem stands_drop {s : ByteArray} {k : Nat} {l : List Nat} (h : Stands s k l) : (bl s).drop k = l ++ (bl s).drop (k + l.length) := by
  conv => lhs; rw [← List.take_append_drop l.length ((bl s).drop k), h.2, List.drop_drop]
theorem stands_whole {s : ByteArray} {l : List Nat} : (Stands s 0 l ∧ ¬ l.length < s.size) ↔ bl s = l := by
  constructor
  · rintro ⟨⟨h1, h2⟩, h3⟩
    rw [List.drop_zero, List.take_of_length_le (by rw [bl_len]; omega)] at h2
    exact h2
  · intro h
    have : l.length = s.size := by rw [← h, bl_len]
    refine ⟨⟨by omega, ?_⟩, by omega⟩
    rw [List.drop_zero, List.take_of_length_le (by rw [bl_len]; omega), h]
theorem stands_ext (s : ByteArray) (k n : Nat) (h : k + n ≤ s.size) : Stands s k (bl (s.extract k (k + n))) := by
  have e : (bl (s.extract k (k + n))).length = n := by rw [bl_len, ByteArray.size_extract]; omega
  refine ⟨by omega, ?_⟩
  rw [e, bl_ext, Nat.add_sub_cancel_left]
theorem ext_stands {s : ByteArray} {k : Nat} {d : ByteArray} (h : Stands s k (bl d)) : s.extract k (k + d.size) = d := by
  apply bl_inj
  rw [bl_ext, Nat.add_sub_cancel_left]
  have := h.2
  rw [bl_len] at this
  exact this
theorem fwd {s : ByteArray} (h : rde s = 0) : ∃ t, bl s = M.form (rdv s) ++ t ∧ rdn s = (M.form (rdv s)).length := by
  obtain ⟨t, h1, _, h3⟩ := M.rd_fwd (bl_byte s) h
  exact ⟨t, h1, h3⟩
theorem rd_stands {s : ByteArray} {k v : Nat} (hk : k ≤ s.size) : (rde (tl s k) = 0 ∧ rdv (tl s k) = v ∧ rdn (tl s k) = (M.form v).length) ↔ (v < 18446744073709551616 ∧ Stands s k (M.form v)) := by
  constructor
  · rintro ⟨h, rfl, h3⟩
    obtain ⟨t, h1, _⟩ := fwd h
    rw [bl_tl] at h1
    exact ⟨by have := (rd_bds (tl s k)).1; omega, stands_of hk h1⟩
  · rintro ⟨h1, h2⟩
    have e := M.rd_back h1 ((bl s).drop (k + (M.form v).length))
    rw [← stands_drop h2, ← bl_tl] at e
    unfold rde rdv rdn
    rw [e]
    exact ⟨rfl, rfl, rfl⟩
theorem rdn_of {s : ByteArray} {k : Nat} (h : rde (tl s k) = 0) : rdn (tl s k) = (M.form (rdv (tl s k))).length := by
  obtain ⟨t, h1, h2⟩ := fwd h
  exact h2
theorem uq_iff {s : ByteArray} {k v k' : Nat} (hk : k ≤ s.size) : uq s k 0 = (v, k', 0) ↔ v < 18446744073709551616 ∧ Stands s k (M.form v) ∧ k' = k + (M.form v).length := by
  by_cases h : rde (tl s k) = 0
  · rw [uq_ok h, Prod.mk.injEq, Prod.mk.injEq]
    have hn := rdn_of h
    constructor
    · rintro ⟨rfl, rfl, _⟩
      have := (rd_stands hk).1 ⟨h, rfl, hn⟩
      exact ⟨this.1, this.2, by rw [hn]⟩
    · rintro ⟨h1, h2, rfl⟩
      obtain ⟨_, h4, h5⟩ := (rd_stands hk).2 ⟨h1, h2⟩
      exact ⟨h4, by rw [h5], rfl⟩
  · rw [uq_bad h, Prod.mk.injEq, Prod.mk.injEq]
    constructor
    · rintro ⟨_, _, h1⟩; exact absurd h1 h
    · rintro ⟨h1, h2, _⟩; exact absurd ((rd_stands hk).2 ⟨h1, h2⟩).1 h
theorem zz_back {u : Nat} : (M.zz (M.uz (u : Int))).toNat = u := by rw [M.zz_uz _ (by omega), Int.toNat_natCast]
theorem vq_iff {s : ByteArray} {k k' : Nat} {d : Int} (hk : k ≤ s.size) : vq s k 0 = (d, k', 0) ↔ (-9223372036854775808 ≤ d ∧ d ≤ 9223372036854775807) ∧ Stands s k (M.form (M.zz d).toNat) ∧ k' = k + (M.form (M.zz d).toNat).length := by
  by_cases h : rde (tl s k) = 0
  · rw [vq_ok h, Prod.mk.injEq, Prod.mk.injEq]
    have hn := rdn_of h
    constructor
    · rintro ⟨rfl, rfl, _⟩
      have := (rd_stands hk).1 ⟨h, rfl, hn⟩
      rw [zz_back]
      exact ⟨M.uz_bd (by omega) (by omega), this.2, by rw [hn]⟩
    · rintro ⟨h1, h2, rfl⟩
      have hb := M.zz_bd h1.1 h1.2
      obtain ⟨_, h4, h5⟩ := (rd_stands hk).2 ⟨by omega, h2⟩
      refine ⟨?_, by rw [h5], rfl⟩
      rw [h4, Int.toNat_of_nonneg hb.1, M.uz_zz]
  · rw [vq_bad h, Prod.mk.injEq, Prod.mk.injEq]
    constructor
    · rintro ⟨_, _, h1⟩; exact absurd h1 h
    · rintro ⟨h1, h2, _⟩
      have hb := M.zz_bd h1.1 h1.2
      exact absurd ((rd_stands hk).2 ⟨by omega, h2⟩).1 h
theorem fx1_iff {s : ByteArray} {k k' a : Nat} : fx 1 s k 0 = (a, k', 0) ↔ Stands s k [a] ∧ k' = k + 1 := by
  by_cases h : k + 1 ≤ s.size
  · rw [fx_ok h, Prod.mk.injEq, Prod.mk.injEq]
    have hs := stands_ext s k 1 h
    have hl : (bl (s.extract k (k + 1))).length = 1 := by rw [bl_len, ByteArray.size_extract]; omega
    obtain ⟨c, hc⟩ : ∃ c, bl (s.extract k (k + 1)) = [c] := by
      match hh : bl (s.extract k (k + 1)), hl with
      | [c], _ => exact ⟨c, rfl⟩
    rw [hc] at hs ⊢
    have e : be [c] = c := by simp [be]
    rw [e]
    constructor
    · rintro ⟨rfl, rfl, _⟩; exact ⟨hs, rfl⟩
    · rintro ⟨h1, rfl⟩
      have e1 := h1.2
      have e2 := hs.2
      simp only [List.length_cons, List.length_nil] at e1 e2
      rw [e2] at e1
      exact ⟨by simpa using e1, rfl, rfl⟩
  · rw [fx_short h, Prod.mk.injEq, Prod.mk.injEq]
    constructor
    · rintro ⟨_, _, h1⟩; exact absurd h1 (by decide)
    · rintro ⟨h1, _⟩; have := h1.1; simp at this; omega
/-- What a text is written as. -/
def tx (d : ByteArray) : List Nat := M.form d.size ++ bl d
/-- What a text or null is written as. -/
def ol (h : Bool) (d : ByteArray) : List Nat := if h then M.form (2 * d.size) ++ bl d else [1]
abbrev MX : Int := 9223372036854775807
theorem tq_iff {s d : ByteArray} {k k' : Nat} {most : Int} (hk : k ≤ s.size) (hm : (s.size : Int) - k ≤ most) (hs : s.size ≤ 9223372036854775807) : tq most s k 0 = (d, k', 0) ↔ Stands s k (tx d) ∧ k' = k + (tx d).length := by
  unfold tx
  by_cases h : rde (tl s k) = 0
  · have hn := rdn_of h
    have hst := (rd_stands hk).1 ⟨h, rfl, hn⟩
    by_cases hx : ((rdv (tl s k) : Int) ≤ most ∨ rdv (tl s k) = 0) ∧ k + rdn (tl s k) + rdv (tl s k) ≤ s.size
    · rw [tq_ok h hx, Prod.mk.injEq, Prod.mk.injEq]
      generalize rdv (tl s k) = v at *
      rw [hn] at hx ⊢
      have hsz : (s.extract (k + (M.form v).length) (k + (M.form v).length + v)).size = v := by rw [ByteArray.size_extract]; omega
      constructor
      · rintro ⟨rfl, rfl, _⟩
        rw [hsz]
        refine ⟨stands_app.2 ⟨hst.2, stands_ext _ _ _ hx.2⟩, ?_⟩
        rw [List.length_append, bl_len, hsz]; omega
      · rintro ⟨h1, rfl⟩
        obtain ⟨h2, h3⟩ := stands_app.1 h1
        obtain ⟨_, e2, e3⟩ := (rd_stands hk).2 ⟨by have := h3.1; rw [bl_len] at this; omega, h2⟩
        rw [e3] at hn
        have ev : v = d.size := by
          have := (rd_stands hk).2 hst
          rw [← this.2.1, e2]
        subst ev
        refine ⟨ext_stands h3, ?_, rfl⟩
        rw [List.length_append, bl_len]; omega
    · rw [tq_long h hx, Prod.mk.injEq, Prod.mk.injEq]
      constructor
      · rintro ⟨_, _, h1⟩; exact absurd h1 (by decide)
      · rintro ⟨h1, _⟩
        obtain ⟨h2, h3⟩ := stands_app.1 h1
        have h4 := h3.1
        rw [bl_len] at h4
        obtain ⟨_, e2, e3⟩ := (rd_stands hk).2 ⟨by omega, h2⟩
        rw [e2, e3] at hx
        exact absurd ⟨Or.inl (by have := M.form_pos d.size; omega), h4⟩ hx
  · rw [tq_bad h, Prod.mk.injEq, Prod.mk.injEq]
    constructor
    · rintro ⟨_, _, h1⟩; exact absurd h1 h
    · rintro ⟨h1, _⟩
      obtain ⟨h2, h3⟩ := stands_app.1 h1
      have h4 := h3.1
      rw [bl_len] at h4
      exact absurd ((rd_stands hk).2 ⟨by omega, h2⟩).1 h
theorem uz_even2 (n : Nat) : M.uz ((2 * n : Nat) : Int) = n := by unfold M.uz; rw [if_pos (by omega)]; omega
theorem oq_iff {s d : ByteArray} {k k' : Nat} {b : Bool} {most : Int} (hk : k ≤ s.size) (hm : (s.size : Int) - k ≤ most) (hs : s.size ≤ 9223372036854775807) : oq most s k 0 = (b, d, k', 0) ↔ Stands s k (ol b d) ∧ k' = k + (ol b d).length ∧ (b = false → d = ⟨#[]⟩) := by
  by_cases h : rde (tl s k) = 0
  · have hn := rdn_of h
    have hst := (rd_stands hk).1 ⟨h, rfl, hn⟩
    by_cases hz : M.uz (rdv (tl s k)) = -1
    · rw [oq_null h hz, Prod.mk.injEq, Prod.mk.injEq, Prod.mk.injEq]
      have e : rdv (tl s k) = 1 := by have := M.zz_uz (rdv (tl s k) : Int) (by omega); rw [hz] at this; simp [M.zz] at this; omega
      rw [e] at hn hst
      rw [hn]
      have e1 : M.form 1 = [1] := rfl
      rw [e1] at hst ⊢
      constructor
      · rintro ⟨rfl, rfl, rfl, _⟩
        exact ⟨hst.2, rfl, fun _ => rfl⟩
      · rintro ⟨h1, rfl, h3⟩
        cases b with
        | false => exact ⟨rfl, (h3 rfl).symm, rfl, rfl⟩
        | true =>
          obtain ⟨h4, h5⟩ := stands_app.1 h1
          have h6 := h5.1
          rw [bl_len] at h6
          have := ((rd_stands hk).2 ⟨by omega, h4⟩).2.1
          omega
    · by_cases hx : 0 ≤ M.uz (rdv (tl s k)) ∧ (M.uz (rdv (tl s k)) ≤ most ∨ M.uz (rdv (tl s k)) = 0) ∧ k + rdn (tl s k) + (M.uz (rdv (tl s k))).toNat ≤ s.size
      · obtain ⟨N, hN⟩ : ∃ N : Nat, M.uz (rdv (tl s k)) = (N : Int) := ⟨(M.uz (rdv (tl s k))).toNat, by omega⟩
        rw [hN] at hx
        rw [oq_ok h hN (by omega) (by omega), Prod.mk.injEq, Prod.mk.injEq, Prod.mk.injEq]
        have e : rdv (tl s k) = 2 * N := by have := M.zz_uz (rdv (tl s k) : Int) (by omega); rw [hN] at this; have := zz_nat N; omega
        rw [e] at hn hst
        rw [hn, Int.toNat_natCast] at hx
        rw [hn]
        have hsz : (s.extract (k + (M.form (2 * N)).length) (k + (M.form (2 * N)).length + N)).size = N := by rw [ByteArray.size_extract]; omega
        constructor
        · rintro ⟨rfl, rfl, rfl, _⟩
          unfold ol
          rw [if_pos rfl, hsz]
          refine ⟨stands_app.2 ⟨hst.2, stands_ext _ _ _ hx.2.2⟩, ?_, by simp⟩
          rw [List.length_append, bl_len, hsz]; omega
        · rintro ⟨h1, rfl, h3⟩
          cases b with
          | false =>
            have h4 : Stands s k (M.form 1) := h1
            have := ((rd_stands hk).2 ⟨by omega, h4⟩).2.1
            omega
          | true =>
            unfold ol at h1 ⊢
            rw [if_pos rfl] at h1 ⊢
            obtain ⟨h4, h5⟩ := stands_app.1 h1
            have h6 := h5.1
            rw [bl_len] at h6
            have e2 := ((rd_stands hk).2 ⟨by omega, h4⟩).2.1
            have ev : N = d.size := by omega
            subst ev
            refine ⟨rfl, ext_stands h5, ?_, rfl⟩
            rw [List.length_append, bl_len]; omega
      · rw [oq_long h hz hx, Prod.mk.injEq, Prod.mk.injEq, Prod.mk.injEq]
        constructor
        · rintro ⟨_, _, _, h1⟩; exact absurd h1 (by decide)
        · rintro ⟨h1, _, _⟩
          cases b with
          | false =>
            have h4 : Stands s k (M.form 1) := h1
            have := ((rd_stands hk).2 ⟨by omega, h4⟩).2.1
            rw [this] at hz
            exact absurd rfl hz
          | true =>
            unfold ol at h1
            rw [if_pos rfl] at h1
            obtain ⟨h4, h5⟩ := stands_app.1 h1
            have h6 := h5.1
            rw [bl_len] at h6
            obtain ⟨_, e2, e3⟩ := (rd_stands hk).2 ⟨by omega, h4⟩
            rw [e2, e3, uz_even2] at hx
            have := M.form_pos (2 * d.size)
            exact absurd ⟨by omega, Or.inl (by omega), by rw [Int.toNat_natCast]; omega⟩ hx
  · rw [oq_bad h, Prod.mk.injEq, Prod.mk.injEq, Prod.mk.injEq]
    constructor
    · rintro ⟨_, _, _, h1⟩; exact absurd h1 h
    · rintro ⟨h1, _, _⟩
      cases b with
      | false =>
        have h4 : Stands s k (M.form 1) := h1
        exact absurd ((rd_stands hk).2 ⟨by omega, h4⟩).1 h
      | true =>
        unfold ol at h1
        rw [if_pos rfl] at h1
        obtain ⟨h4, h5⟩ := stands_app.1 h1
        have h6 := h5.1
        rw [bl_len] at h6
        exact absurd ((rd_stands hk).2 ⟨by omega, h4⟩).1 h
end Go.Proofs.YtpfaioncaolmjaaGreat
