/- What is read, written again, is the bytes that it was read from. -/
import Derived.Test.YtgdaaohlongmlaaPsp
namespace Go.Proofs.Ytgdaaohlongmlaa
open Go.RowKit
theorem raQ_cases (s : ByteArray) : (∃ r, raQ s = (r, 0)) ∨ ∃ E, E ≠ 0 ∧ raQ s = (zq, E) := by
  have h : (∃ E, E ≠ 0 ∧ raQ s = (zq, E)) ∨ ∃ r E, raQ s = finQ r E := by
    unfold raQ
    repeat' (first | exact Or.inl ⟨_, by decide, rfl⟩ | exact Or.inr ⟨_, _, rfl⟩ | split)
  rcases h with h | ⟨r, E, h⟩
  · exact Or.inr h
  · by_cases hE : E = 0
    · left; exact ⟨r, by rw [h]; unfold finQ; rw [if_pos hE]⟩
    · right; exact ⟨E, hE, by rw [h]; unfold finQ; rw [if_neg hE]⟩
theorem ite_P {α : Type} {P : α → Prop} {c : Prop} [Decidable c] {a b : α} (h1 : P a) (h2 : P b) : P (if c then a else b) := by split <;> assumption
def ShP (x : Rp × Nat) : Prop := (∃ E, E ≠ 0 ∧ x = (zp, E)) ∨ ∃ r E, x = finP r E
theorem rrQ_cases (s : ByteArray) : (∃ r, rrQ s = (r, 0)) ∨ ∃ E, E ≠ 0 ∧ rrQ s = (zp, E) := by
  have h : ShP (rrQ s) := by
    unfold rrQ
    repeat' (first | with_reducible refine ite_P (P := ShP) ?_ ?_ | exact Or.inl ⟨_, by decide, rfl⟩ | exact Or.inr ⟨_, _, rfl⟩)
  rcases h with h | ⟨r, E, h⟩
  · exact Or.inr h
  · by_cases hE : E = 0
    · left; exact ⟨r, by rw [h]; unfold finP; rw [if_pos hE]⟩
    · right; exact ⟨E, hE, by rw [h]; unfold finP; rw [if_neg hE]⟩
/-- What is read is written as it was. -/
theorem asV_of {s : ByteArray} {r : Rq} (h : raQ s = (r, 0)) : asV r = .tuple #[.string s, .int .i64 0] := by
  obtain ⟨⟨h1, _⟩, h2⟩ := raQ_0 h
  rw [asV_ok h1, ← h2, bs_bl]
theorem rsV_of {s : ByteArray} {r : Rp} (h : rrQ s = (r, 0)) : rsV r = .tuple #[.string s, .int .i64 0] := by
  obtain ⟨⟨h1, _⟩, h2⟩ := rrQ_0 h
  rw [rsV_ok h1, ← h2, bs_bl]
set_option maxHeartbeats 1000000 in
set_option maxRecDepth 20000 in
theorem canon_walk (s : ByteArray) (w : World) (hs : s.size ≤ 9223372036854775807) :
    Calls Try.prog 4 #[.string s] w fun e w' => e = .returned (.bool true) ∧ Below w.heap.size w w' := by
  have CS := hid (speaks_any w)
  have CA := hid (fun w1 => readask_any s w1 hs)
  have CR := hid (fun w1 => readreply_any s w1 hs)
  have hQ := fun w => q_neq 0 ⟨#[]⟩ 0 0 0 w
  have hP := fun w => p_eql 0 0 false 0 0 ⟨#[]⟩ w
  go_enter Try.func4, Try.ntmps4
  go_wp2_with fail
  refine CS.out.mono ?_
  rintro e w1 ⟨rfl, b1⟩
  have B1 := hid b1
  clear b1
  go_wp2_with fail
  refine (CA.out w1).mono ?_
  rintro e w2 ⟨rfl, b2⟩
  have B2 := hid (B1.out.trans (b2.mono B1.out.size))
  clear b2 B1
  rcases raQ_cases s with ⟨q, hq⟩ | ⟨E, hE, hq⟩
  · obtain ⟨k, d, o, t, m⟩ := q
    rw [hq, show rqV (⟨k, d, o, t, m⟩, 0) = .tuple #[.agg #[.int .i64 k, .string d, .int .i64 o, .int .i64 t, .int .i64 m], .int .i64 0] from rfl]
    have CW := hid (fun w1 => ask_any ⟨k, d, o, t, m⟩ w1)
    rw [asV_of hq] at CW
    go_wp2_with fail
    refine (CW.out _).mono ?_
    rintro e w3 ⟨rfl, b3⟩
    have B3 := hid ((B2.out.alloc B2.out.size _).trans (b3.mono (Nat.le_trans B2.out.size (by simp))))
    clear b3 B2 CW
    go_wp2_with fail
    refine (CR.out w3).mono ?_
    rintro e w4 ⟨rfl, b4⟩
    have B4 := hid (B3.out.trans (b4.mono B3.out.size))
    clear b4 B3
    rcases rrQ_cases s with ⟨p, hp⟩ | ⟨E2, hE2, hp⟩
    · obtain ⟨pk, pr, pb, po, pn, pd⟩ := p
      rw [hp, show rpV (⟨pk, pr, pb, po, pn, pd⟩, 0) = .tuple #[.agg #[.int .i64 pk, .int .i64 pr, .bool pb, .int .i64 po, .int .i64 pn, .string pd], .int .i64 0] from rfl]
      have CW := hid (fun w1 => reply_any ⟨pk, pr, pb, po, pn, pd⟩ w1)
      rw [rsV_of hp] at CW
      go_wp2_with fail
      refine (CW.out _).mono ?_
      rintro e w5 ⟨rfl, b5⟩
      have B5 := hid ((B4.out.alloc B4.out.size _).trans (b5.mono (Nat.le_trans B4.out.size (by simp))))
      clear b5 B4
      go_wp2_with fail
      go_ret
      exact ⟨rfl, B5.out⟩
    · have hne2 : ((E2 : Int) != 0) = true := by rw [bne_iff_ne]; omega
      rw [hp, show rpV (zp, E2) = .tuple #[.agg #[.int .i64 0, .int .i64 0, .bool false, .int .i64 0, .int .i64 0, .string ⟨#[]⟩], .int .i64 E2] from rfl]
      go_wp2_with fail
      go_ret
      exact ⟨rfl, B4.out.alloc B4.out.size _⟩
  · have hne : ((E : Int) != 0) = true := by rw [bne_iff_ne]; omega
    rw [hq, show rqV (zq, E) = .tuple #[.agg #[.int .i64 0, .string ⟨#[]⟩, .int .i64 0, .int .i64 0, .int .i64 0], .int .i64 E] from rfl]
    go_wp2_with fail
    have B3 := hid (B2.out.alloc B2.out.size (.cells #[.int .i64 0, .string ⟨#[]⟩, .int .i64 0, .int .i64 0, .int .i64 0] 24))
    generalize w2.alloc (.cells #[.int .i64 0, .string ⟨#[]⟩, .int .i64 0, .int .i64 0, .int .i64 0] 24) = w3 at *
    refine (CR.out w3).mono ?_
    rintro e w4 ⟨rfl, b4⟩
    have B4 := hid (B3.out.trans (b4.mono B3.out.size))
    clear b4 B3
    rcases rrQ_cases s with ⟨p, hp⟩ | ⟨E2, hE2, hp⟩
    · obtain ⟨pk, pr, pb, po, pn, pd⟩ := p
      rw [hp, show rpV (⟨pk, pr, pb, po, pn, pd⟩, 0) = .tuple #[.agg #[.int .i64 pk, .int .i64 pr, .bool pb, .int .i64 po, .int .i64 pn, .string pd], .int .i64 0] from rfl]
      have CW := hid (fun w1 => reply_any ⟨pk, pr, pb, po, pn, pd⟩ w1)
      rw [rsV_of hp] at CW
      go_wp2_with fail
      refine (CW.out _).mono ?_
      rintro e w5 ⟨rfl, b5⟩
      have B5 := hid ((B4.out.alloc B4.out.size _).trans (b5.mono (Nat.le_trans B4.out.size (by simp))))
      clear b5 B4
      go_wp2_with fail
      go_ret
      exact ⟨rfl, B5.out⟩
    · have hne2 : ((E2 : Int) != 0) = true := by rw [bne_iff_ne]; omega
      rw [hp, show rpV (zp, E2) = .tuple #[.agg #[.int .i64 0, .int .i64 0, .bool false, .int .i64 0, .int .i64 0, .string ⟨#[]⟩], .int .i64 E2] from rfl]
      go_wp2_with fail
      go_ret
      exact ⟨rfl, B4.out.alloc B4.out.size _⟩
end Go.Proofs.Ytgdaaohlongmlaa
