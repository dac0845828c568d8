/- Texts of the proof, put together: Bly. -/
import Derived.Test.YtajmcnlbkdfloabGreatZBL
namespace Go.Proofs.YtajmcnlbkdfloabGreat
open Go.RowKit
/-- The error's number. -/
def errn (R : Except Nat (Fs × ByteArray)) : Nat := match R with
  | .error x => x
  | .ok _ => 0
theorem chk_e (s : ByteArray) (fr pl : Int) (w : World) (hs : s.size ≤ 9223372036854775807) :
    Calls Tryz.prog 9 #[.string s, .int .i64 fr, .int .i64 pl] w fun e w' => ∃ x0 x1 x2 x3 x4 x5 x6 x7, e = .returned (.tuple #[.agg #[.int .i64 x0, .int .i64 x1, .bool x2, .int .i64 x3, .int .i64 x4, .int .i64 x5, .int .i64 x6, .int .i32 x7], .int .i64 (errn (opn s fr pl))]) ∧ Below w.heap.size w w' := by
  refine (check6_any s fr pl w hs).mono ?_
  rintro e w' ⟨rfl, hb⟩
  cases h : opn s fr pl with
  | error x => exact ⟨_, _, _, _, _, _, _, _, rfl, hb⟩
  | ok y =>
    obtain ⟨f, b⟩ := y
    exact ⟨_, _, _, _, _, _, _, _, rfl, hb⟩
theorem opn_small {b : Bt} {T : ByteArray} (hb : BtOk b) (h : StoP b 0 T) (frame plain : Int) (hm : wth frame 58 16777216 < ((51 + T.size : Nat) : Int)) : opn (frm (fsB b T.size) T) frame plain = .error 66 := by
  have e1 := frm_pke hb h ⟨#[]⟩
  have e2 := frm_fs hb h ⟨#[]⟩
  rw [app_emp] at e1 e2
  have e : 12 + (hdB b T).len = 51 + T.size := by show 12 + (39 + T.size) = _; omega
  have hw : whe (frm (fsB b T.size) T) (hdB b T) (wth frame 58 16777216) = 66 := by
    unfold whe
    rw [e, if_pos hm]
  unfold opn
  rw [e1, if_neg (by intro h; exact h rfl), e2, hw, if_pos (by decide)]
theorem opn_plain {b : Bt} {T : ByteArray} (hb : BtOk b) (h : StoP b 0 T) (frame plain : Int) (hm : ((51 + T.size : Nat) : Int) ≤ wth frame 58 16777216) (hp : bod T (if b.pk = true then 1 else 0) (wth plain 7 16777216) = .error 66) : opn (frm (fsB b T.size) T) frame plain = .error 66 := by
  have e1 := frm_pke hb h ⟨#[]⟩
  have e2 := frm_fs hb h ⟨#[]⟩
  have e3 := frm_whe (b := b) (T := T) ⟨#[]⟩ _ hm
  have e4 := frm_body (fsB b T.size) T ⟨#[]⟩
  rw [app_emp] at e1 e2 e3 e4
  have e : 12 + (hdB b T).len = 51 + T.size := by show 12 + (39 + T.size) = _; omega
  have hb2 : bod T (hdB b T).st (wth plain 7 16777216) = .error 66 := hp
  unfold opn
  rw [e1, if_neg (by intro h; exact h rfl), e2, e3, if_neg (by intro h; exact h rfl), e, e4, hb2]
theorem bod_small {b : Bt} {S : ByteArray} {most : Int} (h1 : S.size ≤ 16777216) (h2 : most < (S.size : Int)) : bod (sto b S) (if b.pk = true then 1 else 0) most = .error 66 := by
  unfold bod sto
  by_cases hp : b.pk = true
  · rw [if_pos hp, if_pos hp, if_pos rfl]
    have hsz : (pck S).size = 4 + (Lz.ba (Lz.M.pack S.data.toList)).size := by unfold pck; rw [ByteArray.size_append, bs_size, nb_len]
    rw [if_neg (by omega)]
    have hb : bl (pck S) = nb 4 S.size ++ bl (Lz.ba (Lz.M.pack S.data.toList)) := by unfold pck; rw [bl_app, bl_bs _ (nb_byte6 _ _)]
    have hn : num (pck S) 0 4 = S.size := num_at (A := []) (by rw [List.nil_append]; exact hb) (by omega)
    rw [hn, if_pos h2]
  · rw [if_neg hp, if_neg hp, if_neg (by decide), if_pos h2]
def pkd (b : Bt) (pk : Bool) : Bt := ⟨b.base, pk, b.prod, b.seq, b.l, b.a, b.cap⟩
/-- What Encode answers, as one value. -/
theorem enc_one (b : Bt) (hb : BtOk b) : ∃ (E : Nat) (S : ByteArray), (E ≠ 0 → S = ⟨#[]⟩) ∧ (E = 0 → ∃ T, StoP b 0 T ∧ S = frm (fsB b T.size) T) ∧ ∀ w, Rcs w b.a b.l → Calls Tryz.prog 8 #[btV b] w fun e w' => e = .returned (.tuple #[.string S, .int .i64 E]) ∧ Below w.heap.size w w' := by
  have ce := fun w V => encode_any b w V hb.t hb.m hb.l
  by_cases hz : ∃ T, StoP b 0 T
  · obtain ⟨T, hT⟩ := hz
    refine ⟨0, frm (fsB b T.size) T, fun h => absurd rfl h, fun _ => ⟨T, hT, rfl⟩, fun w V => ?_⟩
    refine (ce w V).mono ?_
    rintro e w' ⟨⟨E', S', rfl, hE⟩, hbl⟩
    rcases hE with ⟨h1, h2, _⟩ | ⟨rfl, T', h2, h3⟩
    · exact absurd (sto_same h2 hT) h1
    · have := (sto_det hT h2 (fun _ _ _ _ h h' => body_det h h') rfl).2
      subst this
      rw [h3]
      exact ⟨rfl, hbl⟩
  · obtain ⟨E, hE1, hE2⟩ : ∃ E, E ≠ 0 ∧ StoP b E ⟨#[]⟩ := sto_some (fun T h => hz ⟨T, h⟩)
    refine ⟨E, ⟨#[]⟩, fun _ => rfl, fun h => absurd h hE1, fun w V => ?_⟩
    refine (ce w V).mono ?_
    rintro e w' ⟨⟨E', S', rfl, hE⟩, hbl⟩
    rcases hE with ⟨_, h2, rfl⟩ | ⟨_, T, h2, _⟩
    · have := sto_same h2 hE2
      subst this
      exact ⟨rfl, hbl⟩
    · exact absurd ⟨T, h2⟩ hz
theorem limits_walk (b : Bt) (w : World) (hb : BtOk b) (V : Rcs w b.a b.l) :
    Calls Tryz.prog 4 #[.agg #[.int .i64 b.base, .bool b.pk, .int .i64 b.prod, .int .i32 b.seq, .slice b.a b.l.length b.cap]] w fun e w' => e = .returned (.bool true) ∧ Below w.heap.size w w' := by
  have hb0 : BtOk (pkd b false) := ⟨hb.t, hb.m, hb.l, hb.p1, hb.p2, hb.q1, hb.q2⟩
  have hb1 : BtOk (pkd b true) := ⟨hb.t, hb.m, hb.l, hb.p1, hb.p2, hb.q1, hb.q2⟩
  obtain ⟨E, S, hE1, hE2, hE3⟩ := enc_one (pkd b false) hb0
  obtain ⟨E6, P, hP1, hP2, hP3⟩ := enc_one (pkd b true) hb1
  by_cases hE : E = 0
  · subst hE
    obtain ⟨T, hT, hS⟩ := hE2 rfl
    obtain ⟨r0, S0, q1, q2, q3⟩ := sto_ok hT
    have eT : T = S0 := q2
    subst eT
    have h7 := body_ge hb.t hb.m q1
    have hz := frm_size (fsB (pkd b false) T.size) T
    have hPs : P.size ≤ 16777216 := by
      by_cases h : E6 = 0
      · obtain ⟨T1, k1, k2⟩ := hP2 h
        have := (sto_zero k1).2 rfl
        rw [k2, frm_size]; omega
      · rw [hP1 h]; decide
    have hPT : E6 = 0 → P = frm (fsB (pkd b true) (sto (pkd b true) T).size) (sto (pkd b true) T) ∧ StoP (pkd b true) 0 (sto (pkd b true) T) := fun h => by
      obtain ⟨T1, k1, k2⟩ := hP2 h
      obtain ⟨_, S1, m1, m2, m3⟩ := sto_ok k1
      have e : S1 = T := by rw [m1.2.2 rfl, q1.2.2 rfl]; rfl
      subst e
      rw [← m2]
      exact ⟨k2, k1⟩
    refine limits_in b.base b.pk b.prod b.seq b.l b.l.length b.a b.cap w V S P T.size (errn (opn S ((50 + T.size : Nat) : Int) 16777216)) (errn (opn S 16777216 ((T.size - 1 : Nat) : Int))) (if E6 = 0 then errn (opn P P.size ((T.size - 1 : Nat) : Int)) else 66) E6 (by rw [hS, hz]) h7 (by omega) ?_ ?_ hPs hP1 ?_ (hid hE3) (hid fun w => ?_) (hid fun w => chk_e S _ _ w (by rw [hS, hz]; omega)) (hid fun w => chk_e S _ _ w (by rw [hS, hz]; omega)) (hid hP3) (hid fun h w => ?_) (hid fun h w => by rw [if_pos h]; exact chk_e P _ _ w (by omega))
    · intro hlt
      rw [hS, opn_small hb0 hT _ _ (by unfold wth; omega)]
      rfl
    · intro hlt
      rw [hS, opn_plain hb0 hT _ _ (by unfold wth; omega) (bod_small (b := pkd b false) (S := T) (by omega) (by unfold wth; omega))]
      rfl
    · intro hlt
      by_cases h : E6 = 0
      · obtain ⟨k1, k2⟩ := hPT h
        have k3 := (sto_zero k2).2 rfl
        have hs7 := sto_ge (b := pkd b true) h7
        rw [if_pos h, k1, frm_size, opn_plain hb1 k2 _ _ (by unfold wth; omega) (bod_small (b := pkd b true) (S := T) (by omega) (by unfold wth; omega))]
        rfl
      · rw [if_neg h]
    · have c := chk_e S ((51 + T.size : Nat) : Int) T.size w (by rw [hS, hz]; omega)
      have ho := opn_frame (b := pkd b false) hb0 r0 q1 q3 ⟨#[]⟩ ((51 + T.size : Nat) : Int) T.size (by show ((51 + T.size : Nat) : Int) ≤ wth _ _ _; unfold wth; omega) (by unfold wth; omega)
      rw [app_emp] at ho
      have ho2 : opn S ((51 + T.size : Nat) : Int) T.size = .ok (hdB (pkd b false) T, T) := by rw [hS]; exact ho
      rw [ho2] at c
      exact c
    · obtain ⟨k1, k2⟩ := hPT h
      obtain ⟨k3, k4⟩ := (sto_zero k2).2 rfl
      have hs7 := sto_ge (b := pkd b true) h7
      have c := chk_e P P.size T.size w (by omega)
      have ho := opn_frame (b := pkd b true) hb1 k3 q1 k4 ⟨#[]⟩ P.size T.size (by rw [k1, frm_size]; unfold wth; omega) (by unfold wth; omega)
      rw [app_emp, ← k1] at ho
      rw [ho] at c
      exact c
  · have hS := hE1 hE
    subst hS
    exact limits_err b.base b.pk b.prod b.seq b.l b.l.length b.a b.cap w V E hE (hid hE3)
end Go.Proofs.YtajmcnlbkdfloabGreat
