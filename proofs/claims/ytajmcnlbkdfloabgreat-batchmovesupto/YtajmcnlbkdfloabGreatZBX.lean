/- Texts of the proof, put together: Bdt, Bmx. -/
import Derived.Test.YtajmcnlbkdfloabGreatMB5
import Derived.Test.YtajmcnlbkdfloabGreatZBM
namespace Go.Proofs.YtajmcnlbkdfloabGreat
open Go.RowKit
theorem sto_det {b : Bt} {E E' : Nat} {T T' : ByteArray} (h : StoP b E T) (h' : StoP b E' T') (hd : ∀ E E' S S', BodyP b.l E S → BodyP b.l E' S' → E = E') : E = 0 → E' = 0 ∧ T' = T := by
  intro hE
  subst hE
  obtain ⟨r0, S, q1, q2, q3⟩ := sto_ok h
  cases h' with
  | head h => exact absurd r0 h
  | body E h1 h2 h3 => exact absurd (hd _ _ _ _ h3 q1) h2
  | big S' h1 h2 h3 =>
    have e : S' = S := by rw [h2.2.2 rfl, q1.2.2 rfl]
    subst e
    rw [← q2] at h3
    omega
  | ok S' h1 h2 h3 =>
    have e : S' = S := by rw [h2.2.2 rfl, q1.2.2 rfl]
    subst e
    exact ⟨rfl, q2.symm⟩
theorem body_det {l : List RI} {E E' : Nat} {S S' : ByteArray} (h : BodyP l E S) (h' : BodyP l E' S') : E = E' := by
  rcases h.1 with ⟨a1, a2⟩ | ⟨a1, a2⟩
  · rcases h'.1 with ⟨b1, b2⟩ | ⟨b1, b2⟩
    · rw [a2, b2]
    · exact absurd b1 a1
  · rcases h'.1 with ⟨b1, b2⟩ | ⟨b1, b2⟩
    · exact absurd a1 b1
    · unfold FitE at a2 b2
      rcases a2 with ⟨j, c1, c2, c3, c4⟩ | ⟨c1, c2⟩
      · rcases b2 with ⟨k, d1, d2, d3, d4⟩ | ⟨d1, d2⟩
        · have : j = k := by
            rcases Nat.lt_trichotomy j k with h | h | h
            · exact absurd (d2 j h) c3
            · exact h
            · exact absurd (c2 k h) d3
          subst this
          rw [c4, d4]
        · exact absurd (d1 j c1) c3
      · rcases b2 with ⟨k, d1, d2, d3, d4⟩ | ⟨d1, d2⟩
        · exact absurd (c1 k d1) d3
        · rw [c2, d2]
theorem sto_same {b : Bt} {E E' : Nat} {T T' : ByteArray} (h : StoP b E T) (h' : StoP b E' T') : E = E' := by
  cases h with
  | head h1 =>
    cases h' with
    | head _ => rfl
    | body _ h2 _ _ => exact absurd h2 h1
    | big _ h2 _ _ => exact absurd h2 h1
    | ok _ h2 _ _ => exact absurd h2 h1
  | body E h1 h2 h3 =>
    cases h' with
    | head h => exact absurd h1 h
    | body E' _ _ h6 => exact body_det h3 h6
    | big S _ h6 _ => exact absurd (body_det h3 h6) h2
    | ok S _ h6 _ => exact absurd (body_det h3 h6) h2
  | big S h1 h2 h3 =>
    cases h' with
    | head h => exact absurd h1 h
    | body E' _ h5 h6 => exact absurd (body_det h6 h2) h5
    | big S' _ _ _ => rfl
    | ok S' _ h6 h7 =>
      have e : S' = S := by rw [h6.2.2 rfl, h2.2.2 rfl]
      subst e
      omega
  | ok S h1 h2 h3 =>
    cases h' with
    | head h => exact absurd h1 h
    | body E' _ h5 h6 => exact absurd (body_det h6 h2) h5
    | big S' _ h6 h7 =>
      have e : S' = S := by rw [h6.2.2 rfl, h2.2.2 rfl]
      subst e
      omega
    | ok S' _ _ _ => rfl
theorem body_some {l : List RI} : ∃ E S, BodyP l E S := by
  by_cases h : 1 ≤ l.length ∧ l.length ≤ 65536
  · by_cases hz : ∀ i, i < l.length → sze (l.getD i dri).r (l.getD 0 dri).r.t i = 0
    · by_cases hb : 16777216 < (bdy (l.getD 0 dri).r.t 0 (l.map RI.r)).length
      · exact ⟨66, ⟨#[]⟩, Or.inr ⟨h, Or.inr ⟨hz, by rw [if_pos hb]⟩⟩, fun _ => rfl, fun h => by cases h⟩
      · exact ⟨0, _, Or.inr ⟨h, Or.inr ⟨hz, by rw [if_neg hb]⟩⟩, fun h => absurd rfl h, fun _ => rfl⟩
    · have hex : ∃ j, j < l.length ∧ sze (l.getD j dri).r (l.getD 0 dri).r.t j ≠ 0 := Classical.byContradiction fun hn => hz fun i hi => Classical.byContradiction fun hh => hn ⟨i, hi, hh⟩
      have hmin : ∃ j, (j < l.length ∧ sze (l.getD j dri).r (l.getD 0 dri).r.t j ≠ 0) ∧ ∀ i, i < j → sze (l.getD i dri).r (l.getD 0 dri).r.t i = 0 := by
        obtain ⟨j, hj⟩ := hex
        induction j using Nat.strongRecOn with
        | ind j ih =>
          by_cases hall : ∀ i, i < j → sze (l.getD i dri).r (l.getD 0 dri).r.t i = 0
          · exact ⟨j, hj, hall⟩
          · have : ∃ i, i < j ∧ sze (l.getD i dri).r (l.getD 0 dri).r.t i ≠ 0 := Classical.byContradiction fun hn => hall fun i hi => Classical.byContradiction fun hh => hn ⟨i, hi, hh⟩
            obtain ⟨i, h1, h2⟩ := this
            exact ih i h1 ⟨by omega, h2⟩
      obtain ⟨j, ⟨h1, h2⟩, h3⟩ := hmin
      exact ⟨_, ⟨#[]⟩, Or.inr ⟨h, Or.inl ⟨j, h1, h3, h2, rfl⟩⟩, fun _ => rfl, fun h => absurd h h2⟩
  · exact ⟨28, ⟨#[]⟩, Or.inl ⟨h, rfl⟩, fun _ => rfl, fun h => by cases h⟩
theorem sto_some {b : Bt} (hn : ∀ T, ¬ StoP b 0 T) : ∃ E, E ≠ 0 ∧ StoP b E ⟨#[]⟩ := by
  by_cases h0 : rfh b = 0
  · obtain ⟨E, S, h⟩ := body_some (l := b.l)
    by_cases hE : E = 0
    · subst hE
      by_cases hs : (sto b S).size ≤ 16777165
      · exact absurd (StoP.ok S h0 h hs) (hn _)
      · exact ⟨66, by decide, StoP.big S h0 h (by omega)⟩
    · exact ⟨E, hE, StoP.body E h0 hE (by have := h.2.1 hE; rwa [this] at h)⟩
  · exact ⟨_, h0, StoP.head h0⟩
end Go.Proofs.YtajmcnlbkdfloabGreat
namespace Go.Proofs.YtajmcnlbkdfloabGreat
open Go.RowKit
theorem hd_eq {b : Bt} {T : ByteArray} : hdV (hdB b T) = .agg #[.int .i64 b.base, .int .i64 (51 + T.size : Nat), .bool b.pk, .int .i64 b.l.length, .int .i64 (b.l.getD 0 dri).r.t, .int .i64 (grt b.l), .int .i64 b.prod, .int .i32 b.seq] := by
  have hlen : ((12 + (hdB b T).len : Nat) : Int) = ((51 + T.size : Nat) : Int) := by show ((12 + (39 + T.size) : Nat) : Int) = _; omega
  have hpk : decide ((hdB b T).st = 1) = b.pk := by
    show decide ((if b.pk = true then 1 else 0) = 1) = b.pk
    by_cases hp : b.pk = true
    · simp [hp]
    · simp [hp]
  unfold hdV
  rw [hlen, hpk]
  rfl
theorem moves_walk (b : Bt) (base : Int) (w : World) (hb : BtOk b) (V : Rcs w b.a b.l) :
    Calls Tryz.prog 5 #[.agg #[.int .i64 b.base, .bool b.pk, .int .i64 b.prod, .int .i32 b.seq, .slice b.a b.l.length b.cap], .int .i64 base] w fun e w' => e = .returned (.bool true) ∧ Below w.heap.size w w' := by
  have ce := fun w V => encode_any b w V hb.t hb.m hb.l
  unfold btV btA at ce
  by_cases hz : ∃ T, StoP b 0 T
  · obtain ⟨T, hT⟩ := hz
    obtain ⟨r0, S0, q1, q2, q3⟩ := sto_ok hT
    obtain ⟨f1, f2, f3, f4⟩ := rfh_zero r0
    have det : ∀ E T', StoP b E T' → E = 0 ∧ T' = T := fun E T' h => sto_det hT h (fun _ _ _ _ h h' => body_det h h') rfl
    have hbk := body_back hb.t hb.m q1
    have hSz : (frm (fsB b T.size) T).size = 51 + T.size := frm_size _ _
    have hTz : (frm (fsB (mvd b base) T.size) T).size = 51 + T.size := frm_size _ _
    have hop : ∀ b' : Bt, BtOk b' → rfh b' = 0 → b'.l = b.l → b'.pk = b.pk → opn (frm (fsB b' T.size) T) 16777216 16777216 = .ok (hdB b' T, S0) := fun b' hb' hr hl hp => by
      have e : sto b' S0 = T := by rw [q2]; unfold sto; rw [hp]
      have := opn_frame (S := S0) hb' hr (by rw [hl]; exact q1) (by rw [e]; exact q3) ⟨#[]⟩ 16777216 16777216 (by rw [e]; unfold wth; omega) (by have := hbk.2.1; unfold wth; omega)
      rw [app_emp, e] at this
      exact this
    have ce2 : ∀ w, Rcs w b.a b.l → Calls Tryz.prog 8 #[.agg #[.int .i64 b.base, .bool b.pk, .int .i64 b.prod, .int .i32 b.seq, .slice b.a b.l.length b.cap]] w fun e w' => e = .returned (.tuple #[.string (frm (fsB b T.size) T), .int .i64 0]) ∧ Below w.heap.size w w' := fun w V => by
      refine (ce w V).mono ?_
      rintro e w' ⟨⟨E, S', rfl, hE⟩, hbl⟩
      rcases hE with ⟨h1, h2, _⟩ | ⟨rfl, T', h2, h3⟩
      · exact absurd (det _ _ h2).1 h1
      · have := (det _ _ h2).2
        subst this
        rw [h3]
        exact ⟨rfl, hbl⟩
    have cr := fun w => rebase_any (frm (fsB b T.size) T) base w (by omega)
    by_cases hr : 0 ≤ base ∧ base < 4611686018427387904
    · have e1 : rbe (frm (fsB b T.size) T) base = 0 := by unfold rbe; rw [if_neg (by omega), if_neg (by simpa using hr)]
      rw [frm_move b base T hr, e1] at cr
      have cc := fun w => check6_any (frm (fsB b T.size) T) 16777216 16777216 w (by omega)
      have ck := fun w => check6_any (frm (fsB (mvd b base) T.size) T) 16777216 16777216 w (by omega)
      rw [hop b hb r0 rfl rfl] at cc
      unfold ChkV at cc
      dsimp only at cc
      rw [hd_eq] at cc
      have K := moves_in b.base b.pk b.prod b.seq b.l b.l.length b.a b.cap base w V (frm (fsB b T.size) T) (frm (fsB (mvd b base) T.size) T) _ (51 + T.size) (b.l.getD 0 dri).r.t (grt b.l) f1.2 hr.1 hr.2 hSz hTz (by omega) (by omega) (by have := frm_tail b base T; rw [hSz] at this; exact this) rfl (hid ce2) (hid cr) (hid cc)
      have hbm : BtOk (mvd b base) := ⟨hb.t, hb.m, hb.l, hb.p1, hb.p2, hb.q1, hb.q2⟩
      by_cases ho : 4611686018427387904 < base + (b.l.length : Int)
      · refine K.1 ho (hid fun w => ?_)
        have hfo : FsOk (hdB (mvd b base) T) := by
          have h := (frm_right hb hT).2
          exact ⟨h.len, h.mark, h.sum, h.st, h.cnt, by show _ ≤ base; omega, by show base ≤ _; omega, h.f1, h.f2, h.g1, h.g2⟩
        have hf : fsOf (frm (fsB (mvd b base) T.size) T) = hdB (mvd b base) T := by
          have e0 := bl_frm (fsB (mvd b base) T.size) T ⟨#[]⟩
          rw [app_emp] at e0
          exact fsOf_head hfo hb.p1 hb.p2 hb.q1 hb.q2 e0
        have hp : pke (frm (fsB (mvd b base) T.size) T) = 28 := by
          refine pke_no (by omega) ?_
          rw [hf, ← Bool.not_eq_true, rgt_iff]
          intro R
          have : base ≤ 4611686018427387904 - (b.l.length : Int) := R.o
          omega
        have hopn : opn (frm (fsB (mvd b base) T.size) T) 16777216 16777216 = .error 28 := by
          unfold opn
          rw [hp, if_pos (by decide)]
        have c := ck w
        rw [hopn] at c
        exact c
      · have hrm : rfh (mvd b base) = 0 := by
          unfold rfh mvd
          dsimp only
          rw [if_neg (by omega), if_neg (by omega), if_neg (by rw [f3]; simpa using hr), if_neg (by omega)]
        refine K.2 (by omega) (hid fun w => ?_) (hid fun w => ?_)
        · have c := ck w
          rw [hop (mvd b base) hbm hrm rfl rfl] at c
          unfold ChkV at c
          dsimp only at c
          rw [hd_eq] at c
          exact c
        · have c := rebase_any (frm (fsB (mvd b base) T.size) T) b.base w (by omega)
          have e3 : rbe (frm (fsB (mvd b base) T.size) T) b.base = 0 := by unfold rbe; rw [if_neg (by omega), if_neg (by simpa using f2)]
          rw [frm_move (mvd b base) b.base T f2, e3] at c
          exact c
    · refine moves_out b.base b.pk b.prod b.seq b.l b.l.length b.a b.cap base w V (frm (fsB b T.size) T) hr (hid ce2) (hid fun w => ?_)
      have e1 : rbe (frm (fsB b T.size) T) base = 1 := by unfold rbe; rw [if_neg (by omega), if_pos hr]
      have e2 : rbt (frm (fsB b T.size) T) base = ⟨#[]⟩ := by unfold rbt; rw [e1, if_neg (by decide)]
      have c := cr w
      rw [e1, e2] at c
      exact c
  · obtain ⟨E, hE1, hE2⟩ : ∃ E, E ≠ 0 ∧ StoP b E ⟨#[]⟩ := sto_some (fun T h => hz ⟨T, h⟩)
    refine moves_err b.base b.pk b.prod b.seq b.l b.l.length b.a b.cap base w V E hE1 (hid fun w V => ?_)
    refine (ce w V).mono ?_
    rintro e w' ⟨⟨E', S', rfl, hE⟩, hbl⟩
    rcases hE with ⟨_, h2, rfl⟩ | ⟨_, T, h2, _⟩
    · have := sto_same h2 hE2
      subst this
      exact ⟨rfl, hbl⟩
    · exact absurd ⟨T, h2⟩ hz
end Go.Proofs.YtajmcnlbkdfloabGreat
