/- Texts of the proof, put together: Bdt, Blw. -/
import Derived.Test.YtajmcnlbkdfloabGreatMB5
import Derived.Test.YtajmcnlbkdfloabGreatMB7
import Derived.Deep.QuietTactic
import Derived.BigQuiet
namespace Go.Proofs.YtajmcnlbkdfloabGreat
open Go.RowKit
theorem sto_det {b : Bt} {E E' : Nat} {T T' : ByteArray} (h : StoP b E T) (h' : StoP b E' T') (hd : ∀ E E' S S', BodyP b.l E S → BodyP b.l E' S' → E = E') : E = 0 → E' = 0 ∧ T' = T := by
  intro hE
  subst hE
  obtain ⟨r0, S, q1, q2, q3⟩ := sto_ok h
  cases h' with
  | head h => exact absurd r0 h
  | body E h1 h2 h3 => exact absurd (hd _ _ _ _ h3 q1) h2
  | big S' h1 h2 h3 =>
    have e : S' = S := by rw [h2.2.2 rfl, q1.2.2 rfl]
    subst e
    rw [← q2] at h3
    omega
  | ok S' h1 h2 h3 =>
    have e : S' = S := by rw [h2.2.2 rfl, q1.2.2 rfl]
    subst e
    exact ⟨rfl, q2.symm⟩
theorem body_det {l : List RI} {E E' : Nat} {S S' : ByteArray} (h : BodyP l E S) (h' : BodyP l E' S') : E = E' := by
  rcases h.1 with ⟨a1, a2⟩ | ⟨a1, a2⟩
  · rcases h'.1 with ⟨b1, b2⟩ | ⟨b1, b2⟩
    · rw [a2, b2]
    · exact absurd b1 a1
  · rcases h'.1 with ⟨b1, b2⟩ | ⟨b1, b2⟩
    · exact absurd a1 b1
    · unfold FitE at a2 b2
      rcases a2 with ⟨j, c1, c2, c3, c4⟩ | ⟨c1, c2⟩
      · rcases b2 with ⟨k, d1, d2, d3, d4⟩ | ⟨d1, d2⟩
        · have : j = k := by
            rcases Nat.lt_trichotomy j k with h | h | h
            · exact absurd (d2 j h) c3
            · exact h
            · exact absurd (c2 k h) d3
          subst this
          rw [c4, d4]
        · exact absurd (d1 j c1) c3
      · rcases b2 with ⟨k, d1, d2, d3, d4⟩ | ⟨d1, d2⟩
        · exact absurd (c1 k d1) d3
        · rw [c2, d2]
theorem sto_same {b : Bt} {E E' : Nat} {T T' : ByteArray} (h : StoP b E T) (h' : StoP b E' T') : E = E' := by
  cases h with
  | head h1 =>
    cases h' with
    | head _ => rfl
    | body _ h2 _ _ => exact absurd h2 h1
    | big _ h2 _ _ => exact absurd h2 h1
    | ok _ h2 _ _ => exact absurd h2 h1
  | body E h1 h2 h3 =>
    cases h' with
    | head h => exact absurd h1 h
    | body E' _ _ h6 => exact body_det h3 h6
    | big S _ h6 _ => exact absurd (body_det h3 h6) h2
    | ok S _ h6 _ => exact absurd (body_det h3 h6) h2
  | big S h1 h2 h3 =>
    cases h' with
    | head h => exact absurd h1 h
    | body E' _ h5 h6 => exact absurd (body_det h6 h2) h5
    | big S' _ _ _ => rfl
    | ok S' _ h6 h7 =>
      have e : S' = S := by rw [h6.2.2 rfl, h2.2.2 rfl]
      subst e
      omega
  | ok S h1 h2 h3 =>
    cases h' with
    | head h => exact absurd h1 h
    | body E' _ h5 h6 => exact absurd (body_det h6 h2) h5
    | big S' _ h6 h7 =>
      have e : S' = S := by rw [h6.2.2 rfl, h2.2.2 rfl]
      subst e
      omega
    | ok S' _ _ _ => rfl
theorem body_some {l : List RI} : ∃ E S, BodyP l E S := by
  by_cases h : 1 ≤ l.length ∧ l.length ≤ 65536
  · by_cases hz : ∀ i, i < l.length → sze (l.getD i dri).r (l.getD 0 dri).r.t i = 0
    · by_cases hb : 16777216 < (bdy (l.getD 0 dri).r.t 0 (l.map RI.r)).length
      · exact ⟨66, ⟨#[]⟩, Or.inr ⟨h, Or.inr ⟨hz, by rw [if_pos hb]⟩⟩, fun _ => rfl, fun h => by cases h⟩
      · exact ⟨0, _, Or.inr ⟨h, Or.inr ⟨hz, by rw [if_neg hb]⟩⟩, fun h => absurd rfl h, fun _ => rfl⟩
    · have hex : ∃ j, j < l.length ∧ sze (l.getD j dri).r (l.getD 0 dri).r.t j ≠ 0 := Classical.byContradiction fun hn => hz fun i hi => Classical.byContradiction fun hh => hn ⟨i, hi, hh⟩
      have hmin : ∃ j, (j < l.length ∧ sze (l.getD j dri).r (l.getD 0 dri).r.t j ≠ 0) ∧ ∀ i, i < j → sze (l.getD i dri).r (l.getD 0 dri).r.t i = 0 := by
        obtain ⟨j, hj⟩ := hex
        induction j using Nat.strongRecOn with
        | ind j ih =>
          by_cases hall : ∀ i, i < j → sze (l.getD i dri).r (l.getD 0 dri).r.t i = 0
          · exact ⟨j, hj, hall⟩
          · have : ∃ i, i < j ∧ sze (l.getD i dri).r (l.getD 0 dri).r.t i ≠ 0 := Classical.byContradiction fun hn => hall fun i hi => Classical.byContradiction fun hh => hn ⟨i, hi, hh⟩
            obtain ⟨i, h1, h2⟩ := this
            exact ih i h1 ⟨by omega, h2⟩
      obtain ⟨j, ⟨h1, h2⟩, h3⟩ := hmin
      exact ⟨_, ⟨#[]⟩, Or.inr ⟨h, Or.inl ⟨j, h1, h3, h2, rfl⟩⟩, fun _ => rfl, fun h => absurd h h2⟩
  · exact ⟨28, ⟨#[]⟩, Or.inl ⟨h, rfl⟩, fun _ => rfl, fun h => by cases h⟩
theorem sto_some {b : Bt} (hn : ∀ T, ¬ StoP b 0 T) : ∃ E, E ≠ 0 ∧ StoP b E ⟨#[]⟩ := by
  by_cases h0 : rfh b = 0
  · obtain ⟨E, S, h⟩ := body_some (l := b.l)
    by_cases hE : E = 0
    · subst hE
      by_cases hs : (sto b S).size ≤ 16777165
      · exact absurd (StoP.ok S h0 h hs) (hn _)
      · exact ⟨66, by decide, StoP.big S h0 h (by omega)⟩
    · exact ⟨E, hE, StoP.body E h0 hE (by have := h.2.1 hE; rwa [this] at h)⟩
  · exact ⟨_, h0, StoP.head h0⟩
end Go.Proofs.YtajmcnlbkdfloabGreat
namespace Go.Proofs.YtajmcnlbkdfloabGreat
open Go.RowKit
set_option maxHeartbeats 2000000 in
set_option maxRecDepth 20000 in
theorem limits_err (b0 : Int) (pk : Bool) (prod seq : Int) (l : List RI) (L : Nat) (a : Option Addr) (cap : Nat) (w : World) (V : Rcs w a l) (E : Nat) (hx : E ≠ 0) (CE1 : Hid (∀ w, Rcs w a l → Calls Tryz.prog 8 #[.agg #[.int .i64 b0, .bool false, .int .i64 prod, .int .i32 seq, .slice a L cap]] w fun e w' => e = .returned (.tuple #[.string ⟨#[]⟩, .int .i64 E]) ∧ Below w.heap.size w w')) : Calls Tryz.prog 4 #[.agg #[.int .i64 b0, .bool pk, .int .i64 prod, .int .i32 seq, .slice a L cap]] w fun e w' => e = .returned (.bool true) ∧ Below w.heap.size w w' := by
  have hx' : ¬ (E : Int) = 0 := by omega
  have CA := hid (fun w => awake6_any w)
  have N0 := Bx1.new w #[.int .i64 b0, .bool pk, .int .i64 prod, .int .i32 seq, .slice a L cap] 24
  go_enter Tryz.func4, Tryz.ntmps4
  go_wp2_with fail
  refine (CA.out _).mono ?_
  rintro e w1 ⟨rfl, b1⟩
  have N1 := N0.call b1
  have N1s : Bx1 w #[.int .i64 b0, .bool false, .int .i64 prod, .int .i32 seq, .slice a L cap] 24 (w1.setCell ⟨w.heap.size, 1, none⟩ (.bool false)) := N1.set 1 (.bool false)
  have k1 := (cells5 N1.p).2.1
  have z1 : w1.frozen? ⟨w.heap.size, 1, none⟩ = false := froz_of N1.p
  obtain ⟨W1, hW1⟩ : ∃ x, w1.setCell ⟨w.heap.size, 1, none⟩ (.bool false) = x := ⟨_, rfl⟩
  rw [hW1] at N1s
  obtain ⟨q0, q1, q2, q3, q4⟩ := cells5 N1s.p
  have V1 := V.below N1s.b
  clear b1 N0 N1
  go_wp2_with fail
  refine (CE1.out _ V1).mono ?_
  rintro e w2 ⟨rfl, b2⟩
  have N2 := N1s.call b2
  clear b2 N1s k1 z1 q0 q1 q2 q3 q4 V1 hW1
  go_wp2_with fail
  go_ret
  exact ⟨rfl, N2.b⟩
set_option maxHeartbeats 2000000 in
set_option maxRecDepth 20000 in
theorem limits_in (b0 : Int) (pk : Bool) (prod seq : Int) (l : List RI) (L : Nat) (a : Option Addr) (cap : Nat) (w : World) (V : Rcs w a l) (S P : ByteArray) (B E2 E3 E5 E6 : Nat) (hS : S.size = 51 + B) (hB : 7 ≤ B) (hB2 : B ≤ 16777216) (h2 : 7 < B → E2 = 66) (h3 : 7 < B → E3 = 66) (hP : P.size ≤ 16777216) (h6 : E6 ≠ 0 → P = ⟨#[]⟩) (h5 : 7 < B → E5 = 66)
    (CE1 : Hid (∀ w, Rcs w a l → Calls Tryz.prog 8 #[.agg #[.int .i64 b0, .bool false, .int .i64 prod, .int .i32 seq, .slice a L cap]] w fun e w' => e = .returned (.tuple #[.string S, .int .i64 0]) ∧ Below w.heap.size w w')) (CK1 : Hid (∀ w, Calls Tryz.prog 9 #[.string S, .int .i64 (51 + B : Nat), .int .i64 B] w fun e w' => ∃ x0 x1 x2 x3 x4 x5 x6 x7, e = .returned (.tuple #[.agg #[.int .i64 x0, .int .i64 x1, .bool x2, .int .i64 x3, .int .i64 x4, .int .i64 x5, .int .i64 x6, .int .i32 x7], .int .i64 0]) ∧ Below w.heap.size w w')) (CK2 : Hid (∀ w, Calls Tryz.prog 9 #[.string S, .int .i64 (50 + B : Nat), .int .i64 16777216] w fun e w' => ∃ x0 x1 x2 x3 x4 x5 x6 x7, e = .returned (.tuple #[.agg #[.int .i64 x0, .int .i64 x1, .bool x2, .int .i64 x3, .int .i64 x4, .int .i64 x5, .int .i64 x6, .int .i32 x7], .int .i64 E2]) ∧ Below w.heap.size w w')) (CK3 : Hid (∀ w, Calls Tryz.prog 9 #[.string S, .int .i64 16777216, .int .i64 (B - 1 : Nat)] w fun e w' => ∃ x0 x1 x2 x3 x4 x5 x6 x7, e = .returned (.tuple #[.agg #[.int .i64 x0, .int .i64 x1, .bool x2, .int .i64 x3, .int .i64 x4, .int .i64 x5, .int .i64 x6, .int .i32 x7], .int .i64 E3]) ∧ Below w.heap.size w w'))
    (CE2 : Hid (∀ w, Rcs w a l → Calls Tryz.prog 8 #[.agg #[.int .i64 b0, .bool true, .int .i64 prod, .int .i32 seq, .slice a L cap]] w fun e w' => e = .returned (.tuple #[.string P, .int .i64 E6]) ∧ Below w.heap.size w w')) (CK4 : Hid (E6 = 0 → ∀ w, Calls Tryz.prog 9 #[.string P, .int .i64 P.size, .int .i64 B] w fun e w' => ∃ x0 x1 x2 x3 x4 x5 x6 x7, e = .returned (.tuple #[.agg #[.int .i64 x0, .int .i64 x1, .bool x2, .int .i64 x3, .int .i64 x4, .int .i64 x5, .int .i64 x6, .int .i32 x7], .int .i64 0]) ∧ Below w.heap.size w w')) (CK5 : Hid (E6 = 0 → ∀ w, Calls Tryz.prog 9 #[.string P, .int .i64 P.size, .int .i64 (B - 1 : Nat)] w fun e w' => ∃ x0 x1 x2 x3 x4 x5 x6 x7, e = .returned (.tuple #[.agg #[.int .i64 x0, .int .i64 x1, .bool x2, .int .i64 x3, .int .i64 x4, .int .i64 x5, .int .i64 x6, .int .i32 x7], .int .i64 E5]) ∧ Below w.heap.size w w')) : Calls Tryz.prog 4 #[.agg #[.int .i64 b0, .bool pk, .int .i64 prod, .int .i32 seq, .slice a L cap]] w fun e w' => e = .returned (.bool true) ∧ Below w.heap.size w w' := by
  obtain ⟨NN, hNN⟩ : ∃ n, 51 + B = n := ⟨_, rfl⟩
  have hBN : (NN : Int) - 51 = (B : Int) := by omega
  rw [hNN] at hS CK1
  have e50 : ((50 + B : Nat) : Int) = (NN : Int) - 1 := by omega
  have eB1 : ((B - 1 : Nat) : Int) = (B : Int) - 1 := by omega
  rw [e50] at CK2
  rw [eB1] at CK3 CK5
  by_cases hlt : 7 < B
  · rw [h2 hlt] at CK2
    rw [h3 hlt] at CK3
    rw [h5 hlt] at CK5
    have c1 : (58 : Int) < NN := by omega
    have c2 : (7 : Int) < B := by omega
    clear h2 h3 h5 hlt
    have CA := hid (fun w => awake6_any w)
    have N0 := Bx1.new w #[.int .i64 b0, .bool pk, .int .i64 prod, .int .i32 seq, .slice a L cap] 24
    go_enter Tryz.func4, Tryz.ntmps4
    go_wp2_with fail
    refine (CA.out _).mono ?_
    rintro e w1 ⟨rfl, b1⟩
    have N1 := N0.call b1
    have N1s : Bx1 w #[.int .i64 b0, .bool false, .int .i64 prod, .int .i32 seq, .slice a L cap] 24 (w1.setCell ⟨w.heap.size, 1, none⟩ (.bool false)) := N1.set 1 (.bool false)
    have k1 := (cells5 N1.p).2.1
    have z1 : w1.frozen? ⟨w.heap.size, 1, none⟩ = false := froz_of N1.p
    obtain ⟨W1, hW1⟩ : ∃ x, w1.setCell ⟨w.heap.size, 1, none⟩ (.bool false) = x := ⟨_, rfl⟩
    rw [hW1] at N1s
    obtain ⟨q0, q1, q2, q3, q4⟩ := cells5 N1s.p
    have V1 := V.below N1s.b
    clear b1 N0 N1
    go_wp2_with fail
    refine (CE1.out _ V1).mono ?_
    rintro e w2 ⟨rfl, b2⟩
    have N2 := N1s.call b2
    clear b2 N1s k1 z1 q0 q1 q2 q3 q4 V1 hW1
    go_wp2_with fail
    refine (CK1.out _).mono ?_
    rintro e w3 ⟨x0, x1, x2, x3, x4, x5, x6, x7, rfl, b3⟩
    have N3 := (N2.call b3).alloc (.cells #[.int .i64 x0, .int .i64 x1, .bool x2, .int .i64 x3, .int .i64 x4, .int .i64 x5, .int .i64 x6, .int .i32 x7] 30)
    clear b3 N2
    go_wp2_with fail
    refine (CK2.out _).mono ?_
    rintro e w4 ⟨y0, y1, y2, y3, y4, y5, y6, y7, rfl, b4⟩
    have N4 := N3.call b4
    clear b4 N3
    go_wp2_with fail
    refine (CK3.out _).mono ?_
    rintro e w5 ⟨u0, u1, u2, u3, u4, u5, u6, u7, rfl, b5⟩
    have N5 := (N4.call b5).alloc (.cells #[.int .i64 u0, .int .i64 u1, .bool u2, .int .i64 u3, .int .i64 u4, .int .i64 u5, .int .i64 u6, .int .i32 u7] 30)
    have N6 : Bx1 w #[.int .i64 b0, .bool true, .int .i64 prod, .int .i32 seq, .slice a L cap] 24 ((w5.alloc (.cells #[.int .i64 u0, .int .i64 u1, .bool u2, .int .i64 u3, .int .i64 u4, .int .i64 u5, .int .i64 u6, .int .i32 u7] 30)).setCell ⟨w.heap.size, 1, none⟩ (.bool true)) := N5.set 1 (.bool true)
    have k1 := (cells5 N5.p).2.1
    have z1 : (w5.alloc (.cells #[.int .i64 u0, .int .i64 u1, .bool u2, .int .i64 u3, .int .i64 u4, .int .i64 u5, .int .i64 u6, .int .i32 u7] 30)).frozen? ⟨w.heap.size, 1, none⟩ = false := froz_of N5.p
    obtain ⟨W6, hW6⟩ : ∃ x, (w5.alloc (.cells #[.int .i64 u0, .int .i64 u1, .bool u2, .int .i64 u3, .int .i64 u4, .int .i64 u5, .int .i64 u6, .int .i32 u7] 30)).setCell ⟨w.heap.size, 1, none⟩ (.bool true) = x := ⟨_, rfl⟩
    rw [hW6] at N6
    obtain ⟨q0, q1, q2, q3, q4⟩ := cells5 N6.p
    have V6 := V.below N6.b
    clear b5 N4 N5
    go_wp2_with fail
    refine (CE2.out _ V6).mono ?_
    rintro e w7 ⟨rfl, b7⟩
    have N7 := N6.call b7
    clear b7 N6 k1 z1 q0 q1 q2 q3 q4 hW6
    by_cases hE : E6 = 0
    · subst hE
      have CK4' := hid (CK4.out rfl)
      have CK5' := hid (CK5.out rfl)
      clear CK4 CK5
      go_wp2_with fail
      refine (CK4'.out _).mono ?_
      rintro e w8 ⟨s0, s1, s2, s3, s4, s5, s6, s7, rfl, b8⟩
      have N8 := N7.call b8
      clear b8 N7
      go_wp2_with fail
      refine (CK5'.out _).mono ?_
      rintro e w9 ⟨t0, t1, t2, t3, t4, t5, t6, t7, rfl, b9⟩
      have N9 := N8.call b9
      clear b9 N8
      go_wp2_with fail
      go_ret
      exact ⟨rfl, N9.b⟩
    · have hE' : ¬ (E6 : Int) = 0 := by omega
      obtain rfl := h6 hE
      go_wp2_with fail
      go_ret
      exact ⟨rfl, N7.b⟩
  · have c1 : (NN : Int) ≤ 58 := by omega
    have c2 : (B : Int) ≤ 7 := by omega
    clear h2 h3 h5 hlt
    have CA := hid (fun w => awake6_any w)
    have N0 := Bx1.new w #[.int .i64 b0, .bool pk, .int .i64 prod, .int .i32 seq, .slice a L cap] 24
    go_enter Tryz.func4, Tryz.ntmps4
    go_wp2_with fail
    refine (CA.out _).mono ?_
    rintro e w1 ⟨rfl, b1⟩
    have N1 := N0.call b1
    have N1s : Bx1 w #[.int .i64 b0, .bool false, .int .i64 prod, .int .i32 seq, .slice a L cap] 24 (w1.setCell ⟨w.heap.size, 1, none⟩ (.bool false)) := N1.set 1 (.bool false)
    have k1 := (cells5 N1.p).2.1
    have z1 : w1.frozen? ⟨w.heap.size, 1, none⟩ = false := froz_of N1.p
    obtain ⟨W1, hW1⟩ : ∃ x, w1.setCell ⟨w.heap.size, 1, none⟩ (.bool false) = x := ⟨_, rfl⟩
    rw [hW1] at N1s
    obtain ⟨q0, q1, q2, q3, q4⟩ := cells5 N1s.p
    have V1 := V.below N1s.b
    clear b1 N0 N1
    go_wp2_with fail
    refine (CE1.out _ V1).mono ?_
    rintro e w2 ⟨rfl, b2⟩
    have N2 := N1s.call b2
    clear b2 N1s k1 z1 q0 q1 q2 q3 q4 V1 hW1
    go_wp2_with fail
    refine (CK1.out _).mono ?_
    rintro e w3 ⟨x0, x1, x2, x3, x4, x5, x6, x7, rfl, b3⟩
    have N3 := (N2.call b3).alloc (.cells #[.int .i64 x0, .int .i64 x1, .bool x2, .int .i64 x3, .int .i64 x4, .int .i64 x5, .int .i64 x6, .int .i32 x7] 30)
    clear b3 N2
    go_wp2_with fail
    refine (CK2.out _).mono ?_
    rintro e w4 ⟨y0, y1, y2, y3, y4, y5, y6, y7, rfl, b4⟩
    have N4 := N3.call b4
    clear b4 N3
    go_wp2_with fail
    refine (CK3.out _).mono ?_
    rintro e w5 ⟨u0, u1, u2, u3, u4, u5, u6, u7, rfl, b5⟩
    have N5 := (N4.call b5).alloc (.cells #[.int .i64 u0, .int .i64 u1, .bool u2, .int .i64 u3, .int .i64 u4, .int .i64 u5, .int .i64 u6, .int .i32 u7] 30)
    have N6 : Bx1 w #[.int .i64 b0, .bool true, .int .i64 prod, .int .i32 seq, .slice a L cap] 24 ((w5.alloc (.cells #[.int .i64 u0, .int .i64 u1, .bool u2, .int .i64 u3, .int .i64 u4, .int .i64 u5, .int .i64 u6, .int .i32 u7] 30)).setCell ⟨w.heap.size, 1, none⟩ (.bool true)) := N5.set 1 (.bool true)
    have k1 := (cells5 N5.p).2.1
    have z1 : (w5.alloc (.cells #[.int .i64 u0, .int .i64 u1, .bool u2, .int .i64 u3, .int .i64 u4, .int .i64 u5, .int .i64 u6, .int .i32 u7] 30)).frozen? ⟨w.heap.size, 1, none⟩ = false := froz_of N5.p
    obtain ⟨W6, hW6⟩ : ∃ x, (w5.alloc (.cells #[.int .i64 u0, .int .i64 u1, .bool u2, .int .i64 u3, .int .i64 u4, .int .i64 u5, .int .i64 u6, .int .i32 u7] 30)).setCell ⟨w.heap.size, 1, none⟩ (.bool true) = x := ⟨_, rfl⟩
    rw [hW6] at N6
    obtain ⟨q0, q1, q2, q3, q4⟩ := cells5 N6.p
    have V6 := V.below N6.b
    clear b5 N4 N5
    go_wp2_with fail
    refine (CE2.out _ V6).mono ?_
    rintro e w7 ⟨rfl, b7⟩
    have N7 := N6.call b7
    clear b7 N6 k1 z1 q0 q1 q2 q3 q4 hW6
    by_cases hE : E6 = 0
    · subst hE
      have CK4' := hid (CK4.out rfl)
      have CK5' := hid (CK5.out rfl)
      clear CK4 CK5
      go_wp2_with fail
      refine (CK4'.out _).mono ?_
      rintro e w8 ⟨s0, s1, s2, s3, s4, s5, s6, s7, rfl, b8⟩
      have N8 := N7.call b8
      clear b8 N7
      go_wp2_with fail
      refine (CK5'.out _).mono ?_
      rintro e w9 ⟨t0, t1, t2, t3, t4, t5, t6, t7, rfl, b9⟩
      have N9 := N8.call b9
      clear b9 N8
      go_wp2_with fail
      go_ret
      exact ⟨rfl, N9.b⟩
    · have hE' : ¬ (E6 : Int) = 0 := by omega
      obtain rfl := h6 hE
      go_wp2_with fail
      go_ret
      exact ⟨rfl, N7.b⟩
end Go.Proofs.YtajmcnlbkdfloabGreat
