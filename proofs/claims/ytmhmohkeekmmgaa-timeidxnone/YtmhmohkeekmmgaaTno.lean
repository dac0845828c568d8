/- TimeidxNone: its walk. -/
import Derived.Test.YtmhmohkeekmmgaaTOp
namespace Go.Proofs.Ytmhmohkeekmmgaa
open Go.RowKit
theorem ip_none (w : World) : Ip w none (.slice none 0 0) [] := Or.inr ⟨rfl, rfl, rfl⟩
set_option maxRecDepth 20000 in
set_option maxHeartbeats 4000000 in
theorem none_walk (os : List Op4) (a : Option Addr) (cap : Nat) (w : World) (hv : Ops w a os) (hn : os.length ≤ 4398046511104) :
    Calls Try.prog 8 #[.slice a os.length cap] w fun e w' => e = .returned (.bool true) ∧ Below w.heap.size w w' := by
  have HF := hid (finds_any w)
  have HV := hid hv
  have N1 : Hid (∀ wx t, Calls Try.prog 24 #[.pointer none, .int .i64 t] wx fun r w' => r = .returned (.tuple #[.agg #[.int .i64 0, .int .i64 0], .int .i64 0, .bool false]) ∧ Below wx.heap.size wx w') := fun wx t => (find_any none t _ [] wx (ip_none wx) Ord.nil (by simp)).mono fun r w' ⟨h1, h2⟩ => ⟨h1.trans (by rfl), h2⟩
  have N2 : Hid (∀ wx i, Calls Try.prog 26 #[.pointer none, .int .i64 i] wx fun r w' => r = .returned (.tuple #[.agg #[.int .i64 0, .int .i64 0], .bool false]) ∧ Below wx.heap.size wx w') := fun wx i => (ientry_any none i _ [] wx (ip_none wx)).mono fun r w' ⟨h1, h2⟩ => ⟨by
    have e : atE [] i = (en0, false) := if_neg (fun h => by have h2 : i < 0 := h.2; have := h.1; omega)
    rw [h1, e]; rfl, h2⟩
  have N3 : Hid (∀ wx, Calls Try.prog 27 #[.pointer none] wx fun r w' => r = .returned (.tuple #[.agg #[.int .i64 0, .int .i64 0], .bool false]) ∧ Below wx.heap.size wx w') := fun wx => (ilast_any none _ [] wx (ip_none wx) (by simp)).mono fun r w' ⟨h1, h2⟩ => ⟨h1.trans (by rfl), h2⟩
  obtain ⟨M, hM⟩ : ∃ M, M = os.length := ⟨_, rfl⟩
  have HM := hid hM
  rw [← hM] at hn ⊢
  clear hv hM
  go_enter Try.func8, Try.ntmps8
  go_wp2_with (first | (go_at_call 9; refine HF.out.mono ?_; rintro e w1 ⟨rfl, hb1⟩; have HB1 := hid hb1; have HS := hid (Pt.start w1); clear hb1) | (go_at_call 11; refine (rnew_any _).mono ?_; rintro e w' ⟨rfl, rfl⟩))
  have HBw : Hid (∀ wx, Below w1.heap.size w1 wx → Below w.heap.size w wx) := fun wx hx => HB1.out.trans (hx.mono HB1.out.size)
  generalize hX : w1.heap.size = X at *
  clear hX HF HB1
  go_loopg [23] M (fun k vi wr => ∃ (j : Nat) (v v' : Value) (L : List En), j + k = M ∧ vi = .int .i64 j ∧ L.length ≤ j ∧ Hid (Ord L) ∧ Hid (Pt w1 wr X X (X + 1) v v' L L))
  case atStart => exact ⟨0, _, _, [], by omega, rfl, Nat.le_refl _, Ord.nil, HS.out⟩
  case round =>
    clear HS
    obtain ⟨j, v, v', L, hj, rfl, hl, HOd, HP⟩ := hrel
    by_cases hlt : j < M
    · obtain ⟨k', rfl⟩ : ∃ k', gk = k' + 1 := ⟨gk - 1, by omega⟩
      have hltI : (j : Int) < M := by omega
      obtain ⟨b, off, rfl, hb, hrd⟩ := HV.out.read (j := j) (by rw [← HM.out]; exact hlt)
      have HRD := hid hrd
      obtain ⟨kk, ⟨ek, ea⟩, n, ho⟩ : ∃ k e n, os.getD j op0 = ⟨k, e, n⟩ := ⟨_, _, _, rfl⟩
      obtain ⟨c0, c1, c2, c3⟩ := HRD.out wr (HBw.out wr HP.out.bel) kk ek ea n ho
      have HJ := hid hj
      have HB0 : Hid (Pb w1 (wr.alloc (.cells #[.int .u8 kk, .int .i64 ek, .int .i64 ea, .int .i64 n] 31)) X X (X + 1) wr.heap.size kk ek ea n v v' L L) := ⟨HP.out.later ((Below.refl _ _).alloc (Nat.le_refl _) _), heap_new _ _⟩
      have hlb : L.length ≤ 4398046511104 := by omega
      have HL1 : Hid ((addE L ⟨ek, ea⟩).length ≤ j + 1) := by have := addE_len9 L ⟨ek, ea⟩; show _ ≤ _; omega
      have HL2 : Hid ((cutE (addE L ⟨ek, ea⟩) n).length ≤ j + 1) := by have := cutE_len (addE L ⟨ek, ea⟩) n; have := HL1.out; show _ ≤ _; omega
      have HO2 : Hid (Ord (cutE (addE L ⟨ek, ea⟩) n)) := (HOd.out.add _).cut _
      have A1 : Hid (∀ wx, Pb w1 wx X X (X + 1) wr.heap.size kk ek ea n v v' L L → Calls Try.prog 12 #[.pointer (some ⟨X, 0, none⟩), .agg #[.int .i64 ek, .int .i64 ea]] wx fun r w' => r = .returned (.int .i64 (addC L ⟨ek, ea⟩)) ∧ ∃ v1, Pb w1 w' X X (X + 1) wr.heap.size kk ek ea n v1 v' (addE L ⟨ek, ea⟩) L) := fun wx h => pb_app ⟨ek, ea⟩ h (by omega)
      have A2 : Hid (∀ wx v1, Pb w1 wx X X (X + 1) wr.heap.size kk ek ea n v1 v' (addE L ⟨ek, ea⟩) L → Calls Try.prog 13 #[.pointer (some ⟨X + 1, 0, none⟩), .agg #[.int .i64 ek, .int .i64 ea]] wx fun r w' => r = .returned (.int .i64 (addC L ⟨ek, ea⟩)) ∧ ∃ v1', Pb w1 w' X X (X + 1) wr.heap.size kk ek ea n v1 v1' (addE L ⟨ek, ea⟩) (addE L ⟨ek, ea⟩)) := fun wx v1 h => pb_rapp ⟨ek, ea⟩ h (by omega)
      have A3 : Hid (∀ wx v1 v1', Pb w1 wx X X (X + 1) wr.heap.size kk ek ea n v1 v1' (addE L ⟨ek, ea⟩) (addE L ⟨ek, ea⟩) → Calls Try.prog 14 #[.pointer (some ⟨X, 0, none⟩), .int .i64 n] wx fun r w' => r = .returned (.int .i64 (cutC (addE L ⟨ek, ea⟩) n)) ∧ ∃ v2, Pb w1 w' X X (X + 1) wr.heap.size kk ek ea n v2 v1' (cutE (addE L ⟨ek, ea⟩) n) (addE L ⟨ek, ea⟩)) := fun wx v1 v1' h => pb_cut n h
      have A4 : Hid (∀ wx v1 v1', Pb w1 wx X X (X + 1) wr.heap.size kk ek ea n v1 v1' (cutE (addE L ⟨ek, ea⟩) n) (addE L ⟨ek, ea⟩) → Calls Try.prog 15 #[.pointer (some ⟨X + 1, 0, none⟩), .int .i64 n] wx fun r w' => r = .returned (.int .i64 (cutC (addE L ⟨ek, ea⟩) n)) ∧ ∃ v2', Pb w1 w' X X (X + 1) wr.heap.size kk ek ea n v1 v2' (cutE (addE L ⟨ek, ea⟩) n) (cutE (addE L ⟨ek, ea⟩) n)) := fun wx v1 v1' h => pb_rcut n h (by have := HL1.out; omega)
      have A5 : Hid (∀ wx v1 v1', Pb w1 wx X X (X + 1) wr.heap.size kk ek ea n v1 v1' (cutE (addE L ⟨ek, ea⟩) n) (cutE (addE L ⟨ek, ea⟩) n) → Calls Try.prog 18 #[.pointer (some ⟨X, 0, none⟩), .pointer (some ⟨X + 1, 0, none⟩)] wx fun r w' => r = .returned (.bool true) ∧ Pb w1 w' X X (X + 1) wr.heap.size kk ek ea n v1 v1' (cutE (addE L ⟨ek, ea⟩) n) (cutE (addE L ⟨ek, ea⟩) n)) := fun wx v1 v1' h => pb_agree h (by have := HL2.out; omega)
      have A6 : Hid (∀ wx v1 v1', Pb w1 wx X X (X + 1) wr.heap.size kk ek ea n v1 v1' (cutE (addE L ⟨ek, ea⟩) n) (cutE (addE L ⟨ek, ea⟩) n) → Calls Try.prog 16 #[.pointer (some ⟨X, 0, none⟩), .pointer (some ⟨X + 1, 0, none⟩), .int .i64 ek] wx fun r w' => r = .returned (.bool true) ∧ Pb w1 w' X X (X + 1) wr.heap.size kk ek ea n v1 v1' (cutE (addE L ⟨ek, ea⟩) n) (cutE (addE L ⟨ek, ea⟩) n)) := fun wx v1 v1' h => pb_found ek h HO2.out (by have := HL2.out; omega)
      generalize cutC (addE L ⟨ek, ea⟩) n = cc at *
      generalize cutE (addE L ⟨ek, ea⟩) n = L2 at *
      generalize addC L ⟨ek, ea⟩ = ca at *
      generalize addE L ⟨ek, ea⟩ = L1 at *
      clear hrd HRD ho hj hb
      go_wp2_with fail
      obtain ⟨e0, e1, e2, e3, _⟩ := HB0.out.b4
      generalize wr.alloc (.cells #[.int .u8 kk, .int .i64 ek, .int .i64 ea, .int .i64 n] 31) = wa at *
      generalize wr.heap.size = bx at *
      clear c0 c1 c2 c3
      go_region_held3 (fun z => z.cell? ⟨bx, 1, none⟩ = some (.int .i64 ek) ∧ z.cell? ⟨bx, 2, none⟩ = some (.int .i64 ea) ∧ z.cell? ⟨bx, 3, none⟩ = some (.int .i64 n)) ((first | exact ⟨by assumption, by assumption, by assumption⟩ | go_keep)) ((first | (go_at_call 12; refine (A1.out _ (by first | exact HB0.out | exact HB0.out.later ⟨rfl, rfl, rfl, Nat.le_refl _, fun _ _ => rfl⟩)).mono ?_; rintro r w2 ⟨rfl, v2, hp2⟩; obtain ⟨y0, y1, y2, y3, _⟩ := hp2.b4) | (go_at_call 13; refine (A2.out _ v2 (by first | exact hp2 | exact hp2.later ⟨rfl, rfl, rfl, Nat.le_refl _, fun _ _ => rfl⟩)).mono ?_; rintro r w3 ⟨rfl, v3, hp3⟩; obtain ⟨x0, x1, x2, x3, _⟩ := hp3.b4) | (go_at_call 14; refine (A3.out _ v2 v3 (by first | exact hp3 | exact hp3.later ⟨rfl, rfl, rfl, Nat.le_refl _, fun _ _ => rfl⟩)).mono ?_; rintro r w4 ⟨rfl, v4, hp4⟩; obtain ⟨z0, z1, z2, z3, _⟩ := hp4.b4) | (go_at_call 15; refine (A4.out _ v4 v3 (by first | exact hp4 | exact hp4.later ⟨rfl, rfl, rfl, Nat.le_refl _, fun _ _ => rfl⟩)).mono ?_; rintro r w5 ⟨rfl, v5, hp5⟩; obtain ⟨q0, q1, q2, q3, _⟩ := hp5.b4) | (go_at_call 18; refine (A5.out _ v4 v5 (by first | exact hp5 | exact hp5.later ⟨rfl, rfl, rfl, Nat.le_refl _, fun _ _ => rfl⟩)).mono ?_; rintro r w6 ⟨rfl, hp6⟩; obtain ⟨p0, p1, p2, p3, _⟩ := hp6.b4) | (go_at_call 16; refine (A6.out _ v4 v5 (by first | exact hp6 | exact hp6.later ⟨rfl, rfl, rfl, Nat.le_refl _, fun _ _ => rfl⟩)).mono ?_; rintro r w7 ⟨rfl, hp7⟩; obtain ⟨f0, f1, f2, f3, _⟩ := hp7.b4)))
      have HP7 := hid hp7
      simp only [Exit.then]
      clear hp2 y0 y1 y2 y3 hp3 x0 x1 x2 x3 hp4 z0 z1 z2 z3 hp5 q0 q1 q2 q3 hp6 p0 p1 p2 p3 hp7 e0 e1 e2 e3
      have N4 : Hid (∀ wx, Calls Try.prog 12 #[.pointer none, .agg #[.int .i64 ek, .int .i64 ea]] wx fun r w' => r = .returned (.int .i64 (if ea < 0 then 1 else 4)) ∧ Below wx.heap.size wx w') := fun wx => append_none ⟨ek, ea⟩ wx
      have N5 : Hid (∀ wx, Calls Try.prog 14 #[.pointer none, .int .i64 n] wx fun r w' => r = .returned (.int .i64 (if n = 0 then 0 else 1)) ∧ Below wx.heap.size wx w') := fun wx => (cut_any none n _ [] wx (ip_none wx)).mono fun r w' ⟨h1, h2⟩ => ⟨by
        rw [h1]
        unfold cutC
        by_cases h : n = 0
        · rw [if_pos h, if_pos (by subst h; exact ⟨by omega, by show (0 : Int) ≤ 0; omega⟩)]
        · rw [if_neg h, if_neg (fun h3 => h (by have h4 : n ≤ 0 := h3.2; have := h3.1; omega))], by
        rcases h2 with ⟨x, v', h3, _⟩ | ⟨_, h3⟩
        · cases h3
        · exact h3⟩
      have N6 : Hid (∀ wx, Calls Try.prog 25 #[.pointer none] wx fun r w' => r = .returned (.int .i64 0) ∧ Below wx.heap.size wx w') := fun wx => len_any none _ [] wx (ip_none wx)
      have N7 : Hid (∀ wx, Calls Try.prog 20 #[.pointer none] wx fun r w' => r = .returned (.string ⟨#[]⟩) ∧ Below wx.heap.size wx w') := fun wx => ibytes_any none _ [] wx (ip_none wx) (by simp)
      have N8 : Hid (∀ wx, Calls Try.prog 17 #[.pointer none] wx fun e w' => e = .returned (.pointer none) ∧ w' = wx) := fun wx => iclone_none wx
      by_cases hea : ea < 0
      · by_cases hnz : n = 0
        · rw [if_pos hea] at N4
          rw [if_pos hnz] at N5
          subst hnz
          go_wp2_with (first | (go_at_call 24; refine (N1.out _ _).mono ?_; rintro r w8 ⟨rfl, hb8⟩; have HQ8 := hid (HP7.out.later (hb8.alloc hb8.size (.cells #[.int .i64 0, .int .i64 0] 29))); have HG8 : Hid ((w8.alloc (.cells #[.int .i64 0, .int .i64 0] 29)).heap[w8.heap.size]? = some (.cells #[.int .i64 0, .int .i64 0] 29 (0, 0))) := heap_new _ _; obtain ⟨d0, d1, d2, d3, _⟩ := (HP7.out.later hb8).b4; clear hb8) | (go_at_call 26; refine (N2.out _ _).mono ?_; rintro r w9 ⟨rfl, hb9⟩; have HQ9 := hid (HQ8.out.later (hb9.alloc hb9.size (.cells #[.int .i64 0, .int .i64 0] 29))); have HG9 : Hid ((w9.alloc (.cells #[.int .i64 0, .int .i64 0] 29)).heap[w8.heap.size]? = some (.cells #[.int .i64 0, .int .i64 0] 29 (0, 0))) := heap_alloc_at ((hb9.block _ (lt_of_heap HG8.out)).trans HG8.out); have HH9 : Hid ((w9.alloc (.cells #[.int .i64 0, .int .i64 0] 29)).heap[w9.heap.size]? = some (.cells #[.int .i64 0, .int .i64 0] 29 (0, 0))) := heap_new _ _; clear hb9) | (go_at_call 27; refine (N3.out _).mono ?_; rintro r wA ⟨rfl, hbA⟩; have HQA := hid (HQ9.out.later (hbA.alloc hbA.size (.cells #[.int .i64 0, .int .i64 0] 29))); have HGA : Hid ((wA.alloc (.cells #[.int .i64 0, .int .i64 0] 29)).heap[w8.heap.size]? = some (.cells #[.int .i64 0, .int .i64 0] 29 (0, 0))) := heap_alloc_at ((hbA.block _ (lt_of_heap HG9.out)).trans HG9.out); have HHA : Hid ((wA.alloc (.cells #[.int .i64 0, .int .i64 0] 29)).heap[w9.heap.size]? = some (.cells #[.int .i64 0, .int .i64 0] 29 (0, 0))) := heap_alloc_at ((hbA.block _ (lt_of_heap HH9.out)).trans HH9.out); have HIA : Hid ((wA.alloc (.cells #[.int .i64 0, .int .i64 0] 29)).heap[wA.heap.size]? = some (.cells #[.int .i64 0, .int .i64 0] 29 (0, 0))) := heap_new _ _; clear hbA))
          generalize wA.alloc (.cells #[.int .i64 0, .int .i64 0] 29) = W at *
          generalize w8.heap.size = g1 at *
          generalize w9.heap.size = g2 at *
          generalize wA.heap.size = g3 at *
          have CC : Hid (∀ wx, Below W.heap.size W wx → wx.cell? ⟨bx, 1, none⟩ = some (.int .i64 ek) ∧ wx.cell? ⟨bx, 2, none⟩ = some (.int .i64 ea) ∧ wx.cell? ⟨bx, 3, none⟩ = some (.int .i64 0) ∧ wx.cell? ⟨g1, 0, none⟩ = some (.int .i64 0) ∧ wx.cell? ⟨g1, 1, none⟩ = some (.int .i64 0) ∧ wx.cell? ⟨g2, 0, none⟩ = some (.int .i64 0) ∧ wx.cell? ⟨g2, 1, none⟩ = some (.int .i64 0) ∧ wx.cell? ⟨g3, 0, none⟩ = some (.int .i64 0) ∧ wx.cell? ⟨g3, 1, none⟩ = some (.int .i64 0)) := fun wx hx => by
            obtain ⟨_, x1, x2, x3, _⟩ := (HQA.out.later hx).b4
            obtain ⟨y1, y2, _⟩ := ecell3 ((hx.block _ (lt_of_heap HGA.out)).trans HGA.out)
            obtain ⟨y3, y4, _⟩ := ecell3 ((hx.block _ (lt_of_heap HHA.out)).trans HHA.out)
            obtain ⟨y5, y6, _⟩ := ecell3 ((hx.block _ (lt_of_heap HIA.out)).trans HIA.out)
            exact ⟨x1, x2, x3, y1, y2, y3, y4, y5, y6⟩
          have D4 := hid (fun wx (hx : Below W.heap.size W wx) => (N4.out wx).mono (fun e w' h => (⟨h.1, hx.trans (h.2.mono hx.size)⟩ : e = _ ∧ Below W.heap.size W w')))
          have D5 := hid (fun wx (hx : Below W.heap.size W wx) => (N5.out wx).mono (fun e w' h => (⟨h.1, hx.trans (h.2.mono hx.size)⟩ : e = _ ∧ Below W.heap.size W w')))
          have D6 := hid (fun wx (hx : Below W.heap.size W wx) => (N6.out wx).mono (fun e w' h => (⟨h.1, hx.trans (h.2.mono hx.size)⟩ : e = _ ∧ Below W.heap.size W w')))
          have D7 := hid (fun wx (hx : Below W.heap.size W wx) => (N7.out wx).mono (fun e w' h => (⟨h.1, hx.trans (h.2.mono hx.size)⟩ : e = _ ∧ Below W.heap.size W w')))
          have D8 := hid (fun wx (hx : Below W.heap.size W wx) => (N8.out wx).mono (fun e w' h => (⟨h.1, by rw [h.2]; exact hx⟩ : e = _ ∧ Below W.heap.size W w')))
          obtain ⟨m0, m1, m2, m3, m4, m5, m6, m7, m8⟩ := CC.out W (Below.refl _ _)
          go_region_held3 (fun z => z.cell? ⟨bx, 1, none⟩ = some (.int .i64 ek) ∧ z.cell? ⟨bx, 2, none⟩ = some (.int .i64 ea) ∧ z.cell? ⟨bx, 3, none⟩ = some (.int .i64 0) ∧ z.cell? ⟨g1, 0, none⟩ = some (.int .i64 0) ∧ z.cell? ⟨g1, 1, none⟩ = some (.int .i64 0) ∧ z.cell? ⟨g2, 0, none⟩ = some (.int .i64 0) ∧ z.cell? ⟨g2, 1, none⟩ = some (.int .i64 0) ∧ z.cell? ⟨g3, 0, none⟩ = some (.int .i64 0) ∧ z.cell? ⟨g3, 1, none⟩ = some (.int .i64 0)) ((first | exact ⟨by assumption, by assumption, by assumption, by assumption, by assumption, by assumption, by assumption, by assumption, by assumption⟩ | go_keep)) ((first | (go_at_call 12; refine (D4.out _ (by first | exact Below.refl _ _ | exact ⟨rfl, rfl, rfl, Nat.le_refl _, fun _ _ => rfl⟩)).mono ?_; rintro e wB ⟨rfl, hbB⟩; obtain ⟨m0, m1, m2, m3, m4, m5, m6, m7, m8⟩ := CC.out _ hbB) | (go_at_call 14; refine (D5.out _ (by first | exact hbB | exact hbB.trans ⟨rfl, rfl, rfl, Nat.le_refl _, fun _ _ => rfl⟩)).mono ?_; rintro e wC ⟨rfl, hbC⟩; obtain ⟨m0, m1, m2, m3, m4, m5, m6, m7, m8⟩ := CC.out _ hbC) | (go_at_call 25; refine (D6.out _ (by first | exact hbC | exact hbC.trans ⟨rfl, rfl, rfl, Nat.le_refl _, fun _ _ => rfl⟩)).mono ?_; rintro e wD ⟨rfl, hbD⟩; obtain ⟨m0, m1, m2, m3, m4, m5, m6, m7, m8⟩ := CC.out _ hbD) | (go_at_call 20; refine (D7.out _ (by first | exact hbD | exact hbD.trans ⟨rfl, rfl, rfl, Nat.le_refl _, fun _ _ => rfl⟩)).mono ?_; rintro e wE ⟨rfl, hbE⟩; obtain ⟨m0, m1, m2, m3, m4, m5, m6, m7, m8⟩ := CC.out _ hbE) | (go_at_call 17; refine (D8.out _ (by first | exact hbE | exact hbE.trans ⟨rfl, rfl, rfl, Nat.le_refl _, fun _ _ => rfl⟩)).mono ?_; rintro e wF ⟨rfl, hbF⟩; obtain ⟨m0, m1, m2, m3, m4, m5, m6, m7, m8⟩ := CC.out _ hbF)))
          have HQF := hid (HQA.out.later hbF)
          simp only [Exit.then]
          go_wp2_with fail
          go_roundg k'
          case measure => omega
          case rel => exact ⟨j + 1, v4, v5, L2, by have := HJ.out; omega, congrArg (Value.int .i64) (by omega), HL2.out, HO2.out, HQF.out.pt⟩
        · rw [if_pos hea] at N4
          rw [if_neg hnz] at N5
          have hnb : (n == 0) = false := by simp [hnz]
          have hnd : decide (n = 0) = false := decide_eq_false hnz
          go_wp2_with (first | (go_at_call 24; refine (N1.out _ _).mono ?_; rintro r w8 ⟨rfl, hb8⟩; have HQ8 := hid (HP7.out.later (hb8.alloc hb8.size (.cells #[.int .i64 0, .int .i64 0] 29))); have HG8 : Hid ((w8.alloc (.cells #[.int .i64 0, .int .i64 0] 29)).heap[w8.heap.size]? = some (.cells #[.int .i64 0, .int .i64 0] 29 (0, 0))) := heap_new _ _; obtain ⟨d0, d1, d2, d3, _⟩ := (HP7.out.later hb8).b4; clear hb8) | (go_at_call 26; refine (N2.out _ _).mono ?_; rintro r w9 ⟨rfl, hb9⟩; have HQ9 := hid (HQ8.out.later (hb9.alloc hb9.size (.cells #[.int .i64 0, .int .i64 0] 29))); have HG9 : Hid ((w9.alloc (.cells #[.int .i64 0, .int .i64 0] 29)).heap[w8.heap.size]? = some (.cells #[.int .i64 0, .int .i64 0] 29 (0, 0))) := heap_alloc_at ((hb9.block _ (lt_of_heap HG8.out)).trans HG8.out); have HH9 : Hid ((w9.alloc (.cells #[.int .i64 0, .int .i64 0] 29)).heap[w9.heap.size]? = some (.cells #[.int .i64 0, .int .i64 0] 29 (0, 0))) := heap_new _ _; clear hb9) | (go_at_call 27; refine (N3.out _).mono ?_; rintro r wA ⟨rfl, hbA⟩; have HQA := hid (HQ9.out.later (hbA.alloc hbA.size (.cells #[.int .i64 0, .int .i64 0] 29))); have HGA : Hid ((wA.alloc (.cells #[.int .i64 0, .int .i64 0] 29)).heap[w8.heap.size]? = some (.cells #[.int .i64 0, .int .i64 0] 29 (0, 0))) := heap_alloc_at ((hbA.block _ (lt_of_heap HG9.out)).trans HG9.out); have HHA : Hid ((wA.alloc (.cells #[.int .i64 0, .int .i64 0] 29)).heap[w9.heap.size]? = some (.cells #[.int .i64 0, .int .i64 0] 29 (0, 0))) := heap_alloc_at ((hbA.block _ (lt_of_heap HH9.out)).trans HH9.out); have HIA : Hid ((wA.alloc (.cells #[.int .i64 0, .int .i64 0] 29)).heap[wA.heap.size]? = some (.cells #[.int .i64 0, .int .i64 0] 29 (0, 0))) := heap_new _ _; clear hbA))
          generalize wA.alloc (.cells #[.int .i64 0, .int .i64 0] 29) = W at *
          generalize w8.heap.size = g1 at *
          generalize w9.heap.size = g2 at *
          generalize wA.heap.size = g3 at *
          have CC : Hid (∀ wx, Below W.heap.size W wx → wx.cell? ⟨bx, 1, none⟩ = some (.int .i64 ek) ∧ wx.cell? ⟨bx, 2, none⟩ = some (.int .i64 ea) ∧ wx.cell? ⟨bx, 3, none⟩ = some (.int .i64 n) ∧ wx.cell? ⟨g1, 0, none⟩ = some (.int .i64 0) ∧ wx.cell? ⟨g1, 1, none⟩ = some (.int .i64 0) ∧ wx.cell? ⟨g2, 0, none⟩ = some (.int .i64 0) ∧ wx.cell? ⟨g2, 1, none⟩ = some (.int .i64 0) ∧ wx.cell? ⟨g3, 0, none⟩ = some (.int .i64 0) ∧ wx.cell? ⟨g3, 1, none⟩ = some (.int .i64 0)) := fun wx hx => by
            obtain ⟨_, x1, x2, x3, _⟩ := (HQA.out.later hx).b4
            obtain ⟨y1, y2, _⟩ := ecell3 ((hx.block _ (lt_of_heap HGA.out)).trans HGA.out)
            obtain ⟨y3, y4, _⟩ := ecell3 ((hx.block _ (lt_of_heap HHA.out)).trans HHA.out)
            obtain ⟨y5, y6, _⟩ := ecell3 ((hx.block _ (lt_of_heap HIA.out)).trans HIA.out)
            exact ⟨x1, x2, x3, y1, y2, y3, y4, y5, y6⟩
          have D4 := hid (fun wx (hx : Below W.heap.size W wx) => (N4.out wx).mono (fun e w' h => (⟨h.1, hx.trans (h.2.mono hx.size)⟩ : e = _ ∧ Below W.heap.size W w')))
          have D5 := hid (fun wx (hx : Below W.heap.size W wx) => (N5.out wx).mono (fun e w' h => (⟨h.1, hx.trans (h.2.mono hx.size)⟩ : e = _ ∧ Below W.heap.size W w')))
          have D6 := hid (fun wx (hx : Below W.heap.size W wx) => (N6.out wx).mono (fun e w' h => (⟨h.1, hx.trans (h.2.mono hx.size)⟩ : e = _ ∧ Below W.heap.size W w')))
          have D7 := hid (fun wx (hx : Below W.heap.size W wx) => (N7.out wx).mono (fun e w' h => (⟨h.1, hx.trans (h.2.mono hx.size)⟩ : e = _ ∧ Below W.heap.size W w')))
          have D8 := hid (fun wx (hx : Below W.heap.size W wx) => (N8.out wx).mono (fun e w' h => (⟨h.1, by rw [h.2]; exact hx⟩ : e = _ ∧ Below W.heap.size W w')))
          obtain ⟨m0, m1, m2, m3, m4, m5, m6, m7, m8⟩ := CC.out W (Below.refl _ _)
          go_region_held3 (fun z => z.cell? ⟨bx, 1, none⟩ = some (.int .i64 ek) ∧ z.cell? ⟨bx, 2, none⟩ = some (.int .i64 ea) ∧ z.cell? ⟨bx, 3, none⟩ = some (.int .i64 n) ∧ z.cell? ⟨g1, 0, none⟩ = some (.int .i64 0) ∧ z.cell? ⟨g1, 1, none⟩ = some (.int .i64 0) ∧ z.cell? ⟨g2, 0, none⟩ = some (.int .i64 0) ∧ z.cell? ⟨g2, 1, none⟩ = some (.int .i64 0) ∧ z.cell? ⟨g3, 0, none⟩ = some (.int .i64 0) ∧ z.cell? ⟨g3, 1, none⟩ = some (.int .i64 0)) ((first | exact ⟨by assumption, by assumption, by assumption, by assumption, by assumption, by assumption, by assumption, by assumption, by assumption⟩ | go_keep)) ((first | (go_at_call 12; refine (D4.out _ (by first | exact Below.refl _ _ | exact ⟨rfl, rfl, rfl, Nat.le_refl _, fun _ _ => rfl⟩)).mono ?_; rintro e wB ⟨rfl, hbB⟩; obtain ⟨m0, m1, m2, m3, m4, m5, m6, m7, m8⟩ := CC.out _ hbB) | (go_at_call 14; refine (D5.out _ (by first | exact hbB | exact hbB.trans ⟨rfl, rfl, rfl, Nat.le_refl _, fun _ _ => rfl⟩)).mono ?_; rintro e wC ⟨rfl, hbC⟩; obtain ⟨m0, m1, m2, m3, m4, m5, m6, m7, m8⟩ := CC.out _ hbC) | (go_at_call 25; refine (D6.out _ (by first | exact hbC | exact hbC.trans ⟨rfl, rfl, rfl, Nat.le_refl _, fun _ _ => rfl⟩)).mono ?_; rintro e wD ⟨rfl, hbD⟩; obtain ⟨m0, m1, m2, m3, m4, m5, m6, m7, m8⟩ := CC.out _ hbD) | (go_at_call 20; refine (D7.out _ (by first | exact hbD | exact hbD.trans ⟨rfl, rfl, rfl, Nat.le_refl _, fun _ _ => rfl⟩)).mono ?_; rintro e wE ⟨rfl, hbE⟩; obtain ⟨m0, m1, m2, m3, m4, m5, m6, m7, m8⟩ := CC.out _ hbE) | (go_at_call 17; refine (D8.out _ (by first | exact hbE | exact hbE.trans ⟨rfl, rfl, rfl, Nat.le_refl _, fun _ _ => rfl⟩)).mono ?_; rintro e wF ⟨rfl, hbF⟩; obtain ⟨m0, m1, m2, m3, m4, m5, m6, m7, m8⟩ := CC.out _ hbF)))
          have HQF := hid (HQA.out.later hbF)
          simp only [Exit.then]
          go_wp2_with fail
          go_roundg k'
          case measure => omega
          case rel => exact ⟨j + 1, v4, v5, L2, by have := HJ.out; omega, congrArg (Value.int .i64) (by omega), HL2.out, HO2.out, HQF.out.pt⟩
      · by_cases hnz : n = 0
        · rw [if_neg hea] at N4
          rw [if_pos hnz] at N5
          subst hnz
          go_wp2_with (first | (go_at_call 24; refine (N1.out _ _).mono ?_; rintro r w8 ⟨rfl, hb8⟩; have HQ8 := hid (HP7.out.later (hb8.alloc hb8.size (.cells #[.int .i64 0, .int .i64 0] 29))); have HG8 : Hid ((w8.alloc (.cells #[.int .i64 0, .int .i64 0] 29)).heap[w8.heap.size]? = some (.cells #[.int .i64 0, .int .i64 0] 29 (0, 0))) := heap_new _ _; obtain ⟨d0, d1, d2, d3, _⟩ := (HP7.out.later hb8).b4; clear hb8) | (go_at_call 26; refine (N2.out _ _).mono ?_; rintro r w9 ⟨rfl, hb9⟩; have HQ9 := hid (HQ8.out.later (hb9.alloc hb9.size (.cells #[.int .i64 0, .int .i64 0] 29))); have HG9 : Hid ((w9.alloc (.cells #[.int .i64 0, .int .i64 0] 29)).heap[w8.heap.size]? = some (.cells #[.int .i64 0, .int .i64 0] 29 (0, 0))) := heap_alloc_at ((hb9.block _ (lt_of_heap HG8.out)).trans HG8.out); have HH9 : Hid ((w9.alloc (.cells #[.int .i64 0, .int .i64 0] 29)).heap[w9.heap.size]? = some (.cells #[.int .i64 0, .int .i64 0] 29 (0, 0))) := heap_new _ _; clear hb9) | (go_at_call 27; refine (N3.out _).mono ?_; rintro r wA ⟨rfl, hbA⟩; have HQA := hid (HQ9.out.later (hbA.alloc hbA.size (.cells #[.int .i64 0, .int .i64 0] 29))); have HGA : Hid ((wA.alloc (.cells #[.int .i64 0, .int .i64 0] 29)).heap[w8.heap.size]? = some (.cells #[.int .i64 0, .int .i64 0] 29 (0, 0))) := heap_alloc_at ((hbA.block _ (lt_of_heap HG9.out)).trans HG9.out); have HHA : Hid ((wA.alloc (.cells #[.int .i64 0, .int .i64 0] 29)).heap[w9.heap.size]? = some (.cells #[.int .i64 0, .int .i64 0] 29 (0, 0))) := heap_alloc_at ((hbA.block _ (lt_of_heap HH9.out)).trans HH9.out); have HIA : Hid ((wA.alloc (.cells #[.int .i64 0, .int .i64 0] 29)).heap[wA.heap.size]? = some (.cells #[.int .i64 0, .int .i64 0] 29 (0, 0))) := heap_new _ _; clear hbA))
          generalize wA.alloc (.cells #[.int .i64 0, .int .i64 0] 29) = W at *
          generalize w8.heap.size = g1 at *
          generalize w9.heap.size = g2 at *
          generalize wA.heap.size = g3 at *
          have CC : Hid (∀ wx, Below W.heap.size W wx → wx.cell? ⟨bx, 1, none⟩ = some (.int .i64 ek) ∧ wx.cell? ⟨bx, 2, none⟩ = some (.int .i64 ea) ∧ wx.cell? ⟨bx, 3, none⟩ = some (.int .i64 0) ∧ wx.cell? ⟨g1, 0, none⟩ = some (.int .i64 0) ∧ wx.cell? ⟨g1, 1, none⟩ = some (.int .i64 0) ∧ wx.cell? ⟨g2, 0, none⟩ = some (.int .i64 0) ∧ wx.cell? ⟨g2, 1, none⟩ = some (.int .i64 0) ∧ wx.cell? ⟨g3, 0, none⟩ = some (.int .i64 0) ∧ wx.cell? ⟨g3, 1, none⟩ = some (.int .i64 0)) := fun wx hx => by
            obtain ⟨_, x1, x2, x3, _⟩ := (HQA.out.later hx).b4
            obtain ⟨y1, y2, _⟩ := ecell3 ((hx.block _ (lt_of_heap HGA.out)).trans HGA.out)
            obtain ⟨y3, y4, _⟩ := ecell3 ((hx.block _ (lt_of_heap HHA.out)).trans HHA.out)
            obtain ⟨y5, y6, _⟩ := ecell3 ((hx.block _ (lt_of_heap HIA.out)).trans HIA.out)
            exact ⟨x1, x2, x3, y1, y2, y3, y4, y5, y6⟩
          have D4 := hid (fun wx (hx : Below W.heap.size W wx) => (N4.out wx).mono (fun e w' h => (⟨h.1, hx.trans (h.2.mono hx.size)⟩ : e = _ ∧ Below W.heap.size W w')))
          have D5 := hid (fun wx (hx : Below W.heap.size W wx) => (N5.out wx).mono (fun e w' h => (⟨h.1, hx.trans (h.2.mono hx.size)⟩ : e = _ ∧ Below W.heap.size W w')))
          have D6 := hid (fun wx (hx : Below W.heap.size W wx) => (N6.out wx).mono (fun e w' h => (⟨h.1, hx.trans (h.2.mono hx.size)⟩ : e = _ ∧ Below W.heap.size W w')))
          have D7 := hid (fun wx (hx : Below W.heap.size W wx) => (N7.out wx).mono (fun e w' h => (⟨h.1, hx.trans (h.2.mono hx.size)⟩ : e = _ ∧ Below W.heap.size W w')))
          have D8 := hid (fun wx (hx : Below W.heap.size W wx) => (N8.out wx).mono (fun e w' h => (⟨h.1, by rw [h.2]; exact hx⟩ : e = _ ∧ Below W.heap.size W w')))
          obtain ⟨m0, m1, m2, m3, m4, m5, m6, m7, m8⟩ := CC.out W (Below.refl _ _)
          go_region_held3 (fun z => z.cell? ⟨bx, 1, none⟩ = some (.int .i64 ek) ∧ z.cell? ⟨bx, 2, none⟩ = some (.int .i64 ea) ∧ z.cell? ⟨bx, 3, none⟩ = some (.int .i64 0) ∧ z.cell? ⟨g1, 0, none⟩ = some (.int .i64 0) ∧ z.cell? ⟨g1, 1, none⟩ = some (.int .i64 0) ∧ z.cell? ⟨g2, 0, none⟩ = some (.int .i64 0) ∧ z.cell? ⟨g2, 1, none⟩ = some (.int .i64 0) ∧ z.cell? ⟨g3, 0, none⟩ = some (.int .i64 0) ∧ z.cell? ⟨g3, 1, none⟩ = some (.int .i64 0)) ((first | exact ⟨by assumption, by assumption, by assumption, by assumption, by assumption, by assumption, by assumption, by assumption, by assumption⟩ | go_keep)) ((first | (go_at_call 12; refine (D4.out _ (by first | exact Below.refl _ _ | exact ⟨rfl, rfl, rfl, Nat.le_refl _, fun _ _ => rfl⟩)).mono ?_; rintro e wB ⟨rfl, hbB⟩; obtain ⟨m0, m1, m2, m3, m4, m5, m6, m7, m8⟩ := CC.out _ hbB) | (go_at_call 14; refine (D5.out _ (by first | exact hbB | exact hbB.trans ⟨rfl, rfl, rfl, Nat.le_refl _, fun _ _ => rfl⟩)).mono ?_; rintro e wC ⟨rfl, hbC⟩; obtain ⟨m0, m1, m2, m3, m4, m5, m6, m7, m8⟩ := CC.out _ hbC) | (go_at_call 25; refine (D6.out _ (by first | exact hbC | exact hbC.trans ⟨rfl, rfl, rfl, Nat.le_refl _, fun _ _ => rfl⟩)).mono ?_; rintro e wD ⟨rfl, hbD⟩; obtain ⟨m0, m1, m2, m3, m4, m5, m6, m7, m8⟩ := CC.out _ hbD) | (go_at_call 20; refine (D7.out _ (by first | exact hbD | exact hbD.trans ⟨rfl, rfl, rfl, Nat.le_refl _, fun _ _ => rfl⟩)).mono ?_; rintro e wE ⟨rfl, hbE⟩; obtain ⟨m0, m1, m2, m3, m4, m5, m6, m7, m8⟩ := CC.out _ hbE) | (go_at_call 17; refine (D8.out _ (by first | exact hbE | exact hbE.trans ⟨rfl, rfl, rfl, Nat.le_refl _, fun _ _ => rfl⟩)).mono ?_; rintro e wF ⟨rfl, hbF⟩; obtain ⟨m0, m1, m2, m3, m4, m5, m6, m7, m8⟩ := CC.out _ hbF)))
          have HQF := hid (HQA.out.later hbF)
          simp only [Exit.then]
          go_wp2_with fail
          go_roundg k'
          case measure => omega
          case rel => exact ⟨j + 1, v4, v5, L2, by have := HJ.out; omega, congrArg (Value.int .i64) (by omega), HL2.out, HO2.out, HQF.out.pt⟩
        · rw [if_neg hea] at N4
          rw [if_neg hnz] at N5
          have hnb : (n == 0) = false := by simp [hnz]
          have hnd : decide (n = 0) = false := decide_eq_false hnz
          go_wp2_with (first | (go_at_call 24; refine (N1.out _ _).mono ?_; rintro r w8 ⟨rfl, hb8⟩; have HQ8 := hid (HP7.out.later (hb8.alloc hb8.size (.cells #[.int .i64 0, .int .i64 0] 29))); have HG8 : Hid ((w8.alloc (.cells #[.int .i64 0, .int .i64 0] 29)).heap[w8.heap.size]? = some (.cells #[.int .i64 0, .int .i64 0] 29 (0, 0))) := heap_new _ _; obtain ⟨d0, d1, d2, d3, _⟩ := (HP7.out.later hb8).b4; clear hb8) | (go_at_call 26; refine (N2.out _ _).mono ?_; rintro r w9 ⟨rfl, hb9⟩; have HQ9 := hid (HQ8.out.later (hb9.alloc hb9.size (.cells #[.int .i64 0, .int .i64 0] 29))); have HG9 : Hid ((w9.alloc (.cells #[.int .i64 0, .int .i64 0] 29)).heap[w8.heap.size]? = some (.cells #[.int .i64 0, .int .i64 0] 29 (0, 0))) := heap_alloc_at ((hb9.block _ (lt_of_heap HG8.out)).trans HG8.out); have HH9 : Hid ((w9.alloc (.cells #[.int .i64 0, .int .i64 0] 29)).heap[w9.heap.size]? = some (.cells #[.int .i64 0, .int .i64 0] 29 (0, 0))) := heap_new _ _; clear hb9) | (go_at_call 27; refine (N3.out _).mono ?_; rintro r wA ⟨rfl, hbA⟩; have HQA := hid (HQ9.out.later (hbA.alloc hbA.size (.cells #[.int .i64 0, .int .i64 0] 29))); have HGA : Hid ((wA.alloc (.cells #[.int .i64 0, .int .i64 0] 29)).heap[w8.heap.size]? = some (.cells #[.int .i64 0, .int .i64 0] 29 (0, 0))) := heap_alloc_at ((hbA.block _ (lt_of_heap HG9.out)).trans HG9.out); have HHA : Hid ((wA.alloc (.cells #[.int .i64 0, .int .i64 0] 29)).heap[w9.heap.size]? = some (.cells #[.int .i64 0, .int .i64 0] 29 (0, 0))) := heap_alloc_at ((hbA.block _ (lt_of_heap HH9.out)).trans HH9.out); have HIA : Hid ((wA.alloc (.cells #[.int .i64 0, .int .i64 0] 29)).heap[wA.heap.size]? = some (.cells #[.int .i64 0, .int .i64 0] 29 (0, 0))) := heap_new _ _; clear hbA))
          generalize wA.alloc (.cells #[.int .i64 0, .int .i64 0] 29) = W at *
          generalize w8.heap.size = g1 at *
          generalize w9.heap.size = g2 at *
          generalize wA.heap.size = g3 at *
          have CC : Hid (∀ wx, Below W.heap.size W wx → wx.cell? ⟨bx, 1, none⟩ = some (.int .i64 ek) ∧ wx.cell? ⟨bx, 2, none⟩ = some (.int .i64 ea) ∧ wx.cell? ⟨bx, 3, none⟩ = some (.int .i64 n) ∧ wx.cell? ⟨g1, 0, none⟩ = some (.int .i64 0) ∧ wx.cell? ⟨g1, 1, none⟩ = some (.int .i64 0) ∧ wx.cell? ⟨g2, 0, none⟩ = some (.int .i64 0) ∧ wx.cell? ⟨g2, 1, none⟩ = some (.int .i64 0) ∧ wx.cell? ⟨g3, 0, none⟩ = some (.int .i64 0) ∧ wx.cell? ⟨g3, 1, none⟩ = some (.int .i64 0)) := fun wx hx => by
            obtain ⟨_, x1, x2, x3, _⟩ := (HQA.out.later hx).b4
            obtain ⟨y1, y2, _⟩ := ecell3 ((hx.block _ (lt_of_heap HGA.out)).trans HGA.out)
            obtain ⟨y3, y4, _⟩ := ecell3 ((hx.block _ (lt_of_heap HHA.out)).trans HHA.out)
            obtain ⟨y5, y6, _⟩ := ecell3 ((hx.block _ (lt_of_heap HIA.out)).trans HIA.out)
            exact ⟨x1, x2, x3, y1, y2, y3, y4, y5, y6⟩
          have D4 := hid (fun wx (hx : Below W.heap.size W wx) => (N4.out wx).mono (fun e w' h => (⟨h.1, hx.trans (h.2.mono hx.size)⟩ : e = _ ∧ Below W.heap.size W w')))
          have D5 := hid (fun wx (hx : Below W.heap.size W wx) => (N5.out wx).mono (fun e w' h => (⟨h.1, hx.trans (h.2.mono hx.size)⟩ : e = _ ∧ Below W.heap.size W w')))
          have D6 := hid (fun wx (hx : Below W.heap.size W wx) => (N6.out wx).mono (fun e w' h => (⟨h.1, hx.trans (h.2.mono hx.size)⟩ : e = _ ∧ Below W.heap.size W w')))
          have D7 := hid (fun wx (hx : Below W.heap.size W wx) => (N7.out wx).mono (fun e w' h => (⟨h.1, hx.trans (h.2.mono hx.size)⟩ : e = _ ∧ Below W.heap.size W w')))
          have D8 := hid (fun wx (hx : Below W.heap.size W wx) => (N8.out wx).mono (fun e w' h => (⟨h.1, by rw [h.2]; exact hx⟩ : e = _ ∧ Below W.heap.size W w')))
          obtain ⟨m0, m1, m2, m3, m4, m5, m6, m7, m8⟩ := CC.out W (Below.refl _ _)
          go_region_held3 (fun z => z.cell? ⟨bx, 1, none⟩ = some (.int .i64 ek) ∧ z.cell? ⟨bx, 2, none⟩ = some (.int .i64 ea) ∧ z.cell? ⟨bx, 3, none⟩ = some (.int .i64 n) ∧ z.cell? ⟨g1, 0, none⟩ = some (.int .i64 0) ∧ z.cell? ⟨g1, 1, none⟩ = some (.int .i64 0) ∧ z.cell? ⟨g2, 0, none⟩ = some (.int .i64 0) ∧ z.cell? ⟨g2, 1, none⟩ = some (.int .i64 0) ∧ z.cell? ⟨g3, 0, none⟩ = some (.int .i64 0) ∧ z.cell? ⟨g3, 1, none⟩ = some (.int .i64 0)) ((first | exact ⟨by assumption, by assumption, by assumption, by assumption, by assumption, by assumption, by assumption, by assumption, by assumption⟩ | go_keep)) ((first | (go_at_call 12; refine (D4.out _ (by first | exact Below.refl _ _ | exact ⟨rfl, rfl, rfl, Nat.le_refl _, fun _ _ => rfl⟩)).mono ?_; rintro e wB ⟨rfl, hbB⟩; obtain ⟨m0, m1, m2, m3, m4, m5, m6, m7, m8⟩ := CC.out _ hbB) | (go_at_call 14; refine (D5.out _ (by first | exact hbB | exact hbB.trans ⟨rfl, rfl, rfl, Nat.le_refl _, fun _ _ => rfl⟩)).mono ?_; rintro e wC ⟨rfl, hbC⟩; obtain ⟨m0, m1, m2, m3, m4, m5, m6, m7, m8⟩ := CC.out _ hbC) | (go_at_call 25; refine (D6.out _ (by first | exact hbC | exact hbC.trans ⟨rfl, rfl, rfl, Nat.le_refl _, fun _ _ => rfl⟩)).mono ?_; rintro e wD ⟨rfl, hbD⟩; obtain ⟨m0, m1, m2, m3, m4, m5, m6, m7, m8⟩ := CC.out _ hbD) | (go_at_call 20; refine (D7.out _ (by first | exact hbD | exact hbD.trans ⟨rfl, rfl, rfl, Nat.le_refl _, fun _ _ => rfl⟩)).mono ?_; rintro e wE ⟨rfl, hbE⟩; obtain ⟨m0, m1, m2, m3, m4, m5, m6, m7, m8⟩ := CC.out _ hbE) | (go_at_call 17; refine (D8.out _ (by first | exact hbE | exact hbE.trans ⟨rfl, rfl, rfl, Nat.le_refl _, fun _ _ => rfl⟩)).mono ?_; rintro e wF ⟨rfl, hbF⟩; obtain ⟨m0, m1, m2, m3, m4, m5, m6, m7, m8⟩ := CC.out _ hbF)))
          have HQF := hid (HQA.out.later hbF)
          simp only [Exit.then]
          go_wp2_with fail
          go_roundg k'
          case measure => omega
          case rel => exact ⟨j + 1, v4, v5, L2, by have := HJ.out; omega, congrArg (Value.int .i64) (by omega), HL2.out, HO2.out, HQF.out.pt⟩
    · have hltI : ¬ (j : Int) < M := by omega
      have HBE := hid (HBw.out _ HP.out.bel)
      go_wp2_with fail
      go_ret
      exact ⟨rfl, HBE.out⟩
end Go.Proofs.Ytmhmohkeekmmgaa
