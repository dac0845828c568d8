/- TimeidxPlays: its walk. -/
import Derived.Test.YtmhmohkeekmmgaaTOp
namespace Go.Proofs.Ytmhmohkeekmmgaa
open Go.RowKit
theorem Pt.swap {w wr w' : World} {B x x1 y : Nat} {v v1 v' : Value} {l : List En} (h : Pt w wr B x y v v' l l) (hi : Io w' wr.heap.size x1 v1 l) (hb : Below wr.heap.size wr w') : Pt w w' B x1 y v1 v' l l := by
  refine ⟨hi.ix, h.iy.below hb, fun g hg hg' => ?_, ?_, h.bel.trans (hb.mono h.le), Nat.le_trans h.le hb.size⟩
  · have := hi.at1 g hg
    have := h.iy.lt g (Or.inr hg')
    omega
  · have hle := h.le
    rintro i ((rfl | hi') | hi')
    · have := hi.at0; omega
    · have := hi.at1 i hi'; omega
    · exact h.lo _ (Or.inr hi')
theorem mem_addE {l : List En} {e y : En} (h : y ∈ addE l e) : y ∈ l ∨ y = e := by
  unfold addE at h
  split at h
  · rcases List.mem_append.1 h with h | h
    · exact Or.inl h
    · rw [List.mem_singleton] at h; exact Or.inr h
  · exact Or.inl h
theorem mem_cutE {l : List En} {n : Int} {y : En} (h : y ∈ cutE l n) : y ∈ l := by
  unfold cutE at h
  split at h
  · exact List.mem_of_mem_take h
  · exact h
set_option maxRecDepth 20000 in
set_option maxHeartbeats 4000000 in
theorem plays_walk (os : List Op4) (a : Option Addr) (cap : Nat) (w : World) (hv : Ops w a os) (hn : os.length ≤ 4398046511104) (hok : ∀ o ∈ os, OpOk o) :
    Calls Try.prog 3 #[.slice a os.length cap] w fun e w' => e = .returned (.bool true) ∧ Below w.heap.size w w' := by
  have HF := hid (finds_any w)
  have HV := hid hv
  have HOK : Hid (∀ j, j < os.length → OpOk (os.getD j op0)) := fun j hj => hok _ (by rw [List.getD_eq_getElem?_getD, List.getElem?_eq_getElem hj]; exact List.getElem_mem _)
  obtain ⟨M, hM⟩ : ∃ M, M = os.length := ⟨_, rfl⟩
  have HM := hid hM
  rw [← hM] at hn HOK ⊢
  clear hv hM hok
  go_enter Try.func3, Try.ntmps3
  go_wp2_with (first | (go_at_call 9; refine HF.out.mono ?_; rintro e w1 ⟨rfl, hb1⟩; have HB1 := hid hb1; have HS := hid (Pt.start w1); clear hb1) | (go_at_call 10; refine (new_any _).mono ?_; rintro e w' ⟨rfl, rfl⟩) | (go_at_call 11; refine (rnew_any _).mono ?_; rintro e w' ⟨rfl, rfl⟩))
  have HBw : Hid (∀ wx, Below w1.heap.size w1 wx → Below w.heap.size w wx) := fun wx hx => HB1.out.trans (hx.mono HB1.out.size)
  generalize hX : w1.heap.size = X at *
  clear hX HF HB1
  go_loopg [3, 16] M (fun k vx vi wr => ∃ (j x : Nat) (v v' : Value) (L : List En), j + k = M ∧ vi = .int .i64 j ∧ vx = .pointer (some ⟨x, 0, none⟩) ∧ L.length ≤ j ∧ Hid (Ord L) ∧ Hid (∀ e ∈ L, EnOk e) ∧ Hid (Pt w1 wr X x (X + 1) v v' L L))
  case atStart => exact ⟨0, X, _, _, [], by omega, rfl, rfl, Nat.le_refl _, Ord.nil, (fun _ h => by cases h), HS.out⟩
  case round =>
    clear HS
    obtain ⟨j, x, v, v', L, hj, rfl, rfl, hl, HOd, HOk, HP⟩ := hrel
    by_cases hlt : j < M
    · obtain ⟨k', rfl⟩ : ∃ k', gk = k' + 1 := ⟨gk - 1, by omega⟩
      have hltI : (j : Int) < M := by omega
      obtain ⟨b, off, rfl, hb, hrd⟩ := HV.out.read (j := j) (by rw [← HM.out]; exact hlt)
      have HRD := hid hrd
      have HOo := hid (HOK.out j hlt)
      obtain ⟨kk, ⟨ek, ea⟩, n, ho⟩ : ∃ k e n, os.getD j op0 = ⟨k, e, n⟩ := ⟨_, _, _, rfl⟩
      rw [ho] at HOo
      obtain ⟨kn, hkn⟩ : ∃ kn : Nat, kk = kn := ⟨kk.toNat, by have := HOo.out.2.1; show kk = _; have : 0 ≤ kk := this; omega⟩
      subst hkn
      obtain ⟨c0, c1, c2, c3⟩ := HRD.out wr (HBw.out wr HP.out.bel) kn ek ea n ho
      have HJ := hid hj
      have HB0 : Hid (Pb w1 (wr.alloc (.cells #[.int .u8 (kn : Int), .int .i64 ek, .int .i64 ea, .int .i64 n] 31)) X x (X + 1) wr.heap.size kn ek ea n v v' L L) := ⟨HP.out.later ((Below.refl _ _).alloc (Nat.le_refl _) _), heap_new _ _⟩
      have hlb : L.length ≤ 4398046511104 := by omega
      have HAg : Hid (∀ wx, Pb w1 wx X x (X + 1) wr.heap.size kn ek ea n v v' L L → Calls Try.prog 18 #[.pointer (some ⟨x, 0, none⟩), .pointer (some ⟨X + 1, 0, none⟩)] wx fun r w' => r = .returned (.bool true) ∧ Pb w1 w' X x (X + 1) wr.heap.size kn ek ea n v v' L L) := fun wx h => pb_agree h (by omega)
      clear hrd HRD ho hj hb
      rcases (by omega : kn % 5 = 0 ∨ kn % 5 = 1 ∨ kn % 5 = 2 ∨ kn % 5 = 3 ∨ kn % 5 = 4) with hm | hm | hm | hm | hm
      · have hmI : (kn : Int) % 5 = 0 := by omega
        clear hm
        have HL1 : Hid ((addE L ⟨ek, ea⟩).length ≤ j + 1) := by have := addE_len9 L ⟨ek, ea⟩; show _ ≤ _; omega
        have HO1 : Hid (Ord (addE L ⟨ek, ea⟩)) := HOd.out.add _
        have HK1 : Hid (∀ y ∈ addE L ⟨ek, ea⟩, EnOk y) := fun y hy => by rcases mem_addE hy with h | h; exact HOk.out y h; rw [h]; exact HOo.out.1
        have HA1 : Hid (∀ wx, Pb w1 wx X x (X + 1) wr.heap.size kn ek ea n v v' L L → Calls Try.prog 12 #[.pointer (some ⟨x, 0, none⟩), .agg #[.int .i64 ek, .int .i64 ea]] wx fun r w' => r = .returned (.int .i64 (addC L ⟨ek, ea⟩)) ∧ ∃ v1, Pb w1 w' X x (X + 1) wr.heap.size kn ek ea n v1 v' (addE L ⟨ek, ea⟩) L) := fun wx h => pb_app ⟨ek, ea⟩ h (by omega)
        have HA2 : Hid (∀ wx v1, Pb w1 wx X x (X + 1) wr.heap.size kn ek ea n v1 v' (addE L ⟨ek, ea⟩) L → Calls Try.prog 13 #[.pointer (some ⟨X + 1, 0, none⟩), .agg #[.int .i64 ek, .int .i64 ea]] wx fun r w' => r = .returned (.int .i64 (addC L ⟨ek, ea⟩)) ∧ ∃ v1', Pb w1 w' X x (X + 1) wr.heap.size kn ek ea n v1 v1' (addE L ⟨ek, ea⟩) (addE L ⟨ek, ea⟩)) := fun wx v1 h => pb_rapp ⟨ek, ea⟩ h (by omega)
        have HA3 : Hid (∀ wx v1 v1', Pb w1 wx X x (X + 1) wr.heap.size kn ek ea n v1 v1' (addE L ⟨ek, ea⟩) (addE L ⟨ek, ea⟩) → Calls Try.prog 18 #[.pointer (some ⟨x, 0, none⟩), .pointer (some ⟨X + 1, 0, none⟩)] wx fun r w' => r = .returned (.bool true) ∧ Pb w1 w' X x (X + 1) wr.heap.size kn ek ea n v1 v1' (addE L ⟨ek, ea⟩) (addE L ⟨ek, ea⟩)) := fun wx v1 v1' h => pb_agree h (by have := HL1.out; omega)
        generalize addC L ⟨ek, ea⟩ = c at *
        generalize addE L ⟨ek, ea⟩ = L1 at *
        go_wp2_with fail
        obtain ⟨e0, e1, e2, e3, _⟩ := HB0.out.b4
        generalize wr.alloc (.cells #[.int .u8 (kn : Int), .int .i64 ek, .int .i64 ea, .int .i64 n] 31) = wa at *
        generalize wr.heap.size = bx at *
        go_region_held3 (fun z => z.cell? ⟨bx, 1, none⟩ = some (.int .i64 ek) ∧ z.cell? ⟨bx, 2, none⟩ = some (.int .i64 ea) ∧ z.cell? ⟨bx, 3, none⟩ = some (.int .i64 n)) ((first | exact ⟨by assumption, by assumption, by assumption⟩ | go_keep)) ((first | (go_at_call 12; refine (HA1.out _ (by first | exact HB0.out | exact HB0.out.later ⟨rfl, rfl, rfl, Nat.le_refl _, fun _ _ => rfl⟩)).mono ?_; rintro r w2 ⟨rfl, v2, hp2⟩; obtain ⟨y0, y1, y2, y3, _⟩ := hp2.b4) | (go_at_call 13; refine (HA2.out _ v2 (by first | exact hp2 | exact hp2.later ⟨rfl, rfl, rfl, Nat.le_refl _, fun _ _ => rfl⟩)).mono ?_; rintro r w3 ⟨rfl, v3, hp3⟩; obtain ⟨x0, x1, x2, x3, _⟩ := hp3.b4)))
        have HP3 := hid hp3
        simp only [Exit.then]
        clear hp2 y0 y1 y2 y3 hp3 x0 x1 x2 x3
        go_wp2_with (go_at_call 18; refine (HA3.out _ _ _ HP3.out).mono ?_; rintro r w4 ⟨rfl, hp4⟩; have HP4 := hid hp4; clear hp4)
        go_roundg k'
        case measure => omega
        case rel => exact ⟨j + 1, x, v2, v3, L1, by have := HJ.out; omega, congrArg (Value.int .i64) (by omega), rfl, HL1.out, HO1.out, HK1.out, HP4.out.pt⟩
      · have hmI : (kn : Int) % 5 = 1 := by omega
        clear hm
        have HL1 : Hid ((cutE L n).length ≤ j + 1) := by have := cutE_len L n; show _ ≤ _; omega
        have HO1 : Hid (Ord (cutE L n)) := HOd.out.cut _
        have HK1 : Hid (∀ y ∈ cutE L n, EnOk y) := fun y hy => HOk.out y (mem_cutE hy)
        have HA1 : Hid (∀ wx, Pb w1 wx X x (X + 1) wr.heap.size kn ek ea n v v' L L → Calls Try.prog 14 #[.pointer (some ⟨x, 0, none⟩), .int .i64 n] wx fun r w' => r = .returned (.int .i64 (cutC L n)) ∧ ∃ v1, Pb w1 w' X x (X + 1) wr.heap.size kn ek ea n v1 v' (cutE L n) L) := fun wx h => pb_cut n h
        have HA2 : Hid (∀ wx v1, Pb w1 wx X x (X + 1) wr.heap.size kn ek ea n v1 v' (cutE L n) L → Calls Try.prog 15 #[.pointer (some ⟨X + 1, 0, none⟩), .int .i64 n] wx fun r w' => r = .returned (.int .i64 (cutC L n)) ∧ ∃ v1', Pb w1 w' X x (X + 1) wr.heap.size kn ek ea n v1 v1' (cutE L n) (cutE L n)) := fun wx v1 h => pb_rcut n h (by omega)
        have HA3 : Hid (∀ wx v1 v1', Pb w1 wx X x (X + 1) wr.heap.size kn ek ea n v1 v1' (cutE L n) (cutE L n) → Calls Try.prog 18 #[.pointer (some ⟨x, 0, none⟩), .pointer (some ⟨X + 1, 0, none⟩)] wx fun r w' => r = .returned (.bool true) ∧ Pb w1 w' X x (X + 1) wr.heap.size kn ek ea n v1 v1' (cutE L n) (cutE L n)) := fun wx v1 v1' h => pb_agree h (by have := HL1.out; omega)
        generalize cutC L n = c at *
        generalize cutE L n = L1 at *
        go_wp2_with fail
        obtain ⟨e0, e1, e2, e3, _⟩ := HB0.out.b4
        generalize wr.alloc (.cells #[.int .u8 (kn : Int), .int .i64 ek, .int .i64 ea, .int .i64 n] 31) = wa at *
        generalize wr.heap.size = bx at *
        go_region_held3 (fun z => z.cell? ⟨bx, 1, none⟩ = some (.int .i64 ek) ∧ z.cell? ⟨bx, 2, none⟩ = some (.int .i64 ea) ∧ z.cell? ⟨bx, 3, none⟩ = some (.int .i64 n)) ((first | exact ⟨by assumption, by assumption, by assumption⟩ | go_keep)) ((first | (go_at_call 14; refine (HA1.out _ (by first | exact HB0.out | exact HB0.out.later ⟨rfl, rfl, rfl, Nat.le_refl _, fun _ _ => rfl⟩)).mono ?_; rintro r w2 ⟨rfl, v2, hp2⟩; obtain ⟨y0, y1, y2, y3, _⟩ := hp2.b4) | (go_at_call 15; refine (HA2.out _ v2 (by first | exact hp2 | exact hp2.later ⟨rfl, rfl, rfl, Nat.le_refl _, fun _ _ => rfl⟩)).mono ?_; rintro r w3 ⟨rfl, v3, hp3⟩; obtain ⟨x0, x1, x2, x3, _⟩ := hp3.b4)))
        have HP3 := hid hp3
        simp only [Exit.then]
        clear hp2 y0 y1 y2 y3 hp3 x0 x1 x2 x3
        go_wp2_with (go_at_call 18; refine (HA3.out _ _ _ HP3.out).mono ?_; rintro r w4 ⟨rfl, hp4⟩; have HP4 := hid hp4; clear hp4)
        go_roundg k'
        case measure => omega
        case rel => exact ⟨j + 1, x, v2, v3, L1, by have := HJ.out; omega, congrArg (Value.int .i64) (by omega), rfl, HL1.out, HO1.out, HK1.out, HP4.out.pt⟩
      · have hmI : (kn : Int) % 5 = 2 := by omega
        clear hm
        have HA1 : Hid (∀ wx, Pb w1 wx X x (X + 1) wr.heap.size kn ek ea n v v' L L → Calls Try.prog 16 #[.pointer (some ⟨x, 0, none⟩), .pointer (some ⟨X + 1, 0, none⟩), .int .i64 ek] wx fun r w' => r = .returned (.bool true) ∧ Pb w1 w' X x (X + 1) wr.heap.size kn ek ea n v v' L L) := fun wx h => pb_found ek h HOd.out (by omega)
        go_wp2_with (first | (go_at_call 16; refine (HA1.out _ HB0.out).mono ?_; rintro r w3 ⟨rfl, hp3⟩; have HP3 := hid hp3; clear hp3) | (go_at_call 18; refine (HAg.out _ HP3.out).mono ?_; rintro r w4 ⟨rfl, hp4⟩; have HP4 := hid hp4; clear hp4))
        go_roundg k'
        case measure => omega
        case rel => exact ⟨j + 1, x, v, v', L, by have := HJ.out; omega, congrArg (Value.int .i64) (by omega), rfl, by omega, HOd.out, HOk.out, HP4.out.pt⟩
      · have hmI : (kn : Int) % 5 = 3 := by omega
        clear hm
        have HCl : Hid (∀ wx, Pb w1 wx X x (X + 1) wr.heap.size kn ek ea n v v' L L → Calls Try.prog 17 #[.pointer (some ⟨x, 0, none⟩)] wx fun e w' => ∃ x' v1, e = .returned (.pointer (some ⟨x', 0, none⟩)) ∧ Io w' wx.heap.size x' v1 L ∧ Pb w1 w' X x (X + 1) wr.heap.size kn ek ea n v v' L L ∧ wx.heap.size ≤ w'.heap.size ∧ Below wx.heap.size wx w') := fun wx h => (iclone_any x v L wx h.pt.ix (by omega)).mono fun e w' ⟨⟨x', v1, h1, h2⟩, h3⟩ => ⟨x', v1, h1, h2, h.later h3, h3.size, h3⟩
        have HCa : Hid (∀ wx B x' v1, B ≤ wx.heap.size → Io wx B x' v1 L → Pb w1 wx X x (X + 1) wr.heap.size kn ek ea n v v' L L → Calls Try.prog 18 #[.pointer (some ⟨x', 0, none⟩), .pointer (some ⟨X + 1, 0, none⟩)] wx fun e w' => e = .returned (.bool true) ∧ Io w' B x' v1 L ∧ B ≤ w'.heap.size ∧ Below wx.heap.size wx w') := fun wx B x' v1 hB h1 h2 => (agree_yes x' (X + 1) v1 v' L wx h1.ix h2.pt.iy (by omega)).mono fun e w' ⟨h3, h4⟩ => ⟨h3, h1.below h4, Nat.le_trans hB h4.size, h4⟩
        have HCc : Hid (∀ wx B x' v1, B ≤ wx.heap.size → Io wx B x' v1 L → Calls Try.prog 14 #[.pointer (some ⟨x', 0, none⟩), .int .i64 0] wx fun e w' => ∃ c v2, e = .returned (.int .i64 c) ∧ Io w' B x' v2 (cutE L 0) ∧ B ≤ w'.heap.size ∧ Below B wx w') := fun wx B x' v1 hB h1 => (cut_any _ 0 v1 L wx h1.ip).mono fun e w' ⟨h2, h3⟩ => by
          obtain ⟨v2, h4, h5⟩ := h1.left hB h3
          exact ⟨_, v2, h2, h4, Nat.le_trans hB h5.size, h5⟩
        have HCp : Hid (∀ wx B x' v1, B ≤ wx.heap.size → Io wx B x' v1 (cutE L 0) → Calls Try.prog 12 #[.pointer (some ⟨x', 0, none⟩), .agg #[.int .i64 99, .int .i64 99]] wx fun e w' => (∃ c, e = .returned (.int .i64 c)) ∧ Below B wx w') := fun wx B x' v1 hB h1 => (append_any x' ⟨99, 99⟩ v1 _ wx h1.ix (by have := cutE_len L 0; omega)).mono fun e w' ⟨h2, v2, h3, h4, h5⟩ => ⟨⟨_, h2⟩, (h1.ch hB h3 h4 h5).2⟩
        go_wp2_with (first | (go_at_call 17; refine (HCl.out _ HB0.out).mono ?_; rintro r w3 ⟨x', v3, rfl, hi3, hp3, hs3, hb3⟩; have HI3 := hid hi3; have HP3 := hid hp3; have HS3 := hid hs3; have HB3 := hid hb3; clear hi3 hp3 hs3 hb3) | (go_at_call 18; (with_reducible refine (HCa.out _ _ _ _ HS3.out HI3.out HP3.out).mono ?_); rintro r w4 ⟨rfl, hi4, hs4, hb4⟩; have HI4 := hid hi4; have HS4 := hid hs4; have HB4 := hid (HB3.out.trans (hb4.mono HS3.out)); clear hi4 hs4 hb4) | (go_at_call 14; refine (HCc.out _ _ _ _ HS4.out HI4.out).mono ?_; rintro r w5 ⟨c5, v5, rfl, hi5, hs5, hb5⟩; have HI5 := hid hi5; have HS5 := hid hs5; have HB5 := hid (HB4.out.trans hb5); clear hi5 hs5 hb5) | (go_at_call 12; refine (HCp.out _ _ _ _ HS5.out HI5.out).mono ?_; rintro r w6 ⟨⟨c6, rfl⟩, hb6⟩; have HP6 := hid (HB0.out.later (HB5.out.trans hb6)); clear hb6) | (go_at_call 18; (with_reducible refine (HAg.out _ HP6.out).mono ?_); rintro r w7 ⟨rfl, hp7⟩; have HP7 := hid hp7; clear hp7))
        go_roundg k'
        case measure => omega
        case rel => exact ⟨j + 1, x, v, v', L, by have := HJ.out; omega, congrArg (Value.int .i64) (by omega), rfl, by omega, HOd.out, HOk.out, HP7.out.pt⟩
      · have hmI : (kn : Int) % 5 = 4 := by omega
        clear hm
        have HBy : Hid (∀ wx, Pb w1 wx X x (X + 1) wr.heap.size kn ek ea n v v' L L → Calls Try.prog 20 #[.pointer (some ⟨x, 0, none⟩)] wx fun e w' => e = .returned (.string (bs (eby L))) ∧ Pb w1 w' X x (X + 1) wr.heap.size kn ek ea n v v' L L) := fun wx h => (ibytes_any _ v L wx h.pt.ip (by omega)).mono fun e w' ⟨h1, h2⟩ => ⟨h1, h.later h2⟩
        have HRd : Hid (∀ wx, Pb w1 wx X x (X + 1) wr.heap.size kn ek ea n v v' L L → Calls Try.prog 19 #[.string (bs (eby L))] wx fun e w' => ∃ x1 v1, e = .returned (.tuple #[.pointer (some ⟨x1, 0, none⟩), .int .i64 0]) ∧ Pb w1 w' X x1 (X + 1) wr.heap.size kn ek ea n v1 v' L L) := fun wx h => by
          have hz : (bs (eby L)).size = L.length * 16 := by rw [bs_size, eby_len]
          have h1 := load_ok (bs (eby L)) wx (by omega) (by omega)
          rw [bl_bs _ (eby_byte _), rdE_eby L HOk.out] at h1
          refine h1.mono fun e w' ⟨h2, h3⟩ => ?_
          rcases h2 with ⟨_, x1, v1, h4, h5⟩ | ⟨h4, _⟩
          · exact ⟨x1, v1, h4, h.pt.swap h5 h3, (h3.block _ (lt_of_heap h.bo)).trans h.bo⟩
          · rw [ord_all HOd.out] at h4; rcases h4 with h4 | h4 <;> cases h4
        have HAy : Hid (∀ wx x1 v1, Pb w1 wx X x1 (X + 1) wr.heap.size kn ek ea n v1 v' L L → Calls Try.prog 18 #[.pointer (some ⟨x1, 0, none⟩), .pointer (some ⟨X + 1, 0, none⟩)] wx fun r w' => r = .returned (.bool true) ∧ Pb w1 w' X x1 (X + 1) wr.heap.size kn ek ea n v1 v' L L) := fun wx x1 v1 h => pb_agree h (by omega)
        generalize bs (eby L) = S at *
        go_wp2_with (first | (go_at_call 20; refine (HBy.out _ HB0.out).mono ?_; rintro r w3 ⟨rfl, hp3⟩; have HP3 := hid hp3; clear hp3) | (go_at_call 19; refine (HRd.out _ HP3.out).mono ?_; rintro r w4 ⟨x4, v4, rfl, hp4⟩; have HP4 := hid hp4; clear hp4) | (go_at_call 18; (with_reducible refine (HAy.out _ _ _ HP4.out).mono ?_); rintro r w5 ⟨rfl, hp5⟩; have HP5 := hid hp5; clear hp5) | (go_at_call 18; (with_reducible refine (HAy.out _ _ _ HP5.out).mono ?_); rintro r w6 ⟨rfl, hp6⟩; have HP6 := hid hp6; clear hp6))
        go_roundg k'
        case measure => omega
        case rel => exact ⟨j + 1, x4, v4, v', L, by have := HJ.out; omega, congrArg (Value.int .i64) (by omega), rfl, by omega, HOd.out, HOk.out, HP6.out.pt⟩
    · have hltI : ¬ (j : Int) < M := by omega
      have HBE := hid (HBw.out _ HP.out.bel)
      go_wp2_with fail
      go_ret
      exact ⟨rfl, HBE.out⟩
end Go.Proofs.Ytmhmohkeekmmgaa
