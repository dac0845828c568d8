/- DiskNone: a nil disk and the zero Disk. -/
import Derived.Test.YtclelafnjfhdjaaDnl
import Derived.Test.YtclelafnjfhdjaaCln0
namespace Go.Proofs.Ytclelafnjfhdjaa
open Go.RowKit
/-- Both disks under way, and the call's struct in a block of its own. -/
def PN (w0 : World) (H F : Nat) (o : Op5) (w : World) (a b : Nat) (cl cb : Int) (V : Vw) (cl' cb' : Int) (V' : Vw) : Prop := Two w0 H w a b 0 cl cb V cl' cb' V' ∧ w.heap[F]? = some (.cells #[.int .i64 o.k, .string o.nm, .int .i64 o.a, .int .i64 o.b, .string o.s] 31 (0, 0))
section
variable {w0 : World} {H F : Nat} {o : Op5} {w w' : World} {a b : Nat} {cl cb : Int} {V : Vw} {cl' cb' : Int} {V' : Vw}
theorem PN.kept (h : PN w0 H F o w a b cl cb V cl' cb' V') (hb : Below w.heap.size w w') : PN w0 H F o w' a b cl cb V cl' cb' V' := ⟨h.1.kept hb, (hb.block F (lt_of_heap h.2)).trans h.2⟩
theorem PN.done1 (h : PN w0 H F o w a b cl cb V cl' cb' V') (hn : o.nm.size ≤ maxLen) (ha : o.a ≤ 9223372036854775807) : Calls Try.prog 14 #[facV a, opV o] w fun e w' => e = .returned (.tuple #[.string (dnS o V), .int .i64 (dnN o 0 V), .int .i64 (dnE o 0 V)]) ∧ PN w0 H F o w' a b (dnC o V cl) (dnB o V cb) (dnV o 0 V) cl' cb' V' :=
  h.1.first (fun fa hd => done_any a fa 0 cl cb V o hn ha w hd) (fun w' k1 k2 => ⟨rfl, k1, k2 F _ _ _ h.2 (by decide) (by decide) (by decide)⟩)
theorem PN.swap (h : PN w0 H F o w a b cl cb V cl' cb' V') : PN w0 H F o w b a cl' cb' V' cl cb V := ⟨h.1.swap, h.2⟩
theorem PN.ys (h : PN w0 H F o w a b cl cb V cl' cb' V') : w.cell? ⟨F, 0, none⟩ = some (.int .i64 o.k) ∧ w.cell? ⟨F, 1, none⟩ = some (.string o.nm) ∧ w.cell? ⟨F, 2, none⟩ = some (.int .i64 o.a) ∧ w.cell? ⟨F, 3, none⟩ = some (.int .i64 o.b) ∧ w.cell? ⟨F, 4, none⟩ = some (.string o.s) :=
  ⟨(cell_of h.2).trans rfl, (cell_of h.2).trans rfl, (cell_of h.2).trans rfl, (cell_of h.2).trans rfl, (cell_of h.2).trans rfl⟩
theorem Two.vt0 (h : Two w0 H w a b 0 cl cb V cl' cb' V') : vt V = 0 := by
  obtain ⟨fa, fb, ⟨m, fs, hd, rfl, _⟩, _⟩ := h
  have := hd.rom.1
  rw [vt_vw]
  omega
end
theorem PN.done2 {w0 : World} {H F : Nat} {kd : Int} {nm : ByteArray} {A B : Int} {S : ByteArray} {w : World} {a b : Nat} {cl cb : Int} {V : Vw} {cl' cb' : Int} {V' : Vw} (h : PN w0 H F ⟨kd, nm, A, B, S⟩ w a b cl cb V cl' cb' V') (hn : nm.size ≤ maxLen) (ha : A ≤ 9223372036854775807) :
    Calls Try.prog 14 #[.iface 24 (.pointer (some ⟨a, 0, none⟩)), .agg #[.int .i64 kd, .string nm, .int .i64 A, .int .i64 B, .string S]] w fun e w' => e = .returned (.tuple #[.string (dnS ⟨kd, nm, A, B, S⟩ V), .int .i64 (dnN ⟨kd, nm, A, B, S⟩ 0 V), .int .i64 (dnE ⟨kd, nm, A, B, S⟩ 0 V)]) ∧ PN w0 H F ⟨kd, nm, A, B, S⟩ w' a b (dnC ⟨kd, nm, A, B, S⟩ V cl) (dnB ⟨kd, nm, A, B, S⟩ V cb) (dnV ⟨kd, nm, A, B, S⟩ 0 V) cl' cb' V' := h.done1 hn ha
theorem s_room_two {w0 : World} {H : Nat} {w : World} {a b : Nat} {rm : Nat} {cl cb : Int} {V : Vw} {cl' cb' : Int} {V' : Vw} (h : Two w0 H w a b rm cl cb V cl' cb' V') : Calls Try.prog 21 #[.pointer (some ⟨a, 0, none⟩)] w fun e w' => e = .returned (.int .i64 rm) ∧ ∃ k, w' = w.drewN k := by
  obtain ⟨fa, fb, h1, _⟩ := h
  exact s_room a fa rm cl cb V w h1
/-- The error that a nil disk answers. -/
theorem dn0_eq (o : Op5) : dnN0 o = if o.k = 1 then (if 1 ≤ o.nm.size ∧ o.nm.size ≤ 255 then 2 else 3) else 4 := rfl
set_option maxHeartbeats 8000000 in
set_option maxRecDepth 20000 in
theorem none_walk (a : Option Addr) (cap : Nat) (os : List Op5) (w : World) (hl : os.length ≤ 9223372036854775807) (hz : ∀ o ∈ os, OpOk o) (V : Scr w a os) :
    Calls Try.prog 6 #[.slice a os.length cap] w fun e w' => e = .returned (.bool true) ∧ Below w.heap.size w w' := by
  have HV := hid V
  have HZ := hid hz
  clear V hz
  have HFX := hid (fixed_any w)
  generalize hN : os.length = N at *
  have HN := hid hN
  clear hN
  go_enter Try.func6, Try.ntmps6
  go_wp2_with (first | (go_at_call 7; refine HFX.out.mono ?_; rintro e w1 ⟨rfl, hb1⟩; have HB1 := hid hb1; clear hb1) | (go_at_call 8; refine (new_any _ _).mono ?_; rintro e w' ⟨rfl, rfl⟩))
  have hT0 := Two.new w1 0 w.heap.size w HB1.out HB1.out.size
  have c00 : clamp 0 = 0 := by unfold clamp; omega
  rw [c00] at hT0 ⊢
  have HT0 := hid hT0
  clear hT0 HFX c00
  show Code.wp _ _ _ _ ((w1.alloc (.cells #[.int .i64 ((0 : Nat) : Int), .int .i64 0, .map none, .int .i64 0, .int .i64 0] 48)).alloc (.cells #[.int .i64 ((0 : Nat) : Int), .int .i64 0, .map none, .int .i64 0, .int .i64 0] 48))
  generalize (w1.alloc (.cells #[.int .i64 ((0 : Nat) : Int), .int .i64 0, .map none, .int .i64 0, .int .i64 0] 48)).alloc (.cells #[.int .i64 ((0 : Nat) : Int), .int .i64 0, .map none, .int .i64 0, .int .i64 0] 48) = w3 at *
  generalize w1.heap.size = da at *
  generalize da + 1 = db at *
  go_loopg [6] N (fun k i wr => ∃ (j : Nat) (cl cb : Int) (V : Vw), j + k = N ∧ i = .int .i64 j ∧ Hid (Two w w.heap.size wr da db 0 cl cb V cl cb V) ∧ Hid (V.length ≤ 65536))
  case atStart => exact ⟨0, 0, 0, [], by omega, rfl, HT0, by show _ ≤ _; simp⟩
  case round =>
    clear HT0
    obtain ⟨j, cl, cb, V, hk, rfl, HT, HVL⟩ := hrel
    by_cases hlt : j < N
    · obtain ⟨k, rfl⟩ : ∃ k, gk = k + 1 := ⟨gk - 1, by omega⟩
      rcases HV.out with rfl | ⟨b, off, rfl, hbl, hc⟩
      · exact absurd hlt (by rw [← HN.out]; simp)
      obtain ⟨q0, q1, q2, q3, q4⟩ := hc j (by rw [HN.out]; exact hlt)
      have hK := HZ.out _ (scr_mem (by rw [HN.out]; exact hlt))
      generalize os.getD j o0 = o at *
      have hbw := HT.out.below
      have k0 := (hbw.cell (p := ⟨b, off + j * 5, none⟩) hbl).trans q0
      have k1 := (hbw.cell (p := ⟨b, off + j * 5 + 1, none⟩) hbl).trans q1
      have k2 := (hbw.cell (p := ⟨b, off + j * 5 + 2, none⟩) hbl).trans q2
      have k3 := (hbw.cell (p := ⟨b, off + j * 5 + 3, none⟩) hbl).trans q3
      have k4 := (hbw.cell (p := ⟨b, off + j * 5 + 4, none⟩) hbl).trans q4
      have hltI : (j : Int) < N := by omega
      have hltD : decide ((j : Int) < N) = true := by simp; omega
      have EW : Hid (wrap64 ((j : Int) + 1) = ((j + 1 : Nat) : Int)) := by show _ = _; unfold wrap64; omega
      have HP0 : Hid (PN w w.heap.size wr.heap.size o (wr.alloc (.cells #[.int .i64 o.k, .string o.nm, .int .i64 o.a, .int .i64 o.b, .string o.s] 31)) da db cl cb V cl cb V) := ⟨HT.out.kept (bel_alloc wr _), heap_new _ _⟩
      obtain ⟨wo, hwo⟩ : ∃ wo, wo = wr.alloc (.cells #[.int .i64 o.k, .string o.nm, .int .i64 o.a, .int .i64 o.b, .string o.s] 31) := ⟨_, rfl⟩
      rw [← hwo] at HP0
      have hwo' := hwo.symm
      clear hwo hc q0 q1 q2 q3 q4 hbw HT
      obtain ⟨hK1, hK2⟩ := hK
      have HK := hid (And.intro hK1 hK2)
      clear hK1 hK2
      have HDN := hid (done_nil o wo)
      unfold opV at HDN
      have HSM : Hid (∀ (o2 : Op5), o2 = o → True) := fun _ _ => trivial
      obtain ⟨kd, nm, A, B, S⟩ := o
      obtain ⟨y0, y1, y2, y3, y4⟩ := HP0.out.ys
      simp only at y0 y1 y2 y3 y4 hwo' k0 k1 k2 k3 k4 HDN
      by_cases c1 : kd = 1
      · subst c1
        by_cases c2 : nm.size < 1
        · have e0 : dnN0 ⟨1, nm, A, B, S⟩ = 3 := by rw [dn0_eq, if_pos rfl, if_neg (by simp only; omega)]
          rw [e0] at HDN
          have g1 : decide ((nm.size : Int) < 1) = true := by simp; omega
          go_wp2_with (first | (go_at_call 14; with_reducible refine HDN.out.mono ?_; rintro e w4 ⟨rfl, hb4⟩; have HP4 := hid (HP0.out.kept hb4); obtain ⟨z0, z1, z2, z3, z4⟩ := HP4.out.ys; simp only at z0 z1 z2 z3 z4; clear hb4) | (go_at_call 18; with_reducible refine (reads_nil _).mono ?_; rintro e w' ⟨rfl, rfl⟩) | (go_at_call 19; with_reducible refine (synced_nil _ _).mono ?_; rintro e w' ⟨rfl, rfl⟩) | (go_at_call 20; with_reducible refine (over_nil _ _ _ _).mono ?_; rintro e w' ⟨rfl, rfl⟩) | (go_at_call 15; with_reducible refine (list_nil _).mono ?_; rintro e w' ⟨rfl, rfl⟩) | (go_at_call 17; with_reducible refine (used_nil _).mono ?_; rintro e w' ⟨rfl, rfl⟩) | (go_at_call 21; with_reducible refine (room_nil _).mono ?_; rintro e w' ⟨rfl, rfl⟩))
          refine (PN.done2 HP4.out HK.out.1 HK.out.2).mono ?_
          rintro e w5 ⟨rfl, hP5⟩
          have HP5 := hid hP5
          obtain ⟨x0, x1, x2, x3, x4⟩ := hP5.ys
          simp only at x0 x1 x2 x3 x4
          clear hP5 z0 z1 z2 z3 z4 HP4 HDN
          go_wp2_with fail
          refine (PN.done2 HP5.out.swap HK.out.1 HK.out.2).mono ?_
          rintro e w6 ⟨rfl, hP6⟩
          have HT6 := hid hP6.swap.1
          have HVL2 : Hid ((dnV ⟨1, nm, A, B, S⟩ 0 V).length ≤ 65536) := dnV_len _ 0 V HVL.out
          clear hP6 x0 x1 x2 x3 x4 HP5
          have te : ((dnS ⟨1, nm, A, B, S⟩ V).toList == (dnS ⟨1, nm, A, B, S⟩ V).toList) = true := by simp
          generalize dnS ⟨1, nm, A, B, S⟩ V = rS at *
          generalize dnN ⟨1, nm, A, B, S⟩ 0 V = rN at *
          generalize dnE ⟨1, nm, A, B, S⟩ 0 V = rE at *
          generalize dnC ⟨1, nm, A, B, S⟩ V cl = rC at *
          generalize dnB ⟨1, nm, A, B, S⟩ V cb = rB at *
          generalize dnV ⟨1, nm, A, B, S⟩ 0 V = rV at *
          go_wp2_with fail
          refine (t_list HT6.out HVL2.out).mono ?_
          rintro e w7 ⟨va, rfl, hT7, hL7, hb7⟩
          have HT7 := hid hT7
          have HL7 := hid hL7
          clear hT7 hL7 hb7
          go_wp2_with fail
          refine (t_list HT7.out.swap HVL2.out).mono ?_
          rintro e w8 ⟨vb, rfl, hT8, hL8, hb8⟩
          have HT8 := hid hT8.swap
          have HSAME := hid (same_any (rV.map (fun x => x.1)) va vb _ _ w8 (HL7.out.below hb8).1 hL8.1 (by rw [List.length_map]; have := HVL2.out; omega))
          clear hT8 hL8 hb8 HL7
          go_wp2_with fail
          refine HSAME.out.mono ?_
          rintro e w9 ⟨rfl, k9, rfl⟩
          have HT9 := hid (HT8.out.kept (bel_drewN w8 k9))
          have hv0 := HT9.out.vt0
          go_wp2_with fail
          refine (Calls.mono (s_room_two HT9.out) ?_)
          rintro e w10 ⟨rfl, k10, rfl⟩
          have HT10 := hid (HT8.out.kept (bel_drewN w8 (k9 + k10)))
          go_wp2_with fail
          refine (t_used HT10.out).mono ?_
          rintro e w11 ⟨rfl, k11, rfl⟩
          have HT11 := hid (HT8.out.kept (bel_drewN w8 (k9 + k10 + k11)))
          rw [hv0]
          go_wp2_with fail
          go_roundg k
          case measure => omega
          case rel => exact ⟨j + 1, rC, rB, rV, by omega, by first | exact congrArg (Value.int .i64) EW.out | rfl, HT11, HVL2⟩
        · by_cases c3 : 255 < nm.size
          · have e0 : dnN0 ⟨1, nm, A, B, S⟩ = 3 := by rw [dn0_eq, if_pos rfl, if_neg (by simp only; omega)]
            rw [e0] at HDN
            have g1 : decide ((nm.size : Int) < 1) = false := by simp; omega
            have g2 : decide ((255 : Int) < nm.size) = true := by simp; omega
            go_wp2_with (first | (go_at_call 14; with_reducible refine HDN.out.mono ?_; rintro e w4 ⟨rfl, hb4⟩; have HP4 := hid (HP0.out.kept hb4); obtain ⟨z0, z1, z2, z3, z4⟩ := HP4.out.ys; simp only at z0 z1 z2 z3 z4; clear hb4) | (go_at_call 18; with_reducible refine (reads_nil _).mono ?_; rintro e w' ⟨rfl, rfl⟩) | (go_at_call 19; with_reducible refine (synced_nil _ _).mono ?_; rintro e w' ⟨rfl, rfl⟩) | (go_at_call 20; with_reducible refine (over_nil _ _ _ _).mono ?_; rintro e w' ⟨rfl, rfl⟩) | (go_at_call 15; with_reducible refine (list_nil _).mono ?_; rintro e w' ⟨rfl, rfl⟩) | (go_at_call 17; with_reducible refine (used_nil _).mono ?_; rintro e w' ⟨rfl, rfl⟩) | (go_at_call 21; with_reducible refine (room_nil _).mono ?_; rintro e w' ⟨rfl, rfl⟩))
            refine (PN.done2 HP4.out HK.out.1 HK.out.2).mono ?_
            rintro e w5 ⟨rfl, hP5⟩
            have HP5 := hid hP5
            obtain ⟨x0, x1, x2, x3, x4⟩ := hP5.ys
            simp only at x0 x1 x2 x3 x4
            clear hP5 z0 z1 z2 z3 z4 HP4 HDN
            go_wp2_with fail
            refine (PN.done2 HP5.out.swap HK.out.1 HK.out.2).mono ?_
            rintro e w6 ⟨rfl, hP6⟩
            have HT6 := hid hP6.swap.1
            have HVL2 : Hid ((dnV ⟨1, nm, A, B, S⟩ 0 V).length ≤ 65536) := dnV_len _ 0 V HVL.out
            clear hP6 x0 x1 x2 x3 x4 HP5
            have te : ((dnS ⟨1, nm, A, B, S⟩ V).toList == (dnS ⟨1, nm, A, B, S⟩ V).toList) = true := by simp
            generalize dnS ⟨1, nm, A, B, S⟩ V = rS at *
            generalize dnN ⟨1, nm, A, B, S⟩ 0 V = rN at *
            generalize dnE ⟨1, nm, A, B, S⟩ 0 V = rE at *
            generalize dnC ⟨1, nm, A, B, S⟩ V cl = rC at *
            generalize dnB ⟨1, nm, A, B, S⟩ V cb = rB at *
            generalize dnV ⟨1, nm, A, B, S⟩ 0 V = rV at *
            go_wp2_with fail
            refine (t_list HT6.out HVL2.out).mono ?_
            rintro e w7 ⟨va, rfl, hT7, hL7, hb7⟩
            have HT7 := hid hT7
            have HL7 := hid hL7
            clear hT7 hL7 hb7
            go_wp2_with fail
            refine (t_list HT7.out.swap HVL2.out).mono ?_
            rintro e w8 ⟨vb, rfl, hT8, hL8, hb8⟩
            have HT8 := hid hT8.swap
            have HSAME := hid (same_any (rV.map (fun x => x.1)) va vb _ _ w8 (HL7.out.below hb8).1 hL8.1 (by rw [List.length_map]; have := HVL2.out; omega))
            clear hT8 hL8 hb8 HL7
            go_wp2_with fail
            refine HSAME.out.mono ?_
            rintro e w9 ⟨rfl, k9, rfl⟩
            have HT9 := hid (HT8.out.kept (bel_drewN w8 k9))
            have hv0 := HT9.out.vt0
            go_wp2_with fail
            refine (Calls.mono (s_room_two HT9.out) ?_)
            rintro e w10 ⟨rfl, k10, rfl⟩
            have HT10 := hid (HT8.out.kept (bel_drewN w8 (k9 + k10)))
            go_wp2_with fail
            refine (t_used HT10.out).mono ?_
            rintro e w11 ⟨rfl, k11, rfl⟩
            have HT11 := hid (HT8.out.kept (bel_drewN w8 (k9 + k10 + k11)))
            rw [hv0]
            go_wp2_with fail
            go_roundg k
            case measure => omega
            case rel => exact ⟨j + 1, rC, rB, rV, by omega, by first | exact congrArg (Value.int .i64) EW.out | rfl, HT11, HVL2⟩
          · have e0 : dnN0 ⟨1, nm, A, B, S⟩ = 2 := by rw [dn0_eq, if_pos rfl, if_pos (by simp only; omega)]
            rw [e0] at HDN
            have g1 : decide ((nm.size : Int) < 1) = false := by simp; omega
            have g2 : decide ((255 : Int) < nm.size) = false := by simp; omega
            go_wp2_with (first | (go_at_call 14; with_reducible refine HDN.out.mono ?_; rintro e w4 ⟨rfl, hb4⟩; have HP4 := hid (HP0.out.kept hb4); obtain ⟨z0, z1, z2, z3, z4⟩ := HP4.out.ys; simp only at z0 z1 z2 z3 z4; clear hb4) | (go_at_call 18; with_reducible refine (reads_nil _).mono ?_; rintro e w' ⟨rfl, rfl⟩) | (go_at_call 19; with_reducible refine (synced_nil _ _).mono ?_; rintro e w' ⟨rfl, rfl⟩) | (go_at_call 20; with_reducible refine (over_nil _ _ _ _).mono ?_; rintro e w' ⟨rfl, rfl⟩) | (go_at_call 15; with_reducible refine (list_nil _).mono ?_; rintro e w' ⟨rfl, rfl⟩) | (go_at_call 17; with_reducible refine (used_nil _).mono ?_; rintro e w' ⟨rfl, rfl⟩) | (go_at_call 21; with_reducible refine (room_nil _).mono ?_; rintro e w' ⟨rfl, rfl⟩))
            refine (PN.done2 HP4.out HK.out.1 HK.out.2).mono ?_
            rintro e w5 ⟨rfl, hP5⟩
            have HP5 := hid hP5
            obtain ⟨x0, x1, x2, x3, x4⟩ := hP5.ys
            simp only at x0 x1 x2 x3 x4
            clear hP5 z0 z1 z2 z3 z4 HP4 HDN
            go_wp2_with fail
            refine (PN.done2 HP5.out.swap HK.out.1 HK.out.2).mono ?_
            rintro e w6 ⟨rfl, hP6⟩
            have HT6 := hid hP6.swap.1
            have HVL2 : Hid ((dnV ⟨1, nm, A, B, S⟩ 0 V).length ≤ 65536) := dnV_len _ 0 V HVL.out
            clear hP6 x0 x1 x2 x3 x4 HP5
            have te : ((dnS ⟨1, nm, A, B, S⟩ V).toList == (dnS ⟨1, nm, A, B, S⟩ V).toList) = true := by simp
            generalize dnS ⟨1, nm, A, B, S⟩ V = rS at *
            generalize dnN ⟨1, nm, A, B, S⟩ 0 V = rN at *
            generalize dnE ⟨1, nm, A, B, S⟩ 0 V = rE at *
            generalize dnC ⟨1, nm, A, B, S⟩ V cl = rC at *
            generalize dnB ⟨1, nm, A, B, S⟩ V cb = rB at *
            generalize dnV ⟨1, nm, A, B, S⟩ 0 V = rV at *
            go_wp2_with fail
            refine (t_list HT6.out HVL2.out).mono ?_
            rintro e w7 ⟨va, rfl, hT7, hL7, hb7⟩
            have HT7 := hid hT7
            have HL7 := hid hL7
            clear hT7 hL7 hb7
            go_wp2_with fail
            refine (t_list HT7.out.swap HVL2.out).mono ?_
            rintro e w8 ⟨vb, rfl, hT8, hL8, hb8⟩
            have HT8 := hid hT8.swap
            have HSAME := hid (same_any (rV.map (fun x => x.1)) va vb _ _ w8 (HL7.out.below hb8).1 hL8.1 (by rw [List.length_map]; have := HVL2.out; omega))
            clear hT8 hL8 hb8 HL7
            go_wp2_with fail
            refine HSAME.out.mono ?_
            rintro e w9 ⟨rfl, k9, rfl⟩
            have HT9 := hid (HT8.out.kept (bel_drewN w8 k9))
            have hv0 := HT9.out.vt0
            go_wp2_with fail
            refine (Calls.mono (s_room_two HT9.out) ?_)
            rintro e w10 ⟨rfl, k10, rfl⟩
            have HT10 := hid (HT8.out.kept (bel_drewN w8 (k9 + k10)))
            go_wp2_with fail
            refine (t_used HT10.out).mono ?_
            rintro e w11 ⟨rfl, k11, rfl⟩
            have HT11 := hid (HT8.out.kept (bel_drewN w8 (k9 + k10 + k11)))
            rw [hv0]
            go_wp2_with fail
            go_roundg k
            case measure => omega
            case rel => exact ⟨j + 1, rC, rB, rV, by omega, by first | exact congrArg (Value.int .i64) EW.out | rfl, HT11, HVL2⟩
      · have e0 : dnN0 ⟨kd, nm, A, B, S⟩ = 4 := by rw [dn0_eq, if_neg c1]
        rw [e0] at HDN
        have g0 : (kd == (1 : Int)) = false := by simpa using c1
        go_wp2_with (first | (go_at_call 14; with_reducible refine HDN.out.mono ?_; rintro e w4 ⟨rfl, hb4⟩; have HP4 := hid (HP0.out.kept hb4); obtain ⟨z0, z1, z2, z3, z4⟩ := HP4.out.ys; simp only at z0 z1 z2 z3 z4; clear hb4) | (go_at_call 18; with_reducible refine (reads_nil _).mono ?_; rintro e w' ⟨rfl, rfl⟩) | (go_at_call 19; with_reducible refine (synced_nil _ _).mono ?_; rintro e w' ⟨rfl, rfl⟩) | (go_at_call 20; with_reducible refine (over_nil _ _ _ _).mono ?_; rintro e w' ⟨rfl, rfl⟩) | (go_at_call 15; with_reducible refine (list_nil _).mono ?_; rintro e w' ⟨rfl, rfl⟩) | (go_at_call 17; with_reducible refine (used_nil _).mono ?_; rintro e w' ⟨rfl, rfl⟩) | (go_at_call 21; with_reducible refine (room_nil _).mono ?_; rintro e w' ⟨rfl, rfl⟩))
        refine (PN.done2 HP4.out HK.out.1 HK.out.2).mono ?_
        rintro e w5 ⟨rfl, hP5⟩
        have HP5 := hid hP5
        obtain ⟨x0, x1, x2, x3, x4⟩ := hP5.ys
        simp only at x0 x1 x2 x3 x4
        clear hP5 z0 z1 z2 z3 z4 HP4 HDN
        go_wp2_with fail
        refine (PN.done2 HP5.out.swap HK.out.1 HK.out.2).mono ?_
        rintro e w6 ⟨rfl, hP6⟩
        have HT6 := hid hP6.swap.1
        have HVL2 : Hid ((dnV ⟨kd, nm, A, B, S⟩ 0 V).length ≤ 65536) := dnV_len _ 0 V HVL.out
        clear hP6 x0 x1 x2 x3 x4 HP5
        have te : ((dnS ⟨kd, nm, A, B, S⟩ V).toList == (dnS ⟨kd, nm, A, B, S⟩ V).toList) = true := by simp
        generalize dnS ⟨kd, nm, A, B, S⟩ V = rS at *
        generalize dnN ⟨kd, nm, A, B, S⟩ 0 V = rN at *
        generalize dnE ⟨kd, nm, A, B, S⟩ 0 V = rE at *
        generalize dnC ⟨kd, nm, A, B, S⟩ V cl = rC at *
        generalize dnB ⟨kd, nm, A, B, S⟩ V cb = rB at *
        generalize dnV ⟨kd, nm, A, B, S⟩ 0 V = rV at *
        go_wp2_with fail
        refine (t_list HT6.out HVL2.out).mono ?_
        rintro e w7 ⟨va, rfl, hT7, hL7, hb7⟩
        have HT7 := hid hT7
        have HL7 := hid hL7
        clear hT7 hL7 hb7
        go_wp2_with fail
        refine (t_list HT7.out.swap HVL2.out).mono ?_
        rintro e w8 ⟨vb, rfl, hT8, hL8, hb8⟩
        have HT8 := hid hT8.swap
        have HSAME := hid (same_any (rV.map (fun x => x.1)) va vb _ _ w8 (HL7.out.below hb8).1 hL8.1 (by rw [List.length_map]; have := HVL2.out; omega))
        clear hT8 hL8 hb8 HL7
        go_wp2_with fail
        refine HSAME.out.mono ?_
        rintro e w9 ⟨rfl, k9, rfl⟩
        have HT9 := hid (HT8.out.kept (bel_drewN w8 k9))
        have hv0 := HT9.out.vt0
        go_wp2_with fail
        refine (Calls.mono (s_room_two HT9.out) ?_)
        rintro e w10 ⟨rfl, k10, rfl⟩
        have HT10 := hid (HT8.out.kept (bel_drewN w8 (k9 + k10)))
        go_wp2_with fail
        refine (t_used HT10.out).mono ?_
        rintro e w11 ⟨rfl, k11, rfl⟩
        have HT11 := hid (HT8.out.kept (bel_drewN w8 (k9 + k10 + k11)))
        rw [hv0]
        go_wp2_with fail
        go_roundg k
        case measure => omega
        case rel => exact ⟨j + 1, rC, rB, rV, by omega, by first | exact congrArg (Value.int .i64) EW.out | rfl, HT11, HVL2⟩
    · have hltD : decide ((j : Int) < N) = false := by simp; omega
      have HCL : Hid (Calls Try.prog 12 #[.pointer (some ⟨da, 0, none⟩)] wr fun e w' => e = .returned (.pointer (some ⟨wr.heap.size, 0, none⟩)) ∧ (∃ fc, Ds w' wr.heap.size fc 0 cl cb V) ∧ Below wr.heap.size wr w') := by
        obtain ⟨fa, fb, ⟨m, fs, hd, hv, _⟩, _⟩ := HT.out
        have hlen : fs.length ≤ 65536 := by have := HVL.out; rw [← hv] at this; simpa [vw] using this
        refine (dclone_any da m 0 cl cb fs wr hd hlen).mono ?_
        rintro e w' ⟨he, gs, h1, h2, h3, h4⟩
        exact ⟨he, ⟨_, ⟨_, gs, h1, h2.trans hv, rfl⟩⟩, h4⟩
      go_wp2_with fail
      refine HCL.out.mono ?_
      rintro e w2 ⟨rfl, ⟨fc, hC2⟩, hb2⟩
      have HT2 := hid (HT.out.kept hb2)
      have HC2 := hid hC2
      clear hC2 HCL hb2 HT
      generalize wr.heap.size = C at *
      go_wp2_with (first | (go_at_call 12; with_reducible refine (clone_nil _).mono ?_; rintro e w' ⟨rfl, rfl⟩))
      refine (s_list C fc 0 cl cb V _ HC2.out HVL.out).mono ?_
      rintro e w4 ⟨va, rfl, hLa, hba⟩
      have HT4 := hid (HT2.out.kept hba)
      have HLA := hid hLa
      clear hLa hba HT2
      go_wp2_with fail
      refine (t_list HT4.out HVL.out).mono ?_
      rintro e w5 ⟨vb, rfl, hT5, hL5, hb5⟩
      have HSAME := hid (same_any (V.map (fun x => x.1)) va vb _ _ w5 (HLA.out.below hb5).1 hL5.1 (by rw [List.length_map]; have := HVL.out; omega))
      have HB5 := hid hT5.below
      have HS5 : Hid (w.heap.size ≤ w5.heap.size) := by obtain ⟨_, _, _, _, _, _, _, k, _⟩ := hT5; exact k
      clear hT5 hL5 hb5 HLA
      go_wp2_with fail
      refine HSAME.out.mono ?_
      rintro e w6 ⟨rfl, k6, rfl⟩
      go_wp2_with fail
      go_ret
      exact ⟨rfl, HB5.out.trans ((bel_drewN w5 _).mono HS5.out)⟩
end Go.Proofs.Ytclelafnjfhdjaa
