/- DiskKeeps: the walk. -/
import Derived.Test.YtclelafnjfhdjaaKdp
namespace Go.Proofs.Ytclelafnjfhdjaa
open Go.RowKit
section
variable {w0 : World} {H : Nat} {w : World} {a b c : Nat} {rm : Nat} {cla cba : Int} {Va : Vw} {clb cbb : Int} {Vb : Vw} {clc cbc : Int} {Vc : Vw}
theorem d_list (h : D3 w0 H w a b c rm cla cba Va clb cbb Vb clc cbc Vc) (hl : Va.length ≤ 65536) : Calls Try.prog 15 #[.pointer (some ⟨a, 0, none⟩)] w fun e w' => ∃ v, e = .returned v ∧ D3 w0 H w' a b c rm cla cba Va clb cbb Vb clc cbc Vc ∧ Lsd w' w.heap.size v (Va.map (fun x => x.1)) ∧ Below w.heap.size w w' := by
  have h' := h
  obtain ⟨fa, fb, fc, h1, _⟩ := h
  refine (s_list a fa rm cla cba Va w h1 hl).mono ?_
  rintro e w' ⟨v, he, k1, k2⟩
  exact ⟨v, he, h'.kept k2, k1, k2⟩
theorem d_used (h : D3 w0 H w a b c rm cla cba Va clb cbb Vb clc cbc Vc) : Calls Try.prog 17 #[.pointer (some ⟨a, 0, none⟩)] w fun e w' => e = .returned (.int .i64 (vt Va)) ∧ ∃ k, w' = w.drewN k := by
  obtain ⟨fa, fb, fc, h1, _⟩ := h
  exact s_used a fa rm cla cba Va w h1
end
theorem Hd.form {w : World} {H : Nat} {vh : Value} {hs : List Value} (h : Hd w H vh hs) : ∃ a c, vh = .slice a hs.length c := by
  rcases h.row.2 with ⟨rfl, e⟩ | ⟨g, cap, cur, rfl, _⟩
  · exact ⟨none, 0, by rw [e]⟩
  · exact ⟨_, _, rfl⟩
theorem Hd.at {w : World} {H : Nat} {a : Option Addr} {c : Nat} {hs : List Value} (h : Hd w H (.slice a hs.length c) hs) {p : Nat} (hp : p < hs.length) : ∃ g v, a = some ⟨g, 0, none⟩ ∧ v ∈ hs ∧ ∀ w', Hd w' H (.slice (some ⟨g, 0, none⟩) hs.length c) hs → w'.cell? ⟨g, p, none⟩ = some v := by
  rcases h.row.2 with ⟨_, e⟩ | ⟨g, cap, cur, e, _⟩
  · omega
  · injection e with e
    exact ⟨g, hs[p], e, List.getElem_mem hp, fun w' h' => (World.ownsRow.cellAt h'.row p (by omega)).trans (List.getElem?_eq_getElem hp)⟩
theorem Hd.shape {w : World} {H : Nat} {vh : Value} {hs : List Value} (h : Hd w H vh hs) {v : Value} (hv : v ∈ hs) : ∃ a n c, v = .slice a n c := by
  obtain ⟨n, _, k⟩ := h.els v hv
  rcases k.2 with ⟨rfl, _⟩ | ⟨g, cap, cur, rfl, _⟩
  · exact ⟨_, _, _, rfl⟩
  · exact ⟨_, _, _, rfl⟩
theorem Hd.elt {w : World} {H : Nat} {vh : Value} {hs : List Value} (h : Hd w H vh hs) {a : Option Addr} {n c : Nat} (hv : Value.slice a n c ∈ hs) : n ≤ 65536 ∧ w.ownsRow H 9 1 (.slice a n c) n (List.replicate n (.string ovw)) := by
  obtain ⟨m, h1, k⟩ := h.els _ hv
  have e : n = m := by
    rcases k.2 with ⟨e, e2⟩ | ⟨g, cap, cur, e, _⟩
    · injection e with _ e _; omega
    · injection e with _ e _
  subst e
  exact ⟨h1, k⟩
theorem Hd.cel {w : World} {H : Nat} {vh : Value} {hs : List Value} (h : Hd w H vh hs) {a : Option Addr} {n c : Nat} (hv : Value.slice a n c ∈ hs) {q : Nat} (hq : q < n) : ∃ g, a = some ⟨g, 0, none⟩ ∧ w.cell? ⟨g, q, none⟩ = some (.string ovw) := by
  obtain ⟨_, k⟩ := h.elt hv
  rcases k.2 with ⟨_, e2⟩ | ⟨g, cap, cur, e, _⟩
  · omega
  · injection e with e
    subst e
    refine ⟨g, rfl, (World.ownsRow.cellAt k q (by omega)).trans ?_⟩
    rw [List.getElem?_replicate, if_pos hq]
theorem own_below {w w' : World} {B n size : Nat} {e : TypeId} {v : Value} {l : List Value} (h : w.ownsRow B e size v n l) (hb : Below w.heap.size w w') : w'.ownsRow B e size v n l := own_ch h (Ch.of_below (S := fun _ => False) hb) (fun _ _ e => e)
theorem Scr.at {w : World} {a : Option Addr} {os : List Op5} (h : Scr w a os) {j : Nat} (hj : j < os.length) : ∃ b off, a = some ⟨b, off, none⟩ ∧ ∀ w', Below w.heap.size w w' → w'.cell? ⟨b, off + j * 5, none⟩ = some (.int .i64 (os.getD j o0).k) ∧ w'.cell? ⟨b, off + j * 5 + 1, none⟩ = some (.string (os.getD j o0).nm) ∧ w'.cell? ⟨b, off + j * 5 + 2, none⟩ = some (.int .i64 (os.getD j o0).a) ∧ w'.cell? ⟨b, off + j * 5 + 3, none⟩ = some (.int .i64 (os.getD j o0).b) ∧ w'.cell? ⟨b, off + j * 5 + 4, none⟩ = some (.string (os.getD j o0).s) := by
  rcases h with rfl | ⟨b, off, rfl, hbl, hc⟩
  · simp at hj
  · obtain ⟨q0, q1, q2, q3, q4⟩ := hc j hj
    exact ⟨b, off, rfl, fun w' hb => ⟨(hb.cell (p := ⟨b, off + j * 5, none⟩) hbl).trans q0, (hb.cell (p := ⟨b, off + j * 5 + 1, none⟩) hbl).trans q1, (hb.cell (p := ⟨b, off + j * 5 + 2, none⟩) hbl).trans q2, (hb.cell (p := ⟨b, off + j * 5 + 3, none⟩) hbl).trans q3, (hb.cell (p := ⟨b, off + j * 5 + 4, none⟩) hbl).trans q4⟩⟩
theorem Try.infoStrs : (Try.prog.info? 40).map (fun i => (i.zero, i.size, i.bytes)) = some (some (.slice none 0 0), 1, 24) := by kernel_rfl
theorem Try.infoStr9 : (Try.prog.info? 9).map (fun i => (i.zero, i.size, i.bytes)) = some (some (.string ⟨#[]⟩), 1, 16) := by kernel_rfl
theorem Try.underStrs1 : Try.prog.underlying 40 = some (.slice 9) := by kernel_rfl
theorem Try.underStrss : Try.prog.underlying 36 = some (.slice 40) := by kernel_rfl
set_option maxHeartbeats 8000000 in
set_option maxRecDepth 20000 in
theorem keeps_walk (room : Int) (a : Option Addr) (cap : Nat) (os : List Op5) (a2 : Option Addr) (cap2 : Nat) (os2 : List Op5) (w : World) (hl : os.length ≤ 9223372036854775807) (hz : ∀ o ∈ os, OpOk o) (V : Scr w a os) (hl2 : os2.length ≤ 9223372036854775807) (hz2 : ∀ o ∈ os2, OpOk o) (V2 : Scr w a2 os2) :
    Calls Try.prog 5 #[.int .i64 room, .slice a os.length cap, .slice a2 os2.length cap2] w fun e w' => e = .returned (.bool true) ∧ Below w.heap.size w w' := by
  have HV := hid V
  have HV2 := hid V2
  have HZ := hid hz
  have HZ2 := hid hz2
  have HL := hid hl
  have HL2 := hid hl2
  clear V V2 hz hz2 hl hl2
  have HFX := hid (fixed_any w)
  obtain ⟨i1, ji, jz0, jz1, jz2⟩ := info_parts Try.infoStrs
  obtain ⟨i2, ki, kz0, kz1, kz2⟩ := info_parts Try.infoStr9
  by_cases hbig : 65536 < os.length
  · have hbigI : (65536 : Int) < os.length := by omega
    go_enter Try.func5, Try.ntmps5
    go_wp2_with (go_at_call 7; refine HFX.out.mono ?_; rintro e w1 ⟨rfl, hb1⟩; have HB1 := hid hb1; clear hb1)
    go_ret
    exact ⟨rfl, HB1.out⟩
  have hbigI : ¬ (65536 : Int) < os.length := by omega
  go_enter Try.func5, Try.ntmps5
  go_wp2_with (first | (go_at_call 7; refine HFX.out.mono ?_; rintro e w1 ⟨rfl, hb1⟩; have HB1 := hid hb1; clear hb1) | (go_at_call 8; refine (new_any _ _).mono ?_; rintro e w' ⟨rfl, rfl⟩))
  have hT0 := D3.new w1 room w.heap.size w HB1.out HB1.out.size
  have HT0 := hid hT0
  clear hT0 HFX
  generalize clamp room = rm at *
  generalize ((w1.alloc (.cells #[.int .i64 rm, .int .i64 0, .map none, .int .i64 0, .int .i64 0] 48)).alloc (.cells #[.int .i64 rm, .int .i64 0, .map none, .int .i64 0, .int .i64 0] 48)).alloc (.cells #[.int .i64 rm, .int .i64 0, .map none, .int .i64 0, .int .i64 0] 48) = w3 at *
  generalize w1.heap.size = da at *
  generalize da + 1 = db at *
  generalize db + 1 = dc at *
  have HD0 : Hid (Hd w3 w.heap.size (.slice none 0 0) []) := ⟨⟨rfl, Or.inl ⟨rfl, rfl⟩⟩, fun v hv => (List.not_mem_nil hv).elim, fun v hv => (List.not_mem_nil hv).elim⟩
  obtain ⟨M, hM⟩ : ∃ M, M = max os.length os2.length := ⟨_, rfl⟩
  have HM : Hid (os.length ≤ M ∧ os2.length ≤ M ∧ (M = os.length ∨ M = os2.length)) := by show _ ∧ _ ∧ _; omega
  clear hM
  go_loopg [10, 11] M (fun k vh i wr => ∃ (j : Nat) (cl cb : Int) (V : Vw) (clc cbc : Int) (Vc : Vw) (hs : List Value), j + k = M ∧ i = .int .i64 j ∧ Hid (hs.length = min j os.length) ∧ Hid (D3 w w.heap.size wr da db dc rm cl cb V cl cb V clc cbc Vc) ∧ Hid (Hd wr w.heap.size vh hs) ∧ Hid (V.length ≤ 65536))
  case atStart => exact ⟨0, 0, 0, [], 0, 0, [], [], by omega, rfl, by show _ = _; simp, HT0, HD0, by show _ ≤ _; simp⟩
  case round =>
    clear HT0 HD0
    obtain ⟨j, cl, cb, V, clc, cbc, Vc, hs, hk, rfl, HHL, HT, HH, HVL⟩ := hrel
    have hjM := HM.out
    by_cases h2 : j < os2.length
    · obtain ⟨k, rfl⟩ : ∃ k, gk = k + 1 := ⟨gk - 1, by omega⟩
      obtain ⟨b2, off2, rfl, hc2⟩ := HV2.out.at h2
      have HK2 := hid (HZ2.out _ (scr_mem h2))
      generalize os2.getD j o0 = o2 at *
      obtain ⟨Kd2, nm2, A2, B2, S2⟩ := o2
      simp only at hc2
      have HCE2 := hid hc2
      clear hc2
      have h2I : (j : Int) < os2.length := by omega
      have hjb : j ≤ 9223372036854775806 := by have := HL2.out; omega
      obtain ⟨q0, q1, q2, q3, q4⟩ := HCE2.out _ HT.out.below
      have HDC : Hid (∀ (Q : Ending → World → Prop), (∀ w', D3 w w.heap.size w' da db dc rm cl cb V cl cb V (dnC ⟨Kd2, nm2, A2, B2, S2⟩ Vc clc) (dnB ⟨Kd2, nm2, A2, B2, S2⟩ Vc cbc) (dnV ⟨Kd2, nm2, A2, B2, S2⟩ rm Vc) → Oth wr w' → wr.heap.size ≤ w'.heap.size → Q (.returned (.tuple #[.string (dnS ⟨Kd2, nm2, A2, B2, S2⟩ Vc), .int .i64 (dnN ⟨Kd2, nm2, A2, B2, S2⟩ rm Vc), .int .i64 (dnE ⟨Kd2, nm2, A2, B2, S2⟩ rm Vc)])) w') → Calls Try.prog 14 #[.iface 24 (.pointer (some ⟨dc, 0, none⟩)), .agg #[.int .i64 Kd2, .string nm2, .int .i64 A2, .int .i64 B2, .string S2]] wr Q) := fun Q hQ => HT.out.rot.rot.first (fun fa h => done_any dc fa rm clc cbc Vc ⟨Kd2, nm2, A2, B2, S2⟩ HK2.out.1 HK2.out.2 _ h) (fun w' h => hQ w' h.rot)
      by_cases h1 : j < os.length
      · have h1I : (j : Int) < os.length := by omega
        obtain ⟨b, off, rfl, hc⟩ := HV.out.at h1
        have HK := hid (HZ.out _ (scr_mem h1))
        generalize os.getD j o0 = o at *
        obtain ⟨Kd, nm, A, B, S⟩ := o
        simp only at hc
        have HCE := hid hc
        clear hc
        have HLN : Hid ((dnV ⟨Kd, nm, A, B, S⟩ rm V).length ≤ 65536) := dnV_len _ rm V HVL.out
        have HDA : Hid (∀ w4 (Q : Ending → World → Prop), D3 w w.heap.size w4 da db dc rm cl cb V cl cb V (dnC ⟨Kd2, nm2, A2, B2, S2⟩ Vc clc) (dnB ⟨Kd2, nm2, A2, B2, S2⟩ Vc cbc) (dnV ⟨Kd2, nm2, A2, B2, S2⟩ rm Vc) → (∀ w', D3 w w.heap.size w' da db dc rm (dnC ⟨Kd, nm, A, B, S⟩ V cl) (dnB ⟨Kd, nm, A, B, S⟩ V cb) (dnV ⟨Kd, nm, A, B, S⟩ rm V) cl cb V (dnC ⟨Kd2, nm2, A2, B2, S2⟩ Vc clc) (dnB ⟨Kd2, nm2, A2, B2, S2⟩ Vc cbc) (dnV ⟨Kd2, nm2, A2, B2, S2⟩ rm Vc) → Oth w4 w' → w4.heap.size ≤ w'.heap.size → Q (.returned (.tuple #[.string (dnS ⟨Kd, nm, A, B, S⟩ V), .int .i64 (dnN ⟨Kd, nm, A, B, S⟩ rm V), .int .i64 (dnE ⟨Kd, nm, A, B, S⟩ rm V)])) w') → Calls Try.prog 14 #[.iface 24 (.pointer (some ⟨da, 0, none⟩)), .agg #[.int .i64 Kd, .string nm, .int .i64 A, .int .i64 B, .string S]] w4 Q) := fun w4 Q h4 hQ => h4.first (fun fa h => done_any da fa rm cl cb V ⟨Kd, nm, A, B, S⟩ HK.out.1 HK.out.2 _ h) hQ
        have HDB : Hid (∀ w4 (Q : Ending → World → Prop), D3 w w.heap.size w4 da db dc rm (dnC ⟨Kd, nm, A, B, S⟩ V cl) (dnB ⟨Kd, nm, A, B, S⟩ V cb) (dnV ⟨Kd, nm, A, B, S⟩ rm V) cl cb V (dnC ⟨Kd2, nm2, A2, B2, S2⟩ Vc clc) (dnB ⟨Kd2, nm2, A2, B2, S2⟩ Vc cbc) (dnV ⟨Kd2, nm2, A2, B2, S2⟩ rm Vc) → (∀ w', D3 w w.heap.size w' da db dc rm (dnC ⟨Kd, nm, A, B, S⟩ V cl) (dnB ⟨Kd, nm, A, B, S⟩ V cb) (dnV ⟨Kd, nm, A, B, S⟩ rm V) (dnC ⟨Kd, nm, A, B, S⟩ V cl) (dnB ⟨Kd, nm, A, B, S⟩ V cb) (dnV ⟨Kd, nm, A, B, S⟩ rm V) (dnC ⟨Kd2, nm2, A2, B2, S2⟩ Vc clc) (dnB ⟨Kd2, nm2, A2, B2, S2⟩ Vc cbc) (dnV ⟨Kd2, nm2, A2, B2, S2⟩ rm Vc) → Oth w4 w' → w4.heap.size ≤ w'.heap.size → Q (.returned (.tuple #[.string (dnS ⟨Kd, nm, A, B, S⟩ V), .int .i64 (dnN ⟨Kd, nm, A, B, S⟩ rm V), .int .i64 (dnE ⟨Kd, nm, A, B, S⟩ rm V)])) w') → Calls Try.prog 14 #[.iface 24 (.pointer (some ⟨db, 0, none⟩)), .agg #[.int .i64 Kd, .string nm, .int .i64 A, .int .i64 B, .string S]] w4 Q) := fun w4 Q h4 hQ => h4.rot.first (fun fa h => done_any db fa rm cl cb V ⟨Kd, nm, A, B, S⟩ HK.out.1 HK.out.2 _ h) (fun w' h => hQ w' h.rot.rot)
        have hmL := mth_List (some ⟨da, 0, none⟩)
        obtain ⟨ns, hns⟩ : ∃ ns, ns = (dnV ⟨Kd, nm, A, B, S⟩ rm V).map (fun x => x.1) := ⟨_, rfl⟩
        have HNS : Hid (ns.length ≤ 65536) := by have := HLN.out; show _ ≤ _; rw [hns, List.length_map]; exact this
        have HLA : Hid (∀ w4, D3 w w.heap.size w4 da db dc rm (dnC ⟨Kd, nm, A, B, S⟩ V cl) (dnB ⟨Kd, nm, A, B, S⟩ V cb) (dnV ⟨Kd, nm, A, B, S⟩ rm V) (dnC ⟨Kd, nm, A, B, S⟩ V cl) (dnB ⟨Kd, nm, A, B, S⟩ V cb) (dnV ⟨Kd, nm, A, B, S⟩ rm V) (dnC ⟨Kd2, nm2, A2, B2, S2⟩ Vc clc) (dnB ⟨Kd2, nm2, A2, B2, S2⟩ Vc cbc) (dnV ⟨Kd2, nm2, A2, B2, S2⟩ rm Vc) → Calls Try.prog 15 #[.pointer (some ⟨da, 0, none⟩)] w4 fun e w' => ∃ v, e = .returned v ∧ D3 w w.heap.size w' da db dc rm (dnC ⟨Kd, nm, A, B, S⟩ V cl) (dnB ⟨Kd, nm, A, B, S⟩ V cb) (dnV ⟨Kd, nm, A, B, S⟩ rm V) (dnC ⟨Kd, nm, A, B, S⟩ V cl) (dnB ⟨Kd, nm, A, B, S⟩ V cb) (dnV ⟨Kd, nm, A, B, S⟩ rm V) (dnC ⟨Kd2, nm2, A2, B2, S2⟩ Vc clc) (dnB ⟨Kd2, nm2, A2, B2, S2⟩ Vc cbc) (dnV ⟨Kd2, nm2, A2, B2, S2⟩ rm Vc) ∧ Lsd w' w4.heap.size v ns ∧ Below w4.heap.size w4 w') := fun w4 h4 => by rw [hns]; exact d_list h4 HLN.out
        have HLB : Hid (∀ w4, D3 w w.heap.size w4 da db dc rm (dnC ⟨Kd, nm, A, B, S⟩ V cl) (dnB ⟨Kd, nm, A, B, S⟩ V cb) (dnV ⟨Kd, nm, A, B, S⟩ rm V) (dnC ⟨Kd, nm, A, B, S⟩ V cl) (dnB ⟨Kd, nm, A, B, S⟩ V cb) (dnV ⟨Kd, nm, A, B, S⟩ rm V) (dnC ⟨Kd2, nm2, A2, B2, S2⟩ Vc clc) (dnB ⟨Kd2, nm2, A2, B2, S2⟩ Vc cbc) (dnV ⟨Kd2, nm2, A2, B2, S2⟩ rm Vc) → Calls Try.prog 15 #[.pointer (some ⟨db, 0, none⟩)] w4 fun e w' => ∃ v, e = .returned v ∧ D3 w w.heap.size w' da db dc rm (dnC ⟨Kd, nm, A, B, S⟩ V cl) (dnB ⟨Kd, nm, A, B, S⟩ V cb) (dnV ⟨Kd, nm, A, B, S⟩ rm V) (dnC ⟨Kd, nm, A, B, S⟩ V cl) (dnB ⟨Kd, nm, A, B, S⟩ V cb) (dnV ⟨Kd, nm, A, B, S⟩ rm V) (dnC ⟨Kd2, nm2, A2, B2, S2⟩ Vc clc) (dnB ⟨Kd2, nm2, A2, B2, S2⟩ Vc cbc) (dnV ⟨Kd2, nm2, A2, B2, S2⟩ rm Vc) ∧ Lsd w' w4.heap.size v ns ∧ Below w4.heap.size w4 w') := fun w4 h4 => by rw [hns]; refine (d_list h4.rot HLN.out).mono ?_; rintro e w' ⟨v, he, k1, k2⟩; exact ⟨v, he, k1.rot.rot, k2⟩
        clear hns
        generalize hCC : dnC ⟨Kd, nm, A, B, S⟩ V cl = cl1 at *
        generalize hCB : dnB ⟨Kd, nm, A, B, S⟩ V cb = cb1 at *
        generalize hCV : dnV ⟨Kd, nm, A, B, S⟩ rm V = V1 at *
        generalize dnS ⟨Kd, nm, A, B, S⟩ V = rS at *
        generalize dnN ⟨Kd, nm, A, B, S⟩ rm V = rN at *
        generalize dnE ⟨Kd, nm, A, B, S⟩ rm V = rE at *
        clear hCC hCB hCV
        go_wp2_with (first | (go_at_call 14; (with_reducible refine HDC.out _ ?_); intro w4 h4 o4 z4; have HD4 := hid (HH.out.oth o4); have H4 := hid h4; obtain ⟨y0, y1, y2, y3, y4⟩ := HCE.out _ h4.below; clear h4 o4 z4) | (go_at_call 14; (with_reducible refine HDA.out _ _ H4.out ?_); intro w5 h5 o5 z5; have HD5 := hid (HD4.out.oth o5); have H5 := hid h5; obtain ⟨u0, u1, u2, u3, u4⟩ := HCE.out _ h5.below; clear h5 o5 z5) | (go_at_call 14; (with_reducible refine HDB.out _ _ H5.out ?_); intro w6 h6 o6 z6; have HD6 := hid (HD5.out.oth o6); have H6 := hid h6; clear h6 o6 z6) | (go_at_call 15; (with_reducible refine (HLA.out _ H6.out).mono ?_); rintro e w7 ⟨v7, rfl, h7, l7, b7⟩; have r7 := l7.1; obtain ⟨al, c7, e7, _⟩ := row_form (v := v7) (n := ns.length) r7; subst e7; clear r7; have H7 := hid h7; have L7 := hid l7; have B7 := hid b7; clear h7 l7 b7) | (go_at_call 15; (with_reducible refine (HLB.out _ H7.out).mono ?_); rintro e w8 ⟨v8, rfl, h8, l8, b8⟩; have L8 := hid l8; have L78 := hid (L7.out.below b8); have B8 := hid (B7.out.trans (b8.mono B7.out.size)); clear h8 l8 b8) | (go_at_call 16; refine (same_any _ _ _ _ _ _ L78.out.1 L8.out.1 (by have := HNS.out; omega)).mono ?_; rintro e w9 ⟨rfl, k9, rfl⟩))
        have HR9 := hid (own_below L78.out.1 (bel_drewN w8 k9))
        have HB9 := hid (B8.out.trans ((bel_drewN w8 k9).mono B8.out.size))
        generalize w8.drewN k9 = w9 at *
        clear HDA HDB HLA HLB H7 L7 B7 L8 L78 B8
        have HN7 : Hid (w6.heap.size = w6.heap.size) := rfl
        go_loopg [19] ns.length (fun k i w2 => ∃ (p : Nat) (xs : List Value), p + k = ns.length ∧ i = .int .i64 p ∧ Hid (xs.length = ns.length ∧ ∀ q, q < p → xs[q]? = some (.string ovw)) ∧ Hid (w2.ownsRow w6.heap.size 9 1 (.slice al ns.length c7) ns.length xs) ∧ Hid (Below w6.heap.size w6 w2))
        case atStart => exact ⟨0, _, by omega, rfl, ⟨by simp, fun q hq => absurd hq (Nat.not_lt_zero _)⟩, HR9, HB9⟩
        case round =>
          clear HR9 HB9
          obtain ⟨p, xs, hkp, rfl, HXS, HO, HB⟩ := hrel
          by_cases hlp : p < ns.length
          · obtain ⟨k2, rfl⟩ : ∃ k2, gk = k2 + 1 := ⟨gk - 1, by omega⟩
            obtain ⟨g, rfl⟩ : ∃ g, al = some ⟨g, 0, none⟩ := by
              rcases HO.out.2 with ⟨h1, h2⟩ | ⟨g, cap, cur, h1, _⟩
              · omega
              · injection h1 with h1; exact ⟨g, h1⟩
            have hgw := (World.ownsRow.lt HO.out g rfl).1
            obtain ⟨x0, hx0⟩ : ∃ x, xs[p]? = some x := ⟨_, List.getElem?_eq_getElem (by have := HXS.out.1; omega)⟩
            have k0 := (World.ownsRow.cellAt HO.out p (by omega)).trans hx0
            have f0 := World.ownsRow.frozenAt HO.out p
            have o1 := World.ownsRow.stored HO.out p (.string ovw)
            have HO3 := hid o1.1
            have HB3 : Hid (Below w6.heap.size w6 (wr.setCell ⟨g, p, none⟩ (.string ovw))) := HB.out.setCell (by show w6.heap.size ≤ g; omega) _
            have HX3 : Hid ((xs.set p (.string ovw)).length = ns.length ∧ ∀ q, q < p + 1 → (xs.set p (.string ovw))[q]? = some (.string ovw)) := by
              refine ⟨by rw [List.length_set]; exact HXS.out.1, fun q hq => ?_⟩
              by_cases e : p = q
              · subst e; rw [List.getElem?_set_self (by rw [HXS.out.1]; omega)]
              · rw [List.getElem?_set_ne e]; exact HXS.out.2 q (by omega)
            have hpn : p ≤ 65536 := by have := HNS.out; omega
            have b1 : (0 : Int) ≤ (p : Int) := by omega
            have b2 : (p : Int) < ns.length := by omega
            clear o1 hx0 HO HB HXS
            unfold ovw at *
            go_wp2_with fail
            go_roundg k2
            case measure => omega
            case rel => exact ⟨p + 1, _, by omega, by go_num, HX3, HO3, HB3⟩
          · have hlpI : ¬ (p : Int) < ns.length := by omega
            have HRL : Hid (wr.ownsRow w6.heap.size 9 1 (.slice al ns.length c7) ns.length (List.replicate ns.length (.string ovw))) := by
              have e : xs = List.replicate ns.length (.string ovw) := List.eq_replicate_iff.2 ⟨HXS.out.1, fun b hb => by
                obtain ⟨q, hq, rfl⟩ := List.mem_iff_getElem.1 hb
                have := HXS.out.2 q (by have := HXS.out.1; omega)
                rw [List.getElem?_eq_getElem hq] at this
                injection this⟩
              have := HO.out
              rw [e] at this
              exact this
            have HHA := hid (HD6.out.kept HB.out)
            have HTA := hid (H6.out.kept HB.out)
            have HHB := hid (HHA.out.kept (bel_alloc wr (.cells #[.slice al ns.length c7] 40)))
            have HTB := hid (HTA.out.kept (bel_alloc wr (.cells #[.slice al ns.length c7] 40)))
            have HSZ : Hid (w.heap.size ≤ w6.heap.size ∧ w6.heap.size ≤ wr.heap.size) := ⟨H6.out.le, HB.out.size⟩
            have HRB := hid (own_below HRL.out (bel_alloc wr (.cells #[.slice al ns.length c7] 40)))
            clear HO HXS HRL HHA HTA
            go_wp2_with (at_builtin; refine wpList_append_lies _ rfl _ _ 36 rfl w.heap.size 40 i1 (.slice none 0 0) 1 24 Try.underStrss ji jz0 jz1 jz2 rfl (by decide) _ hs.length hs rfl HHB.out.row ⟨wr.heap.size, 0, none⟩ 1 1 [.slice al ns.length c7] rfl rfl ?c1t ?c2t ?c3t ?c4t ?c5t ?c6t _ rfl ?_)
            case c2t => rfl
            case c4t => unfold maxLen; have := HHL.out; omega
            case c5t => have := HHL.out; omega
            case c6t => have := HSZ.out; omega
            intro g3 cap3 w10 hown hgrow hat hlt10
            have HE : Hid (Hd w10 w.heap.size (.slice (some ⟨g3, 0, none⟩) (hs.length + 1) cap3) (hs ++ [.slice al ns.length c7])) := HHB.out.push (own_base HRB.out HSZ.out.1) HNS.out (fun u hu g' e1 e2 => by
              obtain ⟨m, _, hm⟩ := HD6.out.els u hu
              have l1 := (hm.lt g' e1).2
              have l2 := (HRB.out.lt g' e2).1
              omega) hown hgrow
            have HTE := hid (HTB.out.grown HHB.out.row (by decide) (by decide) (by decide) hgrow)
            clear hown hgrow hat hlt10 HHB HTB HRB HSZ HB
            go_wp2_with fail
            go_roundg k
            case measure => omega
            case rel => exact ⟨j + 1, _, _, _, _, _, _, _, by omega, by go_num, by show _ = _; have := HHL.out; rw [List.length_append]; simp; omega, HTE, HE, HLN⟩
      · have h1I : ¬ (j : Int) < os.length := by omega
        have h1J : (os.length : Int) ≤ j := by omega
        go_wp2_with (go_at_call 14; refine HDC.out _ ?_; intro w4 h4 o4 z4; have HD4 := hid (HH.out.oth o4); have H4 := hid h4; clear h4 o4 z4)
        go_roundg k
        case measure => omega
        case rel => exact ⟨j + 1, _, _, _, _, _, _, _, by omega, by go_num, by show _ = _; have := HHL.out; omega, H4, HD4, HVL⟩
    have h2I : ¬ (j : Int) < os2.length := by omega
    by_cases h1 : j < os.length
    · obtain ⟨k, rfl⟩ : ∃ k, gk = k + 1 := ⟨gk - 1, by omega⟩
      have h1I : (j : Int) < os.length := by omega
      have hjb : j ≤ 9223372036854775806 := by omega
      obtain ⟨b, off, rfl, hc⟩ := HV.out.at h1
      have HK := hid (HZ.out _ (scr_mem h1))
      generalize os.getD j o0 = o at *
      obtain ⟨Kd, nm, A, B, S⟩ := o
      simp only at hc
      have HCE := hid hc
      clear hc
      have H4 := HT
      have HD4 := HH
      obtain ⟨y0, y1, y2, y3, y4⟩ := HCE.out _ HT.out.below
      have HLN : Hid ((dnV ⟨Kd, nm, A, B, S⟩ rm V).length ≤ 65536) := dnV_len _ rm V HVL.out
      have HDA : Hid (∀ w4 (Q : Ending → World → Prop), D3 w w.heap.size w4 da db dc rm cl cb V cl cb V clc cbc Vc → (∀ w', D3 w w.heap.size w' da db dc rm (dnC ⟨Kd, nm, A, B, S⟩ V cl) (dnB ⟨Kd, nm, A, B, S⟩ V cb) (dnV ⟨Kd, nm, A, B, S⟩ rm V) cl cb V clc cbc Vc → Oth w4 w' → w4.heap.size ≤ w'.heap.size → Q (.returned (.tuple #[.string (dnS ⟨Kd, nm, A, B, S⟩ V), .int .i64 (dnN ⟨Kd, nm, A, B, S⟩ rm V), .int .i64 (dnE ⟨Kd, nm, A, B, S⟩ rm V)])) w') → Calls Try.prog 14 #[.iface 24 (.pointer (some ⟨da, 0, none⟩)), .agg #[.int .i64 Kd, .string nm, .int .i64 A, .int .i64 B, .string S]] w4 Q) := fun w4 Q h4 hQ => h4.first (fun fa h => done_any da fa rm cl cb V ⟨Kd, nm, A, B, S⟩ HK.out.1 HK.out.2 _ h) hQ
      have HDB : Hid (∀ w4 (Q : Ending → World → Prop), D3 w w.heap.size w4 da db dc rm (dnC ⟨Kd, nm, A, B, S⟩ V cl) (dnB ⟨Kd, nm, A, B, S⟩ V cb) (dnV ⟨Kd, nm, A, B, S⟩ rm V) cl cb V clc cbc Vc → (∀ w', D3 w w.heap.size w' da db dc rm (dnC ⟨Kd, nm, A, B, S⟩ V cl) (dnB ⟨Kd, nm, A, B, S⟩ V cb) (dnV ⟨Kd, nm, A, B, S⟩ rm V) (dnC ⟨Kd, nm, A, B, S⟩ V cl) (dnB ⟨Kd, nm, A, B, S⟩ V cb) (dnV ⟨Kd, nm, A, B, S⟩ rm V) clc cbc Vc → Oth w4 w' → w4.heap.size ≤ w'.heap.size → Q (.returned (.tuple #[.string (dnS ⟨Kd, nm, A, B, S⟩ V), .int .i64 (dnN ⟨Kd, nm, A, B, S⟩ rm V), .int .i64 (dnE ⟨Kd, nm, A, B, S⟩ rm V)])) w') → Calls Try.prog 14 #[.iface 24 (.pointer (some ⟨db, 0, none⟩)), .agg #[.int .i64 Kd, .string nm, .int .i64 A, .int .i64 B, .string S]] w4 Q) := fun w4 Q h4 hQ => h4.rot.first (fun fa h => done_any db fa rm cl cb V ⟨Kd, nm, A, B, S⟩ HK.out.1 HK.out.2 _ h) (fun w' h => hQ w' h.rot.rot)
      have hmL := mth_List (some ⟨da, 0, none⟩)
      obtain ⟨ns, hns⟩ : ∃ ns, ns = (dnV ⟨Kd, nm, A, B, S⟩ rm V).map (fun x => x.1) := ⟨_, rfl⟩
      have HNS : Hid (ns.length ≤ 65536) := by have := HLN.out; show _ ≤ _; rw [hns, List.length_map]; exact this
      have HLA : Hid (∀ w4, D3 w w.heap.size w4 da db dc rm (dnC ⟨Kd, nm, A, B, S⟩ V cl) (dnB ⟨Kd, nm, A, B, S⟩ V cb) (dnV ⟨Kd, nm, A, B, S⟩ rm V) (dnC ⟨Kd, nm, A, B, S⟩ V cl) (dnB ⟨Kd, nm, A, B, S⟩ V cb) (dnV ⟨Kd, nm, A, B, S⟩ rm V) clc cbc Vc → Calls Try.prog 15 #[.pointer (some ⟨da, 0, none⟩)] w4 fun e w' => ∃ v, e = .returned v ∧ D3 w w.heap.size w' da db dc rm (dnC ⟨Kd, nm, A, B, S⟩ V cl) (dnB ⟨Kd, nm, A, B, S⟩ V cb) (dnV ⟨Kd, nm, A, B, S⟩ rm V) (dnC ⟨Kd, nm, A, B, S⟩ V cl) (dnB ⟨Kd, nm, A, B, S⟩ V cb) (dnV ⟨Kd, nm, A, B, S⟩ rm V) clc cbc Vc ∧ Lsd w' w4.heap.size v ns ∧ Below w4.heap.size w4 w') := fun w4 h4 => by rw [hns]; exact d_list h4 HLN.out
      have HLB : Hid (∀ w4, D3 w w.heap.size w4 da db dc rm (dnC ⟨Kd, nm, A, B, S⟩ V cl) (dnB ⟨Kd, nm, A, B, S⟩ V cb) (dnV ⟨Kd, nm, A, B, S⟩ rm V) (dnC ⟨Kd, nm, A, B, S⟩ V cl) (dnB ⟨Kd, nm, A, B, S⟩ V cb) (dnV ⟨Kd, nm, A, B, S⟩ rm V) clc cbc Vc → Calls Try.prog 15 #[.pointer (some ⟨db, 0, none⟩)] w4 fun e w' => ∃ v, e = .returned v ∧ D3 w w.heap.size w' da db dc rm (dnC ⟨Kd, nm, A, B, S⟩ V cl) (dnB ⟨Kd, nm, A, B, S⟩ V cb) (dnV ⟨Kd, nm, A, B, S⟩ rm V) (dnC ⟨Kd, nm, A, B, S⟩ V cl) (dnB ⟨Kd, nm, A, B, S⟩ V cb) (dnV ⟨Kd, nm, A, B, S⟩ rm V) clc cbc Vc ∧ Lsd w' w4.heap.size v ns ∧ Below w4.heap.size w4 w') := fun w4 h4 => by rw [hns]; refine (d_list h4.rot HLN.out).mono ?_; rintro e w' ⟨v, he, k1, k2⟩; exact ⟨v, he, k1.rot.rot, k2⟩
      clear hns
      generalize hCC : dnC ⟨Kd, nm, A, B, S⟩ V cl = cl1 at *
      generalize hCB : dnB ⟨Kd, nm, A, B, S⟩ V cb = cb1 at *
      generalize hCV : dnV ⟨Kd, nm, A, B, S⟩ rm V = V1 at *
      generalize dnS ⟨Kd, nm, A, B, S⟩ V = rS at *
      generalize dnN ⟨Kd, nm, A, B, S⟩ rm V = rN at *
      generalize dnE ⟨Kd, nm, A, B, S⟩ rm V = rE at *
      clear hCC hCB hCV
      go_wp2_with (first | (go_at_call 14; (with_reducible refine HDA.out _ _ H4.out ?_); intro w5 h5 o5 z5; have HD5 := hid (HD4.out.oth o5); have H5 := hid h5; obtain ⟨u0, u1, u2, u3, u4⟩ := HCE.out _ h5.below; clear h5 o5 z5) | (go_at_call 14; (with_reducible refine HDB.out _ _ H5.out ?_); intro w6 h6 o6 z6; have HD6 := hid (HD5.out.oth o6); have H6 := hid h6; clear h6 o6 z6) | (go_at_call 15; (with_reducible refine (HLA.out _ H6.out).mono ?_); rintro e w7 ⟨v7, rfl, h7, l7, b7⟩; have r7 := l7.1; obtain ⟨al, c7, e7, _⟩ := row_form (v := v7) (n := ns.length) r7; subst e7; clear r7; have H7 := hid h7; have L7 := hid l7; have B7 := hid b7; clear h7 l7 b7) | (go_at_call 15; (with_reducible refine (HLB.out _ H7.out).mono ?_); rintro e w8 ⟨v8, rfl, h8, l8, b8⟩; have L8 := hid l8; have L78 := hid (L7.out.below b8); have B8 := hid (B7.out.trans (b8.mono B7.out.size)); clear h8 l8 b8) | (go_at_call 16; refine (same_any _ _ _ _ _ _ L78.out.1 L8.out.1 (by have := HNS.out; omega)).mono ?_; rintro e w9 ⟨rfl, k9, rfl⟩))
      have HR9 := hid (own_below L78.out.1 (bel_drewN w8 k9))
      have HB9 := hid (B8.out.trans ((bel_drewN w8 k9).mono B8.out.size))
      generalize w8.drewN k9 = w9 at *
      clear HDA HDB HLA HLB H7 L7 B7 L8 L78 B8
      have HN7 : Hid (w6.heap.size = w6.heap.size) := rfl
      go_loopg [19] ns.length (fun k i w2 => ∃ (p : Nat) (xs : List Value), p + k = ns.length ∧ i = .int .i64 p ∧ Hid (xs.length = ns.length ∧ ∀ q, q < p → xs[q]? = some (.string ovw)) ∧ Hid (w2.ownsRow w6.heap.size 9 1 (.slice al ns.length c7) ns.length xs) ∧ Hid (Below w6.heap.size w6 w2))
      case atStart => exact ⟨0, _, by omega, rfl, ⟨by simp, fun q hq => absurd hq (Nat.not_lt_zero _)⟩, HR9, HB9⟩
      case round =>
        clear HR9 HB9
        obtain ⟨p, xs, hkp, rfl, HXS, HO, HB⟩ := hrel
        by_cases hlp : p < ns.length
        · obtain ⟨k2, rfl⟩ : ∃ k2, gk = k2 + 1 := ⟨gk - 1, by omega⟩
          obtain ⟨g, rfl⟩ : ∃ g, al = some ⟨g, 0, none⟩ := by
            rcases HO.out.2 with ⟨h1, h2⟩ | ⟨g, cap, cur, h1, _⟩
            · omega
            · injection h1 with h1; exact ⟨g, h1⟩
          have hgw := (World.ownsRow.lt HO.out g rfl).1
          obtain ⟨x0, hx0⟩ : ∃ x, xs[p]? = some x := ⟨_, List.getElem?_eq_getElem (by have := HXS.out.1; omega)⟩
          have k0 := (World.ownsRow.cellAt HO.out p (by omega)).trans hx0
          have f0 := World.ownsRow.frozenAt HO.out p
          have o1 := World.ownsRow.stored HO.out p (.string ovw)
          have HO3 := hid o1.1
          have HB3 : Hid (Below w6.heap.size w6 (wr.setCell ⟨g, p, none⟩ (.string ovw))) := HB.out.setCell (by show w6.heap.size ≤ g; omega) _
          have HX3 : Hid ((xs.set p (.string ovw)).length = ns.length ∧ ∀ q, q < p + 1 → (xs.set p (.string ovw))[q]? = some (.string ovw)) := by
            refine ⟨by rw [List.length_set]; exact HXS.out.1, fun q hq => ?_⟩
            by_cases e : p = q
            · subst e; rw [List.getElem?_set_self (by rw [HXS.out.1]; omega)]
            · rw [List.getElem?_set_ne e]; exact HXS.out.2 q (by omega)
          have hpn : p ≤ 65536 := by have := HNS.out; omega
          have b1 : (0 : Int) ≤ (p : Int) := by omega
          have b2 : (p : Int) < ns.length := by omega
          clear o1 hx0 HO HB HXS
          unfold ovw at *
          go_wp2_with fail
          go_roundg k2
          case measure => omega
          case rel => exact ⟨p + 1, _, by omega, by go_num, HX3, HO3, HB3⟩
        · have hlpI : ¬ (p : Int) < ns.length := by omega
          have HRL : Hid (wr.ownsRow w6.heap.size 9 1 (.slice al ns.length c7) ns.length (List.replicate ns.length (.string ovw))) := by
            have e : xs = List.replicate ns.length (.string ovw) := List.eq_replicate_iff.2 ⟨HXS.out.1, fun b hb => by
              obtain ⟨q, hq, rfl⟩ := List.mem_iff_getElem.1 hb
              have := HXS.out.2 q (by have := HXS.out.1; omega)
              rw [List.getElem?_eq_getElem hq] at this
              injection this⟩
            have := HO.out
            rw [e] at this
            exact this
          have HHA := hid (HD6.out.kept HB.out)
          have HTA := hid (H6.out.kept HB.out)
          have HHB := hid (HHA.out.kept (bel_alloc wr (.cells #[.slice al ns.length c7] 40)))
          have HTB := hid (HTA.out.kept (bel_alloc wr (.cells #[.slice al ns.length c7] 40)))
          have HSZ : Hid (w.heap.size ≤ w6.heap.size ∧ w6.heap.size ≤ wr.heap.size) := ⟨H6.out.le, HB.out.size⟩
          have HRB := hid (own_below HRL.out (bel_alloc wr (.cells #[.slice al ns.length c7] 40)))
          clear HO HXS HRL HHA HTA
          go_wp2_with (at_builtin; refine wpList_append_lies _ rfl _ _ 36 rfl w.heap.size 40 i1 (.slice none 0 0) 1 24 Try.underStrss ji jz0 jz1 jz2 rfl (by decide) _ hs.length hs rfl HHB.out.row ⟨wr.heap.size, 0, none⟩ 1 1 [.slice al ns.length c7] rfl rfl ?c1f ?c2f ?c3f ?c4f ?c5f ?c6f _ rfl ?_)
          case c2f => rfl
          case c4f => unfold maxLen; have := HHL.out; omega
          case c5f => have := HHL.out; omega
          case c6f => have := HSZ.out; omega
          intro g3 cap3 w10 hown hgrow hat hlt10
          have HE : Hid (Hd w10 w.heap.size (.slice (some ⟨g3, 0, none⟩) (hs.length + 1) cap3) (hs ++ [.slice al ns.length c7])) := HHB.out.push (own_base HRB.out HSZ.out.1) HNS.out (fun u hu g' e1 e2 => by
            obtain ⟨m, _, hm⟩ := HD6.out.els u hu
            have l1 := (hm.lt g' e1).2
            have l2 := (HRB.out.lt g' e2).1
            omega) hown hgrow
          have HTE := hid (HTB.out.grown HHB.out.row (by decide) (by decide) (by decide) hgrow)
          clear hown hgrow hat hlt10 HHB HTB HRB HSZ HB
          go_wp2_with fail
          go_roundg k
          case measure => omega
          case rel => exact ⟨j + 1, _, _, _, _, _, _, _, by omega, by go_num, by show _ = _; have := HHL.out; rw [List.length_append]; simp; omega, HTE, HE, HLN⟩
    · have h1I : ¬ (j : Int) < os.length := by omega
      obtain ⟨vha, vhc, rfl⟩ := HH.out.form
      have HHS : Hid (hs.length ≤ 65536) := by have := HHL.out; show _ ≤ _; omega
      clear HHL HV HV2 HZ HZ2 HL HL2 HM hjM
      go_wp2_with fail
      go_loopg [20] hs.length (fun k i w2 => ∃ p : Nat, p + k = hs.length ∧ i = .int .i64 p ∧ Hid (D3 w w.heap.size w2 da db dc rm cl cb V cl cb V clc cbc Vc) ∧ Hid (Hd w2 w.heap.size (.slice vha hs.length vhc) hs))
      case atStart => exact ⟨0, by omega, rfl, HT, HH⟩
      case round =>
        clear HT HH
        obtain ⟨p, hkp, rfl, HT, HH⟩ := hrel
        by_cases hlp : p < hs.length
        · obtain ⟨k2, rfl⟩ : ∃ k2, gk = k2 + 1 := ⟨gk - 1, by omega⟩
          obtain ⟨gh, v0, rfl, hmem, hk0⟩ := HH.out.at hlp
          have k0 := hk0 _ HH.out
          have hk0' := hid hk0
          have hps := HHS.out
          have b1 : (0 : Int) ≤ (p : Int) := by omega
          have b2 : (p : Int) < hs.length := by omega
          obtain ⟨n0, hn0, hrow0⟩ := HH.out.els v0 hmem
          have HR0 := hid hrow0
          have HG0 : Hid (Gr hs v0 n0 v0 n0 (List.replicate n0 (.string ovw))) := Gr.start hrow0
          have HME := hid hmem
          clear hrow0 hmem hk0
          go_wp2_with fail
          go_loopg [21, 22] 8 (fun k vg i w2 => ∃ (q m : Nat) (ys : List Value), q + k = 8 ∧ i = .int .i64 q ∧ Hid (m = n0 + q) ∧ Hid (w2.ownsRow w.heap.size 9 1 vg m ys) ∧ Hid (Gr hs v0 n0 vg m ys) ∧ Hid (D3 w w.heap.size w2 da db dc rm cl cb V cl cb V clc cbc Vc) ∧ Hid (Hd w2 w.heap.size (.slice (some ⟨gh, 0, none⟩) hs.length vhc) hs))
          case atStart => exact ⟨0, n0, _, by omega, rfl, rfl, HR0, HG0, HT, HH⟩
          case round =>
            clear HT HH HR0 HG0 k0
            obtain ⟨q, m, ys, hkq, rfl, HMQ, HRQ, HG, HT, HH⟩ := hrel
            by_cases hlq : q < 8
            · obtain ⟨k3, rfl⟩ : ∃ k3, gk = k3 + 1 := ⟨gk - 1, by omega⟩
              have HHA := hid (HH.out.kept (bel_alloc wr (.cells #[.string ⟨#[103, 114, 111, 119, 110]⟩] 9)))
              have HTA := hid (HT.out.kept (bel_alloc wr (.cells #[.string ⟨#[103, 114, 111, 119, 110]⟩] 9)))
              have HRA := hid (own_below HRQ.out (bel_alloc wr (.cells #[.string ⟨#[103, 114, 111, 119, 110]⟩] 9)))
              have HSZ : Hid (w.heap.size ≤ wr.heap.size) := HT.out.le
              have hlqI : (q : Int) < 8 := by omega
              clear HT HH HRQ
              go_wp2_with (at_builtin; refine wpList_append_two _ rfl _ _ 40 rfl w.heap.size 9 i2 (.string ⟨#[]⟩) 1 16 Try.underStrs1 ki kz0 kz1 kz2 rfl (by decide) _ m ys rfl HRA.out ⟨wr.heap.size, 0, none⟩ 1 1 [.string ⟨#[103, 114, 111, 119, 110]⟩] rfl rfl ?d1 ?d2 ?d3 ?d4 ?d5 ?d6 ?_)
              try (case d1 => exact World.news_of_block (heap_new wr _))
              try (case d2 => first | rfl | (intro u hu; rw [List.mem_singleton.1 hu]; rfl))
              try (case d3 => omega)
              try (case d4 => unfold maxLen; have := HMQ.out; omega)
              try (case d5 => have := HMQ.out; omega)
              try (case d6 => have := HSZ.out; first | omega | (simp; omega))
              intro g3 cap3 w10 hown hor
              have hst := Gr.step HG.out HME.out hn0 HHA.out HRA.out hown (by have e : (wr.alloc (.cells #[.string ⟨#[103, 114, 111, 119, 110]⟩] 9)).heap.size = wr.heap.size + 1 := by { simp }; rw [e]; exact hor) HTA.out
              have HO2 := hid hown
              have HST := hid hst
              clear hown hor hst HHA HTA HRA HG
              go_wp2_with fail
              go_roundg k3
              case measure => omega
              case rel => exact ⟨q + 1, m + 1, _, by omega, by go_num, by show _ = _; have := HMQ.out; omega, HO2, HST.out.1, HST.out.2.2, HST.out.2.1⟩
            · have hlqI : ¬ (q : Int) < 8 := by omega
              go_wp2_with fail
              go_roundg k2
              case measure => omega
              case rel => exact ⟨p + 1, by omega, by go_num, HT, HH⟩
        · have hlpI : ¬ (p : Int) < hs.length := by omega
          go_wp2_with fail
          go_loopg [23] hs.length (fun k i w2 => ∃ p : Nat, p + k = hs.length ∧ i = .int .i64 p ∧ Hid (D3 w w.heap.size w2 da db dc rm cl cb V cl cb V clc cbc Vc) ∧ Hid (Hd w2 w.heap.size (.slice vha hs.length vhc) hs))
          case atStart => exact ⟨0, by omega, rfl, HT, HH⟩
          case round =>
            clear HT HH hkp hlp hlpI
            obtain ⟨p, hkp, rfl, HT, HH⟩ := hrel
            by_cases hlp : p < hs.length
            · obtain ⟨k2, rfl⟩ : ∃ k2, gk = k2 + 1 := ⟨gk - 1, by omega⟩
              obtain ⟨gh, v0, rfl, hmem, hk0⟩ := HH.out.at hlp
              have HK0 := hid hk0
              have hps := HHS.out
              have b1 : (0 : Int) ≤ (p : Int) := by omega
              have b2 : (p : Int) < hs.length := by omega
              obtain ⟨a0, n0, c0, rfl⟩ := HH.out.shape hmem
              have hn0 := (HH.out.elt hmem).1
              have HME := hid hmem
              clear hmem hk0
              go_wp2_with fail
              go_loopg [24] n0 (fun k i w2 => ∃ q : Nat, q + k = n0 ∧ i = .int .i64 q ∧ Hid (D3 w w.heap.size w2 da db dc rm cl cb V cl cb V clc cbc Vc) ∧ Hid (Hd w2 w.heap.size (.slice (some ⟨gh, 0, none⟩) hs.length vhc) hs))
              case atStart => exact ⟨0, by omega, rfl, HT, HH⟩
              case round =>
                clear HT HH
                obtain ⟨q, hkq, rfl, HT, HH⟩ := hrel
                have k0 := HK0.out _ HH.out
                by_cases hlq : q < n0
                · obtain ⟨k3, rfl⟩ : ∃ k3, gk = k3 + 1 := ⟨gk - 1, by omega⟩
                  obtain ⟨g0, rfl, k1⟩ := HH.out.cel HME.out hlq
                  have hlqI : (q : Int) < n0 := by omega
                  have b3 : (0 : Int) ≤ (q : Int) := by omega
                  unfold ovw at k1
                  go_wp2_with fail
                  go_roundg k3
                  case measure => omega
                  case rel => exact ⟨q + 1, by omega, by go_num, HT, HH⟩
                · have hlqI : ¬ (q : Int) < n0 := by omega
                  go_wp2_with fail
                  go_roundg k2
                  case measure => omega
                  case rel => exact ⟨p + 1, by omega, by go_num, HT, HH⟩
            · have hlpI : ¬ (p : Int) < hs.length := by omega
              have hmL := mth_List (some ⟨da, 0, none⟩)
              have hmM := mth_List (some ⟨db, 0, none⟩)
              go_wp2_with (first | (go_at_call 15; (with_reducible refine (d_list HT.out HVL.out).mono ?_); rintro e w7 ⟨v7, rfl, h7, l7, b7⟩; have H7 := hid h7; have L7 := hid l7; clear h7 l7 b7) | (go_at_call 15; (with_reducible refine (d_list H7.out.rot HVL.out).mono ?_); rintro e w8 ⟨v8, rfl, h8, l8, b8⟩; have H8 := hid h8.rot.rot; have L8 := hid l8; have L78 := hid (L7.out.below b8); clear h8 l8 b8) | (go_at_call 16; refine (same_any _ _ _ _ _ _ L78.out.1 L8.out.1 (by have := HVL.out; rw [List.length_map]; omega)).mono ?_; rintro e w9 ⟨rfl, k9, rfl⟩) | (go_at_call 17; (with_reducible refine (d_used (H8.out.kept (bel_drewN _ _))).mono ?_); rintro e w10 ⟨rfl, k10, rfl⟩) | (go_at_call 17; (with_reducible refine (d_used (H8.out.rot.kept (bel_drewN _ _))).mono ?_); rintro e w11 ⟨rfl, k11, rfl⟩))
              go_ret
              refine ⟨?_, (H8.out.kept (bel_drewN _ _)).below⟩
              first | rfl | simp
end Go.Proofs.Ytclelafnjfhdjaa
