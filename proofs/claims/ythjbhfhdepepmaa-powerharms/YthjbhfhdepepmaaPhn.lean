/- PowerHarms: its walk. -/
import Derived.Test.YthjbhfhdepepmaaPMD
namespace Go.Proofs.Ythjbhfhdepepmaa
open Go.RowKit
abbrev T3 (w wr : World) (a b c : Nat) (Va Vb Vc : Vw) : Prop := D3 w w.heap.size wr a b c 1048576 0 0 Va 0 0 Vb 0 0 Vc
theorem T3.da {w wr : World} {a b c : Nat} {Va Vb Vc : Vw} (h : T3 w wr a b c Va Vb Vc) : ∃ fa, Ds wr a fa 1048576 0 0 Va ∧ ∀ i, fa i → w.heap.size ≤ i := let ⟨fa, _, _, k1, _, _, _, _, _, k7, _⟩ := h; ⟨fa, k1, k7⟩
theorem _root_.Go.Proofs.Ythjbhfhdepepmaa.D3.da3 {w wr : World} {a b c : Nat} {Va Vb Vc : Vw} (h : D3 w w.heap.size wr a b c 1048576 0 0 Va 0 0 Vb 0 0 Vc) : ∃ fa, Ds wr a fa 1048576 0 0 Va ∧ ∀ i, fa i → w.heap.size ≤ i := let ⟨fa, _, _, k1, _, _, _, _, _, k7, _⟩ := h; ⟨fa, k1, k7⟩
theorem T3.whole {w wr : World} {a b c : Nat} {Va Vb Vc : Vw} (h : T3 w wr a b c Va Vb Vc) (hs : SV 1048576 Va) : Calls Try.prog 32 #[.pointer (some ⟨a, 0, none⟩)] wr fun e w' => ∃ v, e = .returned v ∧ w'.ownsRow wr.heap.size 40 3 v Va.length (ffcs Va) ∧ Below wr.heap.size wr w' ∧ T3 w w' a b c Va Vb Vc := by
  obtain ⟨fa, h1, _⟩ := h.da
  refine (whole_any a fa 1048576 0 0 Va wr h1 hs).mono ?_
  rintro e w' ⟨v, he, k1, k2⟩
  exact ⟨v, he, k1, k2, h.kept k2⟩
theorem own_belF {w w' : World} {B n : Nat} {v : Value} {l : List Value} (h : w.ownsRow B 40 3 v n l) (hb : Below w.heap.size w w') : w'.ownsRow B 40 3 v n l := own_othF h (Oth.below hb)
/-- A clone that is read. -/
theorem clone_read (nm : ByteArray) (w11 w12 : World) (fc : Nat → Prop) (C : Nat) (Vx : Vw) (n : Int) (hd : Ds w12 C fc 1048576 0 0 Vx) (hf : ∀ i, fc i → w11.heap.size ≤ i) (hb : Below w11.heap.size w11 w12) (hn : nm.size ≤ maxLen) : Calls Try.prog 37 #[.pointer (some ⟨C, 0, none⟩), .string nm, .int .i64 0, .int .i64 n] w12 fun e w' => e = .returned (.tuple #[.string (rdS (vl nm Vx) 0 n), .int .i64 (rdE (vl nm Vx) 0 n)]) ∧ Below w11.heap.size w11 w' := by
  refine (s_read C fc 1048576 0 0 Vx nm w12 hd 0 n hn (by decide)).mono ?_
  rintro e w' ⟨he, fc', k1, k2, k3⟩
  exact ⟨he, hb.trans (k2.below hb.size (fun i hi hfi => by have := hf i hfi; omega))⟩
/-- A world that has but drawn. -/
def Dw (w wx : World) : Prop := wx.heap.size = w.heap.size ∧ Below w.heap.size w wx
theorem Dw.drew {w wx : World} (h : Dw w wx) : Dw w wx.drew := ⟨h.1, h.2.drew⟩
theorem Dw.start (w : World) (k : Nat) : Dw w (w.drewN k) := ⟨rfl, bel_drewN w k⟩
/-- A clone in new memory. -/
def Cr (w : World) (C : Nat) (Vx : Vw) (wx : World) : Prop := (∃ fc, Ds wx C fc 1048576 0 0 Vx ∧ ∀ i, fc i → w.heap.size ≤ i) ∧ Below w.heap.size w wx
theorem Cr.drew {w : World} {C : Nat} {Vx : Vw} {wx : World} (h : Cr w C Vx wx) : Cr w C Vx wx.drew := by
  obtain ⟨⟨fc, h1, h2⟩, h3⟩ := h
  exact ⟨⟨fc, h1.kept (Below.drew (Below.refl _ _)), h2⟩, h3.drew⟩
theorem clone_at {w : World} {a : Nat} {fa : Nat → Prop} {Vx : Vw} (hd : Ds w a fa 1048576 0 0 Vx) (hs : Vx.length ≤ 65536) {wx : World} (h : Dw w wx) : Calls Try.prog 33 #[.pointer (some ⟨a, 0, none⟩)] wx fun e w' => e = .returned (.pointer (some ⟨w.heap.size, 0, none⟩)) ∧ Cr w w.heap.size Vx w' := by
  have h1 := s_clone a fa 1048576 0 0 Vx wx (hd.kept h.2) hs
  rw [h.1] at h1
  refine h1.mono ?_
  rintro e w' ⟨he, ⟨fc, k1, k2⟩, k3⟩
  exact ⟨he, ⟨fc, k1, k2⟩, h.2.trans k3⟩
theorem read_at {w : World} {C : Nat} {Vx : Vw} {wx : World} (h : Cr w C Vx wx) (nm : ByteArray) (n : Int) (hn : nm.size ≤ maxLen) : Calls Try.prog 37 #[.pointer (some ⟨C, 0, none⟩), .string nm, .int .i64 0, .int .i64 n] wx fun e w' => e = .returned (.tuple #[.string (rdS (vl nm Vx) 0 n), .int .i64 (rdE (vl nm Vx) 0 n)]) ∧ Below w.heap.size w w' := by
  obtain ⟨⟨fc, h1, h2⟩, h3⟩ := h
  exact clone_read nm w wx fc C Vx n h1 h2 h3 hn
theorem cell_bel {w wx : World} {G : Nat} {c : Array Value} {T : TypeId} (hb : Below w.heap.size w wx) (h : w.heap[G]? = some (.cells c T (0, 0))) : wx.heap[G]? = some (.cells c T (0, 0)) := (hb.block G (lt_of_heap h)).trans h
/-- One disk, and a row of files beside it. -/
def E1 (w : World) (d : Nat) (Vx : Vw) (B : Nat) (v : Value) (N : Nat) (V : Vw) (wx : World) : Prop := (∃ fd, Ds wx d fd 1048576 0 0 Vx ∧ ∀ i, fd i → w.heap.size ≤ i) ∧ Below w.heap.size w wx ∧ wx.ownsRow B 40 3 v N (ffcs V)
theorem E1.kept {w : World} {d : Nat} {Vx : Vw} {B : Nat} {v : Value} {N : Nat} {V : Vw} {wx wy : World} (h : E1 w d Vx B v N V wx) (hb : Below wx.heap.size wx wy) : E1 w d Vx B v N V wy := by
  obtain ⟨⟨fd, h1, h2⟩, h3, h4⟩ := h
  exact ⟨⟨fd, h1.kept hb, h2⟩, h3.trans (hb.mono h3.size), own_belF h4 hb⟩
theorem E1.step {w : World} {d : Nat} {Vx V2 : Vw} {B : Nat} {v : Value} {N : Nat} {V : Vw} {wx : World} (h : E1 w d Vx B v N V wx) {f : FuncId} {args : Array Value} {r : Value} (hc : ∀ fd, Ds wx d fd 1048576 0 0 Vx → Calls Try.prog f args wx fun e w' => e = .returned r ∧ Aft wx fd d 1048576 0 0 V2 w') : Calls Try.prog f args wx fun e w' => e = .returned r ∧ E1 w d V2 B v N V w' ∧ Oth wx w' := by
  obtain ⟨⟨fd, h1, h2⟩, h3, h4⟩ := h
  refine (hc fd h1).mono ?_
  rintro e w' ⟨he, fd', k1, k2, k3⟩
  have ho := h1.oth k2
  refine ⟨he, ⟨⟨fd', k1, fun i hi => ?_⟩, h3.trans (k2.below h3.size (fun i hi hf => by have := h2 i hf; omega)), own_othF h4 ho⟩, ho⟩
  rcases k3 i hi with k | k
  · exact h2 i k
  · exact Nat.le_trans h3.size k
theorem SV.drop {rm : Nat} {V : Vw} (h : SV rm V) (j : Nat) : SV rm (V.drop j) := by
  have e : vt V = vt (V.take j) + vt (V.drop j) := by rw [← vt_app, List.take_append_drop]
  exact ⟨h.srt.drop, fun x hx => h.lng x (List.mem_of_mem_drop hx), ⟨by have := h.rom.1; omega, h.rom.2⟩, by rw [List.length_drop]; have := h.cnt; omega⟩
theorem vt_drop (V : Vw) (j : Nat) : vt (V.drop j) ≤ vt V := by
  have e : vt V = vt (V.take j) + vt (V.drop j) := by rw [← vt_app, List.take_append_drop]
  omega
theorem vl_tail {rm : Nat} {nm : ByteArray} {x : List UInt8 × Nat} {R : Vw} (h : SV rm ((nm, x) :: R)) : vl nm R = none := by
  have h1 := hd_bf (X := x.1) (sy := x.2) h
  unfold vl
  rw [Option.map_eq_none_iff, List.find?_eq_none]
  intro y hy
  simpa using fun e => bf_ne (h1 y hy) e.symm
def nmd (fs : List Ftp) (nm : ByteArray) : Bool := fs.any (fun f => decide (f.1 = nm))
theorem nmd_at {fs : List Ftp} {nm : ByteArray} {j : Nat} (hj : j < fs.length) : nmd (fs.take (j + 1)) nm = (nmd (fs.take j) nm || decide ((fs.getD j p00).1 = nm)) := by
  unfold nmd
  rw [List.take_succ_eq_append_getElem hj, List.any_append, List.getD_eq_getElem?_getD, List.getElem?_eq_getElem hj]
  simp
theorem nmd_no {fs : List Ftp} {nm : ByteArray} (h : nmd fs nm = false) : ∀ f ∈ fs, nm ≠ f.1 := fun f hf e => by
  unfold nmd at h
  rw [List.any_eq_false] at h
  exact h f hf (by simpa using e.symm)
set_option maxRecDepth 20000 in
set_option maxHeartbeats 8000000 in
theorem harms_walk (af : Option Addr) (capf : Nat) (fl : List (ByteArray × ByteArray × Nat)) (a : Option Addr) (cap : Nat) (ms : List Ft3) (fs : List Ftp) (kp : Nat) (D : ByteArray) (w : World) (hFl : Fls w af fl) (hlf : fl.length ≤ 9223372036854775806) (hnf : ∀ f ∈ fl, FlOk f) (hF : FtIn w a ms fs) (hl : ms.length ≤ 2932031007402) (hkp : kp < 256) (hD : D.size ≤ 140737488355328) :
    Calls Try.prog 8 #[.slice af fl.length capf, .slice a ms.length cap, .int .u8 kp, .string D] w fun e w' => e = .returned (.bool true) ∧ Below w.heap.size w w' := by
  have HFl := hid (fails_any w)
  have HLd : Hid (∀ wx, Below w.heap.size w wx → Calls Try.prog 14 #[.int .i64 1048576, .slice af fl.length capf] wx fun e w' => ∃ d r, e = .returned (.tuple #[.pointer (some ⟨d, 0, none⟩), .pointer (some ⟨r, 0, none⟩), .bool true]) ∧ Pr wx wx.heap.size w' d r (clamp 1048576) 0 0 (lds (clamp 1048576) fl) 0 0 (lds (clamp 1048576) fl)) := fun wx hx => laid_any 1048576 af capf fl wx (by
    rcases hFl with h | ⟨b, off, h1, h2, h3⟩
    · exact Or.inl h
    · refine Or.inr ⟨b, off, h1, Nat.lt_of_lt_of_le h2 hx.size, fun j hj => ?_⟩
      have hh : wx.heap[b]? = w.heap[b]? := hx.block b h2
      have hc : ∀ o, wx.cell? ⟨b, o, none⟩ = w.cell? ⟨b, o, none⟩ := fun o => by simp [World.cell?, hh]
      rw [hc, hc, hc]
      exact h3 j hj) hlf hnf
  have hSV : SV (clamp 1048576) (lds (clamp 1048576) fl) := SV.lds (clamp_le _) fl
  have hrm : clamp 1048576 = 1048576 := by decide
  rw [hrm] at HLd hSV
  generalize lds 1048576 fl = V at *
  clear hrm hFl hnf
  have HS := hid hSV
  have hct := hSV.cnt
  have HF := hid hF
  clear hSV hF
  generalize fl.length = NF at *
  generalize hM : ms.length = M at *
  have HM := hid hM
  clear hM
  go_enter Try.func8, Try.ntmps8
  go_wp2_with (first | (go_at_call 9; refine HFl.out.mono ?_; rintro e w1 ⟨rfl, hb1⟩; have HB1 := hid hb1; clear hb1) | (go_at_call 14; refine (HLd.out _ HB1.out).mono ?_; rintro e w2 ⟨d, r, rfl, hp2⟩; obtain ⟨fd, fr, hd2, _, _, hfd, _, hs2, hb2⟩ := hp2; have HD2 := hid hd2; have HFd := hid hfd; have HB2 := hid (HB1.out.trans (hb2.mono HB1.out.size)); clear hd2 hb2 hfd hs2))
  refine (s_clone d fd 1048576 0 0 V w2 HD2.out hct).mono ?_
  rintro e w3 ⟨rfl, ⟨f1, hd3, hf1⟩, hb3⟩
  have HD3 := hid hd3
  have HF1 := hid hf1
  have HB3 := hid hb3
  clear hd3 hf1 hb3
  go_wp2_with fail
  refine (s_clone d fd 1048576 0 0 V w3 (HD2.out.kept HB3.out) hct).mono ?_
  rintro e w4 ⟨rfl, ⟨f2, hd4, hf2⟩, hb4⟩
  have HT0 : Hid (T3 w w4 w2.heap.size w3.heap.size d V V V) := ⟨f1, f2, fd, HD3.out.kept hb4, hd4, (HD2.out.kept HB3.out).kept hb4,
    fun i h1 h2 => by have := HD3.out.lt h1; have := hf2 i h2; omega,
    fun i h2 h1 => by have := HD2.out.lt h1; have := hf2 i h2; have := HB3.out.size; omega,
    fun i h1 h2 => by have := HD2.out.lt h1; have := HF1.out i h2; omega,
    fun i h1 => Nat.le_trans HB2.out.size (HF1.out i h1),
    fun i h1 => Nat.le_trans HB2.out.size (Nat.le_trans HB3.out.size (hf2 i h1)),
    fun i h1 => Nat.le_trans HB1.out.size (HFd.out i h1),
    Nat.le_trans HB2.out.size (Nat.le_trans HB3.out.size hb4.size),
    HB2.out.trans ((HB3.out.mono HB2.out.size).trans (hb4.mono (Nat.le_trans HB2.out.size HB3.out.size)))⟩
  generalize w2.heap.size = C1 at *
  generalize w3.heap.size = C2 at *
  clear hb4 hd4 hf2 HD2 HD3 HF1 HFd HB1 HB2 HB3 HFl HLd
  go_wp2_with fail
  go_loopg [50] M (fun k vi wr => ∃ j : Nat, j + k = M ∧ vi = .int .i64 j ∧ Hid (T3 w wr C1 C2 d (hms 1048576 (fs.take j) V) V V))
  case atStart => exact ⟨0, by omega, rfl, HT0⟩
  case round =>
    clear HT0
    obtain ⟨j, hj, rfl, HQ⟩ := hrel
    by_cases hlt : j < M
    · obtain ⟨k', rfl⟩ : ∃ k', gk = k' + 1 := ⟨gk - 1, by omega⟩
      have hltI : (j : Int) < M := by omega
      have hMI : (M : Int) ≤ 2932031007402 := by omega
      have hjf : j < fs.length := by rw [← HF.out.len, HM.out]; exact hlt
      obtain ⟨r1, r2, r3, r4, r7, r8, r6, _⟩ := HF.out.at1 j hjf
      have hbw := HQ.out.below
      rcases HF.out.fts hbw with e | ⟨b, off, rfl, hbl, hc⟩
      · exact absurd hlt (by rw [← HM.out, e]; simp)
      obtain ⟨q0, q1, q2⟩ := hc j (by rw [HM.out]; exact hlt)
      have hwf : ∀ f1 : Nat → Prop, (∀ i, f1 i → w.heap.size ≤ i) → ∀ bb oo, (ms.getD j t00).2.2.1 = some ⟨bb, oo, none⟩ → (fs.getD j p00).2.2 ≠ [] → ¬ f1 bb := fun f1 hf1 bb oo e1 hne => (HF.out.ftw hbw hf1).2 j hjf |>.2.2.2.2.1 bb oo e1 hne
      have HE := hid (hms_at (rm := 1048576) (V := V) hjf)
      generalize fs.getD j p00 = P at *
      generalize ms.getD j t00 = T at *
      obtain ⟨pn, pk, pw⟩ := P
      obtain ⟨tn, tk, oa, on, oc⟩ := T
      simp only [ovS] at r1 r2 r3 r4 r6 r7 r8 q0 q1 q2 hwf
      subst r1 r2 r3
      have hbz : Below wr.heap.size wr ((wr.alloc (.cells #[.string tn, .int .i64 tk, .slice oa pw.length oc] 24)).alloc (.cells #[.string tn, .int .i64 tk, .slice oa pw.length oc] 24)) := ((Below.refl _ _).alloc (Nat.le_refl _) _).alloc (by simp) _
      have hgz : ((wr.alloc (.cells #[.string tn, .int .i64 tk, .slice oa pw.length oc] 24)).alloc (.cells #[.string tn, .int .i64 tk, .slice oa pw.length oc] 24)).heap[wr.heap.size + 1]? = some (.cells #[.string tn, .int .i64 tk, .slice oa pw.length oc] 24 (0, 0)) := by
        have := heap_new (wr.alloc (.cells #[.string tn, .int .i64 tk, .slice oa pw.length oc] 24)) (.cells #[.string tn, .int .i64 tk, .slice oa pw.length oc] 24)
        simpa using this
      have HCA := hid ((HQ.out.kept hbz).firstF (fun fa h1 hf => harm_one C1 fa 1048576 0 0 _ tn tk oa oc pw _ h1 (HS.out.hms _) (wr.heap.size + 1) hgz (r4.kept (hbw.trans (hbz.mono hbw.size))) (fun bb oo e1 hne => hwf fa hf bb oo e1 hne) (by unfold maxLen; omega) r7 r8))
      rw [hms_one, ← HE.out] at HCA
      have HJ := hid hj
      clear hc hbl hj HQ hwf r4 r6 r7 r8 hbz hgz hjf hlt hbw HE
      go_wp2_with (go_at_call 23; refine HCA.out.mono ?_; rintro e w5 ⟨rfl, hq5, _⟩; have HQ5 := hid hq5; clear hq5)
      go_roundg k'
      case measure => omega
      case rel => exact ⟨j + 1, by have := HJ.out; omega, congrArg (Value.int .i64) (by omega), HQ5.out⟩
    · have hltI : ¬ (j : Int) < M := by omega
      have HJ : Hid (fs.take j = fs) := List.take_of_length_le (by rw [← HF.out.len, HM.out]; omega)
      rw [HJ.out] at HQ
      have HHA : Hid (Calls Try.prog 23 #[.pointer (some ⟨C2, 0, none⟩), .slice a M cap] wr fun e w' => e = .returned (.tuple #[]) ∧ T3 w w' C2 d C1 (hms 1048576 fs V) V (hms 1048576 fs V) ∧ Oth wr w') := by
        have h1 := HQ.out.rot.firstF (fun fa h1 hf => harmall_any C2 fa 1048576 0 0 V a cap ms fs wr h1 HS.out (HF.out.fts HQ.out.below) (HF.out.ftw HQ.out.below hf) (HF.out.haf hf) (by rw [HM.out]; omega))
        rw [HM.out] at h1
        exact h1
      clear HQ HJ
      go_wp2_with (go_at_call 23; refine HHA.out.mono ?_; rintro e w6 ⟨rfl, hq6, _⟩; have HQ6 := hid hq6; clear hq6)
      have HSA := hid (HS.out.hms fs)
      have hcA := HSA.out.cnt
      have HNE : Hid (∀ n, (∀ f ∈ fs, n ≠ f.1) → vl n (hms 1048576 fs V) = vl n V) := fun n hn => vl_hms_ne 1048576 fs V hn
      generalize hms 1048576 fs V = VA at *
      clear HHA
      refine (T3.whole HQ6.out.rot.rot HSA.out).mono ?_
      rintro e w7 ⟨v1, rfl, ho1, hb7, hq7⟩
      have HO1 := hid ho1
      have HQ7 := hid hq7
      clear ho1 hb7 hq7 HQ6
      go_wp2_with fail
      refine (T3.whole HQ7.out.rot HSA.out).mono ?_
      rintro e w8 ⟨v2, rfl, ho2, hb8, hq8⟩
      have HO1' := hid (own_belF HO1.out hb8)
      have HO2 := hid ho2
      have HQ8 := hid hq8
      clear ho2 hb8 hq8 HQ7 HO1
      go_wp2_with fail
      refine (alike_yes VA _ _ v1 v2 w8 HO1'.out HO2.out hcA).mono ?_
      rintro e w9 ⟨rfl, hb9⟩
      have HQ9 := hid (HQ8.out.kept hb9)
      clear HO1' HO2 HQ8 hb9
      go_wp2_with fail
      refine (T3.whole HQ9.out.rot HS.out).mono ?_
      rintro e w10 ⟨v3, rfl, ho3, hb10, hq10⟩
      have HQ10 := hid hq10
      have HW3 : Hid (∀ wx, Below w10.heap.size w10 wx → T3 w wx d C1 C2 V VA VA) := fun wx hb => HQ10.out.kept hb
      have HFA : Hid (∀ j, j < V.length → ∃ g c, v3 = .slice (some ⟨g, 0, none⟩) V.length c ∧ g < w10.heap.size ∧ w10.cell? ⟨g, j * 3, none⟩ = some (.string (V.getD j x0p).1) ∧ w10.cell? ⟨g, j * 3 + 1, none⟩ = some (.string (ba (V.getD j x0p).2.1)) ∧ w10.cell? ⟨g, j * 3 + 2, none⟩ = some (.int .u16 0)) := fun j hj => file_at ho3 hj
      obtain ⟨a3, c3, rfl⟩ := row_form8 ho3
      have HNM : Hid (∀ j, j < V.length → (V.getD j x0p).1.size ≤ maxLen ∧ vl (V.getD j x0p).1 V = some (V.getD j x0p).2) := fun j hj => by
        have hx : V.getD j x0p ∈ V := by rw [List.getD_eq_getElem?_getD, List.getElem?_eq_getElem hj]; exact List.getElem_mem _
        exact ⟨by have := (HS.out.lng _ hx).1; unfold maxLen; omega, vl_at8 HS.out.srt hx⟩
      clear ho3 hb10 hq10 HQ9
      generalize hN : V.length = N at *
      have HN := hid hN
      clear hN
      go_wp2_with fail
      go_loopg [71] N (fun k vi wr => ∃ j : Nat, j + k = N ∧ vi = .int .i64 j ∧ Hid (Below w10.heap.size w10 wr))
      case atStart => exact ⟨0, by omega, rfl, Below.refl _ _⟩
      case round =>
        obtain ⟨j, hj, rfl, HB⟩ := hrel
        by_cases hlt : j < N
        · obtain ⟨k', rfl⟩ : ∃ k', gk = k' + 1 := ⟨gk - 1, by omega⟩
          have hltI : (j : Int) < N := by omega
          have hNI : (N : Int) ≤ 65536 := by omega
          obtain ⟨g3, c3', e3, hg3, y0, y1, y2⟩ := HFA.out j hlt
          cases e3
          obtain ⟨hnm, hvl⟩ := HNM.out j hlt
          rw [← HB.out.cell (p := ⟨g3, j * 3, none⟩) hg3] at y0
          rw [← HB.out.cell (p := ⟨g3, j * 3 + 1, none⟩) hg3] at y1
          rw [← HB.out.cell (p := ⟨g3, j * 3 + 2, none⟩) hg3] at y2
          generalize V.getD j x0p = x at *
          obtain ⟨nm, X, sy⟩ := x
          simp only at y0 y1 y2 hnm hvl
          have HNm := hid hnm
          have HVl := hid hvl
          have HJ := hid hj
          obtain ⟨XB, hXB⟩ : ∃ XB, XB = ba X := ⟨_, rfl⟩
          rw [← hXB] at y1
          have HXB := hid hXB
          clear hXB
          obtain ⟨wa, hwa⟩ : ∃ wa, wa = wr.alloc (Obj.cells #[.string nm, .string XB, .int .u16 0] 40) := ⟨_, rfl⟩
          have hFn := heap_new wr (Obj.cells #[.string nm, .string XB, .int .u16 0] 40)
          rw [← hwa] at hFn
          have HBa : Hid (Below w10.heap.size w10 wa) := HB.out.trans (by rw [hwa]; exact (bel_alloc _ _).mono HB.out.size)
          have HFn := hid hFn
          have HWA := hid hwa
          clear hwa hFn hnm hvl hj HB hg3
          go_wp2_with fail
          rw [← HWA.out]
          clear HWA
          generalize wr.heap.size = G at *
          have hMI : (M : Int) ≤ 2932031007402 := by omega
          go_loopg [18, 77] M (fun k vn vi wy => ∃ i : Nat, i + k = M ∧ vi = .int .i64 i ∧ vn = .bool (nmd (fs.take i) nm) ∧ Hid (Below wa.heap.size wa wy))
          case atStart => exact ⟨0, by omega, rfl, rfl, Below.refl _ _⟩
          case round =>
            clear y0 y1 y2
            obtain ⟨i, hi, rfl, rfl, HBy⟩ := hrel
            have hfb := (HBy.out.block G (lt_of_heap HFn.out)).trans HFn.out
            have f0 : wr.cell? ⟨G, 0, none⟩ = some (.string nm) := (cell_of hfb).trans rfl
            have f1 : wr.cell? ⟨G, 1, none⟩ = some (.string XB) := (cell_of hfb).trans rfl
            by_cases hlti : i < M
            · obtain ⟨m', rfl⟩ : ∃ m', gk = m' + 1 := ⟨gk - 1, by omega⟩
              have hiI : (i : Int) < M := by omega
              have hif : i < fs.length := by rw [← HF.out.len, HM.out]; exact hlti
              have hbw := (HW3.out wr (HBa.out.trans (HBy.out.mono HBa.out.size))).below
              have r1 := (HF.out.at1 i hif).1
              rcases HF.out.fts hbw with e | ⟨b, off, rfl, hbl, hc⟩
              · exact absurd hlti (by rw [← HM.out, e]; simp)
              obtain ⟨q0, q1, q2⟩ := hc i (by rw [HM.out]; exact hlti)
              have HE := hid (nmd_at (nm := nm) hif)
              rw [← r1] at HE
              generalize ms.getD i t00 = T at *
              obtain ⟨tn, tk, oa, on, oc⟩ := T
              simp only [ovS] at q0 q1 q2 HE
              have HB5 : Hid (Below wa.heap.size wa (wr.alloc (.cells #[.string tn, .int .i64 tk, .slice oa on oc] 24))) := HBy.out.trans ((bel_alloc _ _).mono HBy.out.size)
              have f0' : (wr.alloc (.cells #[.string tn, .int .i64 tk, .slice oa on oc] 24)).cell? ⟨G, 0, none⟩ = some (.string nm) := ((bel_alloc wr _).cell (p := ⟨G, 0, none⟩) (lt_of_heap hfb)).trans f0
              have HI := hid hi
              clear hc hbl hi hif hbw r1 HBy hfb hlti
              cases hb : nmd (fs.take i) nm with
              | true =>
                have HE2 : Hid (nmd (fs.take (i + 1)) nm = true) := by show _ = _; rw [HE.out, hb]; rfl
                clear HE hb
                go_wp2_with fail
                go_roundg m'
                case measure => omega
                case rel => exact ⟨i + 1, by have := HI.out; omega, congrArg (Value.int .i64) (by omega), by rw [HE2.out], HB5.out⟩
              | false =>
                by_cases et : tn = nm
                · have HE2 : Hid (nmd (fs.take (i + 1)) nm = true) := by show _ = _; rw [HE.out, hb, decide_eq_true et]; rfl
                  subst et
                  have te := tq_eq tn
                  clear HE hb
                  go_wp2_with fail
                  go_roundg m'
                  case measure => omega
                  case rel => exact ⟨i + 1, by have := HI.out; omega, congrArg (Value.int .i64) (by omega), by rw [HE2.out], HB5.out⟩
                · have HE2 : Hid (nmd (fs.take (i + 1)) nm = false) := by show _ = _; rw [HE.out, hb, decide_eq_false et]; rfl
                  have te := tq_ne et
                  clear HE hb
                  go_wp2_with fail
                  go_roundg m'
                  case measure => omega
                  case rel => exact ⟨i + 1, by have := HI.out; omega, congrArg (Value.int .i64) (by omega), by rw [HE2.out], HB5.out⟩
            · have hltiI : ¬ (i : Int) < M := by omega
              have HI : Hid (fs.take i = fs) := List.take_of_length_le (by rw [← HF.out.len, HM.out]; omega)
              rw [HI.out]
              have HB6 : Hid (Below w10.heap.size w10 wr) := HBa.out.trans (HBy.out.mono HBa.out.size)
              obtain ⟨fA, hdA, hfA⟩ := (HW3.out wr HB6.out).rot.rot.da3
              have HDA := hid hdA
              have HFb := hid hfb
              cases hb : nmd fs nm with
              | true =>
                have HSz := hid (s_size C2 fA 1048576 0 0 VA nm wr hdA HNm.out)
                have HCl := hid (fun wx h => clone_at (wx := wx) hdA hcA h)
                have HRd := hid (fun wx h => read_at (w := wr) (C := wr.heap.size) (Vx := VA) (wx := wx) h nm (szN (vl nm VA)) HNm.out)
                clear hdA hfA HI hfb hi hlti hb HDA
                go_wp2_with (go_at_call 36; refine HSz.out.mono ?_; rintro e w11 ⟨rfl, k11, rfl⟩)
                have hDw := Dw.start wr k11
                have f0z : (wr.drewN k11).cell? ⟨G, 0, none⟩ = some (.string nm) := f0
                go_region_held3 (fun x => x.cell? ⟨G, 0, none⟩ = some (.string nm)) ((first | assumption | go_keep)) (first | (go_at_call 33; refine (HCl.out _ (by first | exact hDw | exact hDw.drew)).mono ?_; rintro e w12 ⟨rfl, hC12⟩; have f0c : w12.cell? ⟨G, 0, none⟩ = some (.string nm) := (cell_of (cell_bel hC12.2 HFb.out)).trans rfl) | (go_at_call 37; refine (HRd.out _ (by first | exact hC12 | exact hC12.drew)).mono ?_; rintro e w13 ⟨rfl, hb13⟩; have f0d : w13.cell? ⟨G, 0, none⟩ = some (.string nm) := (cell_of (cell_bel hb13 HFb.out)).trans rfl; have f1d : w13.cell? ⟨G, 1, none⟩ = some (.string XB) := (cell_of (cell_bel hb13 HFb.out)).trans rfl))
                have HB14 : Hid (Below w10.heap.size w10 w13) := HB6.out.trans (hb13.mono HB6.out.size)
                clear f0z hC12 hDw hb13 f0 f1 f0c
                go_wp2_with fail
                go_roundg k'
                case measure => omega
                case rel => exact ⟨j + 1, by have := HJ.out; omega, congrArg (Value.int .i64) (by omega), HB14.out⟩
              | false =>
                have hve := (HNE.out nm (nmd_no hb)).trans HVl.out
                have HSz : Hid (Calls Try.prog 36 #[.pointer (some ⟨C2, 0, none⟩), .string nm] wr fun e w' => e = .returned (.tuple #[.int .i64 X.length, .int .i64 0]) ∧ ∃ k, w' = wr.drewN k) := by
                  have h1 := s_size C2 fA 1048576 0 0 VA nm wr hdA HNm.out
                  rw [hve] at h1
                  exact h1
                have HCl := hid (fun wx h => clone_at (wx := wx) hdA hcA h)
                have HRd : Hid (∀ wx, Cr wr wr.heap.size VA wx → Calls Try.prog 37 #[.pointer (some ⟨wr.heap.size, 0, none⟩), .string nm, .int .i64 0, .int .i64 X.length] wx fun e w' => e = .returned (.tuple #[.string XB, .int .i64 0]) ∧ Below wr.heap.size wr w') := fun wx h => by
                  have h1 := read_at h nm X.length HNm.out
                  rw [hve, show rdS (some (X, sy)) 0 (X.length : Int) = ba X from rdS_all (X, sy), show rdE (some (X, sy)) 0 (X.length : Int) = 0 from rdE_all (X, sy), ← HXB.out] at h1
                  exact h1
                have te2 := tq_eq XB
                clear hdA hfA HI hfb hi hlti hb HDA hve
                go_wp2_with (go_at_call 36; refine HSz.out.mono ?_; rintro e w11 ⟨rfl, k11, rfl⟩)
                have hDw := Dw.start wr k11
                have f0z : (wr.drewN k11).cell? ⟨G, 0, none⟩ = some (.string nm) := f0
                go_region_held3 (fun x => x.cell? ⟨G, 0, none⟩ = some (.string nm)) ((first | assumption | go_keep)) (first | (go_at_call 33; refine (HCl.out _ (by first | exact hDw | exact hDw.drew)).mono ?_; rintro e w12 ⟨rfl, hC12⟩; have f0c : w12.cell? ⟨G, 0, none⟩ = some (.string nm) := (cell_of (cell_bel hC12.2 HFb.out)).trans rfl) | (go_at_call 37; refine (HRd.out _ (by first | exact hC12 | exact hC12.drew)).mono ?_; rintro e w13 ⟨rfl, hb13⟩; have f0d : w13.cell? ⟨G, 0, none⟩ = some (.string nm) := (cell_of (cell_bel hb13 HFb.out)).trans rfl; have f1d : w13.cell? ⟨G, 1, none⟩ = some (.string XB) := (cell_of (cell_bel hb13 HFb.out)).trans rfl))
                have HB14 : Hid (Below w10.heap.size w10 w13) := HB6.out.trans (hb13.mono HB6.out.size)
                clear f0z hC12 hDw hb13 f0 f1 f0c
                go_wp2_with fail
                go_roundg k'
                case measure => omega
                case rel => exact ⟨j + 1, by have := HJ.out; omega, congrArg (Value.int .i64) (by omega), HB14.out⟩
        · have hltI : ¬ (j : Int) < N := by omega
          obtain ⟨fd, hdd, hfd⟩ := (HW3.out wr HB.out).da3
          have HE0 : Hid ((∃ fd, Ds wr d fd 1048576 0 0 V ∧ ∀ i, fd i → w.heap.size ≤ i) ∧ Below w.heap.size w wr) := ⟨⟨fd, hdd, hfd⟩, (HW3.out wr HB.out).below⟩
          have HUs := hid (s_used d fd 1048576 0 0 V wr hdd)
          have HWh := hid (fun k => whole_any d fd 1048576 0 0 V (wr.drewN k) (hdd.drewN k) HS.out)
          rw [HN.out] at HWh
          have hvt : vt V ≤ 1048576 := HS.out.rom.1
          have HVT : Hid (∀ j, vt (V.drop j) ≤ vt V) := fun j => vt_drop V j
          generalize vt V = U at *
          clear hdd hfd HB HNM HFA HW3 HQ10 HNE HSA HF HM hj hlt
          by_cases hu : U + D.size ≤ 1048576
          · have huD : ¬ (1048576 : Int) < (U : Int) + D.size := by omega
            go_wp2_with (go_at_call 38; refine HUs.out.mono ?_; rintro e w11 ⟨rfl, k11, rfl⟩)
            refine (HWh.out k11).mono ?_
            rintro e w14 ⟨v4, rfl, ho4, hb14⟩
            obtain ⟨a4, c4, rfl⟩ := row_form8 ho4
            have HE4 : Hid (E1 w d (V.drop 0) wr.heap.size (.slice a4 N c4) N V w14) := by
              obtain ⟨⟨fd, h1, h2⟩, h3⟩ := HE0.out
              have hb := (bel_drewN wr k11).trans hb14
              exact ⟨⟨fd, h1.kept hb, h2⟩, h3.trans (hb.mono h3.size), ho4⟩
            generalize wr.heap.size = B4 at *
            clear ho4 hb14 HWh HUs HE0 huD
            go_wp2_with fail
            go_loopg [132] N (fun k vi wr => ∃ j : Nat, j + k = N ∧ vi = .int .i64 j ∧ Hid (E1 w d (V.drop j) B4 (.slice a4 N c4) N V wr))
            case atStart => exact ⟨0, by omega, rfl, HE4⟩
            case round =>
              clear HE4
              obtain ⟨j, hj, rfl, HE⟩ := hrel
              by_cases hlt : j < N
              · obtain ⟨k', rfl⟩ : ∃ k', gk = k' + 1 := ⟨gk - 1, by omega⟩
                have hltI : (j : Int) < N := by omega
                have hNI : (N : Int) ≤ 65536 := by omega
                have hjV : j < V.length := by rw [HN.out]; exact hlt
                obtain ⟨g4, c4', e4, hg4, y0, y1, y2⟩ := file_at (by rw [HN.out]; exact HE.out.2.2) hjV
                rw [HN.out] at e4
                cases e4
                have hdr : V.drop j = V.getD j x0p :: V.drop (j + 1) := by
                  rw [List.getD_eq_getElem?_getD, List.getElem?_eq_getElem hjV]
                  exact List.drop_eq_getElem_cons hjV
                have hsd := HS.out.drop j
                have hvd := HVT.out j
                rw [hdr] at hsd hvd HE
                generalize V.getD j x0p = x at *
                generalize hR : V.drop (j + 1) = R at *
                have HR := hid hR
                clear hR
                obtain ⟨nm, X, sy⟩ := x
                simp only at y0 y1 y2
                have hn255 := (hsd.lng (nm, X, sy) (by simp)).1
                have hX30 := (hsd.lng (nm, X, sy) (by simp)).2.1
                simp only at hn255 hX30
                have HNm : Hid (nm.size ≤ maxLen) := by show _ ≤ _; unfold maxLen; omega
                have hxs : (ba X).size = X.length := ba_size X
                have HXl : Hid (ba X = ba X) := rfl
                obtain ⟨s2, hput⟩ := harm_put hsd kp D (by omega) (by omega)
                have hs2 : SV 1048576 ((nm, X.take (min kp X.length) ++ D.data.toList, s2) :: R) := by rw [← hput]; exact hsd.hms _
                have hYl : (X.take (min kp X.length) ++ D.data.toList).length = min kp X.length + D.size := by
                  have hd : D.data.toList.length = D.size := Array.length_toList
                  rw [List.length_append, List.length_take, hd, Nat.min_eq_left (Nat.min_le_right _ _)]
                have hcat : ((ba X).extract 0 (min kp X.length)).append D = ba (X.take (min kp X.length) ++ D.data.toList) := by
                  rw [ba_ext0]
                  apply ByteArray.ext
                  show (ba (X.take (min kp X.length)) ++ D).data = _
                  rw [ByteArray.data_append]
                  simp [ba]
                obtain ⟨kk, hkk⟩ : ∃ kk, kk = min kp X.length := ⟨_, rfl⟩
                rw [← hkk] at hput hs2 hYl hcat
                have hkI : min (kp : Int) (X.length : Int) = (kk : Int) := by omega
                have hkI2 : min (kp : Int) ((ba X).size : Int) = (kk : Int) := by rw [hxs]; exact hkI
                have hkle : (kk : Int) ≤ (ba X).size := by rw [hxs]; omega
                obtain ⟨XB, hXB⟩ : ∃ XB, XB = ba X := ⟨_, rfl⟩
                rw [← hXB] at y1 hkI2 hkle hcat
                have hbz : Below wr.heap.size wr (((wr.alloc (.cells #[.string nm, .string XB, .int .u16 0] 40)).alloc (.cells #[.int .i64 kk, .string D] 69)).alloc (.cells #[.string nm, .int .i64 kp, .slice (some ⟨wr.heap.size + 1, 0, none⟩) 1 1] 24)) := (((Below.refl _ _).alloc (Nat.le_refl _) _).alloc (by simp) _).alloc (by simp; omega) _
                have hf1 := heap_new wr (.cells #[.string nm, .string XB, .int .u16 0] 40)
                have hf2 := cell_bel (bel_alloc (wr.alloc (.cells #[.string nm, .string XB, .int .u16 0] 40)) (.cells #[.int .i64 kk, .string D] 69)) hf1
                have hf3 := cell_bel (bel_alloc ((wr.alloc (.cells #[.string nm, .string XB, .int .u16 0] 40)).alloc (.cells #[.int .i64 kk, .string D] 69)) (.cells #[.string nm, .int .i64 kp, .slice (some ⟨wr.heap.size + 1, 0, none⟩) 1 1] 24)) hf2
                have hw1 : ((wr.alloc (.cells #[.string nm, .string XB, .int .u16 0] 40)).alloc (.cells #[.int .i64 kk, .string D] 69)).heap[wr.heap.size + 1]? = some (.cells #[.int .i64 kk, .string D] 69 (0, 0)) := by
                  have := heap_new (wr.alloc (.cells #[.string nm, .string XB, .int .u16 0] 40)) (.cells #[.int .i64 kk, .string D] 69)
                  simpa using this
                have hw2 := cell_bel (bel_alloc ((wr.alloc (.cells #[.string nm, .string XB, .int .u16 0] 40)).alloc (.cells #[.int .i64 kk, .string D] 69)) (.cells #[.string nm, .int .i64 kp, .slice (some ⟨wr.heap.size + 1, 0, none⟩) 1 1] 24)) hw1
                have hg1 : (((wr.alloc (.cells #[.string nm, .string XB, .int .u16 0] 40)).alloc (.cells #[.int .i64 kk, .string D] 69)).alloc (.cells #[.string nm, .int .i64 kp, .slice (some ⟨wr.heap.size + 1, 0, none⟩) 1 1] 24)).heap[wr.heap.size + 1 + 1]? = some (.cells #[.string nm, .int .i64 kp, .slice (some ⟨wr.heap.size + 1, 0, none⟩) 1 1] 24 (0, 0)) := by
                  have := heap_new ((wr.alloc (.cells #[.string nm, .string XB, .int .u16 0] 40)).alloc (.cells #[.int .i64 kk, .string D] 69)) (.cells #[.string nm, .int .i64 kp, .slice (some ⟨wr.heap.size + 1, 0, none⟩) 1 1] 24)
                  simpa using this
                have HCA := hid ((HE.out.kept hbz).step (fun fd h1 => harm_one d fd 1048576 0 0 _ nm kp (some ⟨wr.heap.size + 1, 0, none⟩) 1 [((kk : Int), D)] _ h1 hsd (wr.heap.size + 1 + 1) hg1 (Or.inr ⟨wr.heap.size + 1, 0, rfl, lt_of_heap hw2, fun i hi => by
                    have e : i = 0 := by simp at hi; omega
                    subst e
                    exact ⟨(cell_of hw2).trans rfl, (cell_of hw2).trans rfl⟩⟩) (fun bb oo e _ => by
                    injection e with e
                    injection e with e _
                    subst e
                    exact h1.out hw2 (by decide) (by decide) (by decide)) HNm.out (by simp) (fun x hx => by
                    rw [List.mem_singleton] at hx
                    subst hx
                    exact ⟨by simp only; omega, by simp only; omega, hD⟩)))
                rw [hput] at HCA
                have HF3 := hid hf3
                have HP := hid (And.intro hs2 (And.intro hYl hcat))
                have HJ := hid hj
                have hkpI : (kp : Int) < 256 := by omega
                have hXs : (XB.size : Int) ≤ 1073741824 := by rw [hXB, hxs]; omega
                clear hf1 hf2 hf3 hw1 hw2 hg1 hbz hput hs2 hYl hcat hsd hvd hn255 hX30 hxs HXl HE hkk hkI hXB hjV hdr hg4 hj hlt
                go_wp2_with (go_at_call 23; refine HCA.out.mono ?_; rintro e w15 ⟨rfl, hE15, ho15⟩; have hfb15 := ho15 wr.heap.size _ _ _ HF3.out (by decide) (by decide) (by decide); have p0 : w15.cell? ⟨wr.heap.size, 0, none⟩ = some (.string nm) := (cell_of hfb15).trans rfl; have HFb := hid hfb15; have HE15 := hid hE15; clear hE15 ho15 hfb15)
                obtain ⟨hs2, hYl, hcat⟩ := HP.out
                generalize X.take kk ++ D.data.toList = Y at *
                obtain ⟨⟨fd15, hd15, hf15⟩, hb15, hr15⟩ := HE15.out
                have hv : vl nm ((nm, Y, s2) :: R) = some (Y, s2) := vl_hd (Y, s2) R
                obtain ⟨YB, hYB⟩ : ∃ YB, YB = ba Y := ⟨_, rfl⟩
                rw [← hYB] at hcat
                have hcat2 : XB.extract 0 kk ++ D = YB := hcat
                clear hcat
                have HSz : Hid (Calls Try.prog 36 #[.pointer (some ⟨d, 0, none⟩), .string nm] w15 fun e w' => e = .returned (.tuple #[.int .i64 Y.length, .int .i64 0]) ∧ ∃ k, w' = w15.drewN k) := by
                  have h1 := s_size d fd15 1048576 0 0 _ nm w15 hd15 HNm.out
                  rw [hv] at h1
                  exact h1
                have HCl := hid (fun wx h => clone_at (wx := wx) hd15 hs2.cnt h)
                have HRd : Hid (∀ wx, Cr w15 w15.heap.size ((nm, Y, s2) :: R) wx → Calls Try.prog 37 #[.pointer (some ⟨w15.heap.size, 0, none⟩), .string nm, .int .i64 0, .int .i64 Y.length] wx fun e w' => e = .returned (.tuple #[.string YB, .int .i64 0]) ∧ Below w15.heap.size w15 w') := fun wx h => by
                  have h1 := read_at h nm Y.length HNm.out
                  rw [hv, show rdS (some (Y, s2)) 0 (Y.length : Int) = ba Y from rdS_all (Y, s2), show rdE (some (Y, s2)) 0 (Y.length : Int) = 0 from rdE_all (Y, s2), ← hYB] at h1
                  exact h1
                have te2 := tq_eq YB
                have HS2 := hid hs2
                have HYL := hid hYl
                clear hd15 hf15 hb15 hr15 hv hYB hs2 hYl HCA HP HF3
                refine HSz.out.mono ?_
                rintro e w16 ⟨rfl, k16, rfl⟩
                have hDw := Dw.start w15 k16
                have f0z : (w15.drewN k16).cell? ⟨wr.heap.size, 0, none⟩ = some (.string nm) := p0
                go_wp2_with fail
                go_region_held3 (fun x => x.cell? ⟨wr.heap.size, 0, none⟩ = some (.string nm)) ((first | assumption | go_keep)) (first | (go_at_call 33; refine (HCl.out _ (by first | exact hDw | exact hDw.drew)).mono ?_; rintro e w12 ⟨rfl, hC12⟩; have f0c : w12.cell? ⟨wr.heap.size, 0, none⟩ = some (.string nm) := (cell_of (cell_bel hC12.2 HFb.out)).trans rfl) | (go_at_call 37; refine (HRd.out _ (by first | exact hC12 | exact hC12.drew)).mono ?_; rintro e w13 ⟨rfl, hb13⟩; have f0d : w13.cell? ⟨wr.heap.size, 0, none⟩ = some (.string nm) := (cell_of (cell_bel hb13 HFb.out)).trans rfl; have f1d : w13.cell? ⟨wr.heap.size, 1, none⟩ = some (.string XB) := (cell_of (cell_bel hb13 HFb.out)).trans rfl))
                have HE17 := hid (HE15.out.kept hb13)
                have HFc := hid (cell_bel hb13 HFb.out)
                clear f0z hC12 hDw hb13 f0c HSz HCl HRd p0
                go_wp2_with fail
                have hbz2 := bel_alloc w13 (.cells #[.string nm, .int .i64 (-1), .slice none 0 0] 24)
                have hg2 := heap_new w13 (.cells #[.string nm, .int .i64 (-1), .slice none 0 0] 24)
                have HCB := hid ((HE17.out.kept hbz2).step (fun fd h1 => harm_one d fd 1048576 0 0 _ nm (-1) none 0 [] _ h1 HS2.out w13.heap.size hg2 (Or.inl rfl) (fun _ _ e _ => by cases e) HNm.out (by simp) (fun x hx => by cases hx)))
                rw [harm_del HS2.out] at HCB
                have HF4 := hid (cell_bel hbz2 HFc.out)
                clear hbz2 hg2
                refine HCB.out.mono ?_
                rintro e w18 ⟨rfl, hE18, ho18⟩
                have hfb18 := ho18 wr.heap.size _ _ _ HF4.out (by decide) (by decide) (by decide)
                have p0 : w18.cell? ⟨wr.heap.size, 0, none⟩ = some (.string nm) := (cell_of hfb18).trans rfl
                have HE18 := hid hE18
                have HSz : Hid (Calls Try.prog 36 #[.pointer (some ⟨d, 0, none⟩), .string nm] w18 fun e w' => e = .returned (.tuple #[.int .i64 0, .int .i64 4]) ∧ ∃ k, w' = w18.drewN k) := by
                  obtain ⟨⟨fd18, hd18, _⟩, _⟩ := hE18
                  have h1 := s_size d fd18 1048576 0 0 _ nm w18 hd18 HNm.out
                  rw [vl_tail HS2.out] at h1
                  exact h1
                clear hE18 ho18 hfb18 HCB HE17 HFc HF4 f0d f1d
                go_wp2_with (go_at_call 36; refine HSz.out.mono ?_; rintro e w19 ⟨rfl, k19, rfl⟩)
                have HE19 := hid (HE18.out.kept (bel_drewN w18 k19))
                rw [← HR.out] at HE19
                go_roundg k'
                case measure => omega
                case rel => exact ⟨j + 1, by have := HJ.out; omega, congrArg (Value.int .i64) (by omega), HE19.out⟩
              · have hltI : ¬ (j : Int) < N := by omega
                have hjN : j = N := by omega
                subst hjN
                have hdr : V.drop j = [] := List.drop_of_length_le (by rw [HN.out]; exact Nat.le_refl _)
                rw [hdr] at HE
                obtain ⟨⟨fd, h1, h2⟩, h3, h4⟩ := HE.out
                have HLi := hid (s_listV d fd 1048576 0 0 [] wr h1 (by simp))
                have HBw := hid h3
                clear h1 h2 h3 h4 HE hdr
                go_wp2_with (go_at_call 39; refine HLi.out.mono ?_; rintro e w20 ⟨v20, rfl, hl20, hb20⟩; obtain ⟨a20, c20, rfl⟩ := own_form hl20.1; have HB20 := hid hb20; clear hl20 hb20; simp only [List.map_nil, List.length_nil])
                go_ret
                exact ⟨rfl, HBw.out.trans (HB20.out.mono HBw.out.size)⟩
          · have huD : (1048576 : Int) < (U : Int) + D.size := by omega
            go_wp2_with (go_at_call 38; refine HUs.out.mono ?_; rintro e w11 ⟨rfl, k11, rfl⟩)
            go_ret
            exact ⟨rfl, HE0.out.2.trans ((bel_drewN wr k11).mono HE0.out.2.size)⟩
end Go.Proofs.Ythjbhfhdepepmaa
