/- Texts of the proof, put together: Sme, Lad, Fls, Plf, FateOpen. -/
import Derived.Test.YthjbhfhdepepmaaPar
import Derived.Test.YthjbhfhdepepmaaPMA
import Derived.ProofKit
import Derived.OpenShut
import Derived.ShutString
import Derived.ChangeOld
import Derived.ChangeSame
import Derived.SizedLaws
import Derived.Deep.Slices
import Derived.Deep.Strs
namespace Go.Proofs.Ythjbhfhdepepmaa
open Go.RowKit
theorem look_b {w : World} {f : FuncId} {args : Array Value} {v : Value} {wx : World} (hb : Below w.heap.size w wx) (h : Calls Try.prog f args wx fun e w' => e = .returned v ∧ ∃ k, w' = wx.drewN k) : Calls Try.prog f args wx fun e w' => e = .returned v ∧ Below w.heap.size w w' := by
  refine h.mono ?_
  rintro e w' ⟨he, k, rfl⟩
  exact ⟨he, hb.trans ((bel_drewN wx k).mono hb.size)⟩
theorem own_oth {w w' : World} {B n : Nat} {v : Value} {l : List Value} (h : w.ownsRow B 9 1 v n l) (ho : Oth w w') : w'.ownsRow B 9 1 v n l := by
  refine ⟨h.1, ?_⟩
  rcases h.2 with h2 | ⟨g, cap, cur, e, hb, hg, r⟩
  · exact Or.inl h2
  · exact Or.inr ⟨g, cap, cur, e, hb, ho g _ _ _ hg (by decide) (by decide) (by decide), r⟩
theorem nm_cell {w : World} {B n : Nat} {a : Option Addr} {cap : Nat} {l : List Value} (h : w.ownsRow B 9 1 (.slice a n cap) n l) {j : Nat} {u : Value} (hj : l[j]? = some u) : ∃ g, a = some ⟨g, 0, none⟩ ∧ w.cell? ⟨g, j, none⟩ = some u := by
  obtain ⟨a', cap', e, k⟩ := row_form h
  injection e with e1 e2 e3
  obtain ⟨g, e4, e5⟩ := k j u hj
  exact ⟨g, by rw [e1]; exact e4, e5⟩
theorem rdS_all (x : List UInt8 × Nat) : rdS (some x) 0 x.1.length = ba x.1 := by
  unfold rdS
  have : has5 x.1.length 0 (x.1.length : Nat) = true := by unfold has5; simp
  simp only [this, if_true]
  congr 1
  simp
theorem rdE_all (x : List UInt8 × Nat) : rdE (some x) 0 x.1.length = 0 := by
  unfold rdE
  have : has5 x.1.length 0 (x.1.length : Nat) = true := by unfold has5; simp
  simp only [this, if_true]
/-- The clone that is read, and the list of names. -/
def Rdg (w : World) (C B : Nat) (rm : Nat) (V : Vw) (aL : Option Addr) (N capL : Nat) (wr : World) : Prop :=
  ∃ fc clj cbj, Ds wr C fc rm clj cbj V ∧ (∀ i, fc i → w.heap.size ≤ i) ∧ Below w.heap.size w wr ∧ wr.ownsRow B 9 1 (.slice aL N capL) N (V.map (fun x => Value.string x.1))
theorem Rdg.kept {w : World} {C B : Nat} {rm : Nat} {V : Vw} {aL : Option Addr} {N capL : Nat} {wr wx : World} (h : Rdg w C B rm V aL N capL wr) (hb : Below wr.heap.size wr wx) : Rdg w C B rm V aL N capL wx := by
  obtain ⟨fc, clj, cbj, h1, h2, h3, h4⟩ := h
  exact ⟨fc, clj, cbj, h1.kept hb, h2, h3.trans (hb.mono h3.size), own_oth h4 (Oth.below hb)⟩
theorem Rdg.read {w : World} {C B : Nat} {rm : Nat} {V : Vw} {aL : Option Addr} {N capL : Nat} {wr : World} (h : Rdg w C B rm V aL N capL wr) (nm : ByteArray) (x : List UInt8 × Nat) (hv : vl nm V = some x) (hn : nm.size ≤ maxLen) :
    Calls Try.prog 37 #[.pointer (some ⟨C, 0, none⟩), .string nm, .int .i64 0, .int .i64 x.1.length] wr fun e w' => e = .returned (.tuple #[.string (ba x.1), .int .i64 0]) ∧ Rdg w C B rm V aL N capL w' ∧ Oth wr w' := by
  obtain ⟨fc, clj, cbj, h1, h2, h3, h4⟩ := h
  have hR := s_read C fc rm clj cbj V nm wr h1 0 x.1.length hn (by decide)
  rw [hv, rdS_all, rdE_all] at hR
  refine hR.mono ?_
  rintro e w' ⟨he, fc', k1, k2, k3⟩
  have ho := h1.oth k2
  refine ⟨he, ⟨fc', _, _, k1, fun i hi => ?_, h3.trans (k2.below h3.size (fun i hi hf => by have := h2 i hf; omega)), own_oth h4 ho⟩, ho⟩
  rcases k3 i hi with k | k
  · exact h2 i k
  · exact Nat.le_trans h3.size k
set_option maxHeartbeats 2000000 in
set_option maxRecDepth 20000 in
theorem same8_any (d r : Nat) (fd fr : Nat → Prop) (rm : Nat) (cl cb : Int) (V : Vw) (w : World) (hd : Ds w d fd rm cl cb V) (hr : Rs w r fr rm cl cb V) (hs : SV rm V) :
    Calls Try.prog 27 #[.pointer (some ⟨d, 0, none⟩), .pointer (some ⟨r, 0, none⟩)] w fun e w' => e = .returned (.bool true) ∧ Below w.heap.size w w' := by
  obtain ⟨fl, hk, rfl⟩ := hr
  have hc := hs.cnt
  have HS := hid hs
  have HD : Hid (∀ wx, Below w.heap.size w wx → Ds wx d fd rm cl cb V) := fun wx hb => hd.kept hb
  have HK : Hid (∀ wx, Below w.heap.size w wx → Rk wx r fl rm cl cb V) := fun wx hb => hk.ch (Ch.of_below (S := fun _ => False) hb) (fun _ _ e => e)
  clear hs hd
  have Rm : Hid (∀ wx, Below w.heap.size w wx → Calls Try.prog 60 #[.pointer (some ⟨d, 0, none⟩)] wx fun e w' => e = .returned (.int .i64 rm) ∧ Below w.heap.size w w') := fun wx hb => look_b hb (s_room d fd rm cl cb V _ (HD.out wx hb))
  have RR : Hid (∀ wx, Below w.heap.size w wx → Calls Try.prog 61 #[.pointer (some ⟨r, 0, none⟩)] wx fun e w' => e = .returned (.int .i64 rm) ∧ Below w.heap.size w w') := fun wx hb => look_b hb (rroom_any r fl rm cl cb V _ (HK.out wx hb))
  have Us : Hid (∀ wx, Below w.heap.size w wx → Calls Try.prog 38 #[.pointer (some ⟨d, 0, none⟩)] wx fun e w' => e = .returned (.int .i64 (vt V)) ∧ Below w.heap.size w w') := fun wx hb => look_b hb (s_used d fd rm cl cb V _ (HD.out wx hb))
  have RU : Hid (∀ wx, Below w.heap.size w wx → Calls Try.prog 62 #[.pointer (some ⟨r, 0, none⟩)] wx fun e w' => e = .returned (.int .i64 (vt V)) ∧ Below w.heap.size w w') := fun wx hb => look_b hb (rused_any r fl rm cl cb V _ (HK.out wx hb) HS.out)
  have Re : Hid (∀ wx, Below w.heap.size w wx → Calls Try.prog 63 #[.pointer (some ⟨d, 0, none⟩)] wx fun e w' => e = .returned (.tuple #[.int .i64 cl, .int .i64 cb]) ∧ Below w.heap.size w w') := fun wx hb => look_b hb (s_reads d fd rm cl cb V _ (HD.out wx hb))
  have Rr : Hid (∀ wx, Below w.heap.size w wx → Calls Try.prog 64 #[.pointer (some ⟨r, 0, none⟩)] wx fun e w' => e = .returned (.tuple #[.int .i64 cl, .int .i64 cb]) ∧ Below w.heap.size w w') := fun wx hb => look_b hb (rreads_any r fl rm cl cb V _ (HK.out wx hb))
  obtain ⟨al, capl, rfl⟩ := hk.len
  clear hk
  generalize vt V = T at *
  have hb0 := Below.refl w.heap.size w
  generalize hN : V.length = N at *
  have HN := hid hN
  clear hN
  go_enter Try.func27, Try.ntmps27
  go_wp2_with (first | (go_at_call 60; refine (Rm.out _ (by assumption)).mono ?_; rintro e w1 ⟨rfl, hb1⟩) | (go_at_call 61; refine (RR.out _ (by assumption)).mono ?_; rintro e w2 ⟨rfl, hb2⟩) | (go_at_call 38; refine (Us.out _ (by assumption)).mono ?_; rintro e w3 ⟨rfl, hb3⟩) | (go_at_call 62; refine (RU.out _ (by assumption)).mono ?_; rintro e w4 ⟨rfl, hb4⟩))
  refine (s_clone d fd rm cl cb V w4 (HD.out w4 hb4) (by rw [HN.out]; exact hc)).mono ?_
  rintro e w5 ⟨rfl, ⟨fc, hC5, hfc⟩, hb5'⟩
  have hb5 := hb4.trans (hb5'.mono hb4.size)
  have hfc' : ∀ i, fc i → w.heap.size ≤ i := fun i hi => Nat.le_trans hb4.size (hfc i hi)
  generalize hCC : w4.heap.size = C at *
  have hCle : w.heap.size ≤ C := by rw [← hCC]; exact hb4.size
  clear hCC hb5' hb1 hb2 hb3 hb0 hb4 hfc
  go_wp2_with fail
  refine (s_listV d fd rm cl cb V w5 (HD.out w5 hb5) (by rw [HN.out]; exact hc)).mono ?_
  rintro e w6 ⟨vl6, rfl, hL6, hb6'⟩
  have hb6 := hb5.trans (hb6'.mono hb5.size)
  have hC6 := hC5.kept hb6'
  obtain ⟨aL, capL, rfl⟩ := own_form hL6.1
  have c1 := (HK.out w6 hb6).c1
  rw [List.length_map, HN.out]
  clear hb5 hb6' hC5
  go_wp2_with fail
  have hG : Rdg w C w5.heap.size rm V aL N capL w6 := ⟨fc, _, _, hC6, hfc', hb6, by have := hL6.1; rw [List.length_map, HN.out, List.map_map] at this; exact this⟩
  have HG := hid hG
  clear hG hL6 hC6 hfc' hb6 c1
  generalize w5.heap.size = B5 at *
  clear Rm RR Us RU
  go_loopg [56] N (fun k i wr => ∃ j : Nat, j + k = N ∧ i = .int .i64 j ∧ Hid (Rdg w C B5 rm V aL N capL wr))
  case atStart => exact ⟨0, by omega, rfl, HG⟩
  case round =>
    clear HG
    obtain ⟨j, hk, rfl, HG⟩ := hrel
    obtain ⟨_, _, _, _, _, hbr, hrow⟩ := HG.out
    by_cases hlt : j < N
    · obtain ⟨k, rfl⟩ : ∃ k, gk = k + 1 := ⟨gk - 1, by omega⟩
      have hltD : decide ((j : Int) < N) = true := by simp; omega
      have hltI : (j : Int) < N := by omega
      have ew : wrap64 ((j : Int) + 1) = ((j + 1 : Nat) : Int) := by unfold wrap64; omega
      rcases (HK.out wr hbr).form with ⟨e, e2⟩ | ⟨g, cap, e, hcl, _, _⟩
      · rw [e2] at HN
        have : 0 = N := HN.out
        omega
      injection e with e1 e2 e3
      subst e1 e3
      clear e2
      rw [HN.out] at hcl
      obtain ⟨l', x, r', eV, eL, q0, q1, q2⟩ := name_at HN.out hcl hlt
      have hnx : (V.map (fun x => Value.string x.1))[j]? = some (.string x.1) := by rw [eV, List.map_append, List.getElem?_append_right (by simp; omega)]; simp [eL]
      obtain ⟨gl, rfl, qn⟩ := nm_cell hrow hnx
      have hx255 := (HS.out.lng x (by rw [eV]; simp)).1
      have hv : vl x.1 V = some x.2 := by
        have := HS.out.srt
        rw [eV] at this ⊢
        have k := List.pairwise_append.1 this
        exact vl_mid (x := x.2) (r := r') (fun y hy => k.2.2 y hy x (by simp))
      have hn' : x.1.size ≤ maxLen := by unfold maxLen; omega
      have hsz := ba_size x.2.1
      have Sz : Hid (∀ wx, Below w.heap.size w wx → Calls Try.prog 36 #[.pointer (some ⟨d, 0, none⟩), .string x.1] wx fun e w' => e = .returned (.tuple #[.int .i64 x.2.1.length, .int .i64 0]) ∧ ∃ k, w' = wx.drewN k) := fun wx hb => by
        have := s_size d fd rm cl cb V x.1 wx (HD.out wx hb) hn'
        rw [hv] at this
        exact this
      have Sy : Hid (∀ wx, Below w.heap.size w wx → Calls Try.prog 35 #[.pointer (some ⟨d, 0, none⟩), .string x.1] wx fun e w' => e = .returned (.tuple #[.int .i64 x.2.2, .int .i64 0]) ∧ ∃ k, w' = wx.drewN k) := fun wx hb => by
        have := s_synced d fd rm cl cb V x.1 wx (HD.out wx hb) hn'
        rw [hv] at this
        exact this
      have RD : Hid (∀ wx, Rdg w C B5 rm V (some ⟨gl, 0, none⟩) N capL wx → Calls Try.prog 37 #[.pointer (some ⟨C, 0, none⟩), .string x.1, .int .i64 0, .int .i64 x.2.1.length] wx fun e w' => e = .returned (.tuple #[.string (ba x.2.1), .int .i64 0]) ∧ Rdg w C B5 rm V (some ⟨gl, 0, none⟩) N capL w' ∧ Oth wx w') := fun wx hx => hx.read x.1 x.2 hv hn'
      have NM : Hid (∀ wx, Rdg w C B5 rm V (some ⟨gl, 0, none⟩) N capL wx → wx.cell? ⟨gl, j, none⟩ = some (.string x.1)) := fun wx hx => by
        obtain ⟨_, _, _, _, _, _, hrw⟩ := hx
        obtain ⟨g2, e, q⟩ := nm_cell hrw hnx
        injection e with e
        injection e with e
        subst e
        exact q
      have te := tq_eq x.1
      have te2 := tq_eq (ba x.2.1)
      clear eV eL hnx hv hx255 hrow hcl hn'
      generalize x.2.1.length = XN at *
      generalize ba x.2.1 = X at *
      generalize x.2.2 = XS at *
      generalize x.1 = nm at *
      obtain ⟨wa, hwa⟩ : ∃ wa, wa = wr.alloc (Obj.cells #[.string nm, .string X, .int .i64 XS] 74) := ⟨_, rfl⟩
      have hF := heap_new wr (Obj.cells #[.string nm, .string X, .int .i64 XS] 74)
      rw [← hwa] at hF
      have ba1 : Below wr.heap.size wr wa := by rw [hwa]; exact bel_alloc _ _
      have HGa := hid (HG.out.kept ba1)
      have hba := hbr.trans (ba1.mono hbr.size)
      have na := NM.out wa HGa.out
      have hwa' := hwa.symm
      clear hwa
      go_wp2_with fail
      refine (Sz.out wa hba).mono ?_
      rintro e w1 ⟨rfl, k1, rfl⟩
      have HGb := hid (HGa.out.kept (bel_drewN wa k1))
      have hbb := hba.trans ((bel_drewN wa k1).mono hba.size)
      go_wp2_with fail
      refine (Sy.out _ hbb).mono ?_
      rintro e w2 ⟨rfl, k2, rfl⟩
      rw [World.drewN_drewN]
      have HGc := hid (HGa.out.kept (bel_drewN wa (k1 + k2)))
      clear HGb
      go_wp2_with fail
      refine (RD.out _ HGc.out).mono ?_
      rintro e w3 ⟨rfl, hG3, ho3⟩
      have HG3 := hid hG3
      have n3 := NM.out w3 hG3
      have f3 := ho3 wr.heap.size _ _ _ hF (by decide) (by decide) (by decide)
      have y0 : w3.cell? ⟨wr.heap.size, 0, none⟩ = some (.string nm) := (cell_of f3).trans rfl
      have y1 : w3.cell? ⟨wr.heap.size, 1, none⟩ = some (.string X) := (cell_of f3).trans rfl
      have y2 : w3.cell? ⟨wr.heap.size, 2, none⟩ = some (.int .i64 XS) := (cell_of f3).trans rfl
      clear hG3 ho3 f3 HGa HGc hF hwa' na hba hbb RD NM Sz Sy HG hbr ba1
      go_wp2_with fail
      go_quiet (fail)
      go_wp2
      go_roundg k
      case measure => omega
      case rel => exact ⟨j + 1, by omega, by first | exact congrArg (Value.int .i64) ew | rfl, hid (HG3.out.kept (bel_drewN w3 _))⟩
    · have hltD : decide ((j : Int) < N) = false := by simp; omega
      go_wp2_with (first | (go_at_call 63; refine (Re.out _ (by assumption)).mono ?_; rintro e w1 ⟨rfl, hb1⟩) | (go_at_call 64; refine (Rr.out _ (by assumption)).mono ?_; rintro e w2 ⟨rfl, hb2⟩))
      go_ret
      exact ⟨rfl, hb2⟩
end Go.Proofs.Ythjbhfhdepepmaa
namespace Go.Proofs.Ythjbhfhdepepmaa
open Go.RowKit
/-- Both disks, and a file's struct in a block of its own. -/
def PF (w0 : World) (H F : Nat) (nm X : ByteArray) (S : Nat) (w : World) (d r : Nat) (rm : Nat) (V V' : Vw) : Prop := Pr w0 H w d r rm 0 0 V 0 0 V' ∧ w.heap[F]? = some (.cells #[.string nm, .string X, .int .u16 S] 40 (0, 0))
section
variable {w0 : World} {H F : Nat} {nm X : ByteArray} {S : Nat} {w : World} {d r : Nat} {rm : Nat} {V V' : Vw}
theorem PF.y0 (h : PF w0 H F nm X S w d r rm V V') : w.cell? ⟨F, 0, none⟩ = some (.string nm) := (cell_of h.2).trans rfl
theorem PF.y1 (h : PF w0 H F nm X S w d r rm V V') : w.cell? ⟨F, 1, none⟩ = some (.string X) := (cell_of h.2).trans rfl
theorem PF.y2 (h : PF w0 H F nm X S w d r rm V V') : w.cell? ⟨F, 2, none⟩ = some (.int .u16 S) := (cell_of h.2).trans rfl
theorem PF.ys (h : PF w0 H F nm X S w d r rm V V') : w.cell? ⟨F, 0, none⟩ = some (.string nm) ∧ w.cell? ⟨F, 1, none⟩ = some (.string X) ∧ w.cell? ⟨F, 2, none⟩ = some (.int .u16 S) := ⟨h.y0, h.y1, h.y2⟩
theorem PF.drew (h : PF w0 H F nm X S w d r rm V V') : PF w0 H F nm X S w.drew d r rm V V' := ⟨h.1.kept (Below.drew (Below.refl _ _)), h.2⟩
theorem PF.prog (h : PF w0 H F nm X S w d r rm V V') {V1 : Vw} {f : FuncId} {args : Array Value} {v : Value}
    (hc : ∀ fa, Ds w d fa rm 0 0 V → Calls Try.prog f args w fun e w' => e = .returned v ∧ Aft w fa d rm 0 0 V1 w') : Calls Try.prog f args w fun e w' => e = .returned v ∧ PF w0 H F nm X S w' d r rm V1 V' :=
  h.1.prog hc (fun w' k1 k2 => ⟨rfl, k1, k2 F _ _ _ h.2 (by decide) (by decide) (by decide)⟩)
theorem PF.ref (h : PF w0 H F nm X S w d r rm V V') {V1 : Vw} {f : FuncId} {args : Array Value} {v : Value}
    (hc : ∀ fl, Rk w r fl rm 0 0 V' → Calls Try.prog f args w fun e w' => e = .returned v ∧ RAft w (Rt r fl) r rm 0 0 V1 w') : Calls Try.prog f args w fun e w' => e = .returned v ∧ PF w0 H F nm X S w' d r rm V V1 :=
  h.1.refA hc (fun w' k1 k2 => ⟨rfl, k1, k2 F _ _ _ h.2 (by decide) (by decide) (by decide) (by decide) (by decide)⟩)
end
/-- A file that is laid. -/
def ldV (rm : Nat) (V : Vw) (f : ByteArray × ByteArray × Nat) : Vw := apV f.1 rm (f.2.1.extract (f.2.2 % (f.2.1.size + 1)) f.2.1.size) (synV f.1 (apV f.1 rm (f.2.1.extract 0 (f.2.2 % (f.2.1.size + 1))) (crV f.1 V)))
def lds (rm : Nat) (fs : List (ByteArray × ByteArray × Nat)) : Vw := fs.foldl (ldV rm) []
theorem SV.ld {rm : Nat} {V : Vw} (f : ByteArray × ByteArray × Nat) (h : SV rm V) : SV rm (ldV rm V f) := ((((h.cr f.1).ap f.1 _).sy f.1).ap f.1 _)
theorem SV.lds {rm : Nat} (hr : rm ≤ 1099511627776) (fs : List (ByteArray × ByteArray × Nat)) : SV rm (lds rm fs) := by
  unfold Go.Proofs.Ythjbhfhdepepmaa.lds
  have : ∀ (fs : List (ByteArray × ByteArray × Nat)) (V : Vw), SV rm V → SV rm (fs.foldl (ldV rm) V) := by
    intro fs
    induction fs with
    | nil => intro V h; exact h
    | cons f fs ih => intro V h; exact ih _ (h.ld f)
  exact this fs [] (SV.nil hr)
/-- A row of files that came in. -/
def f00 : ByteArray × ByteArray × Nat := (ByteArray.empty, ByteArray.empty, 0)
def Fls (w : World) (a : Option Addr) (fs : List (ByteArray × ByteArray × Nat)) : Prop := fs = [] ∨ ∃ b off, a = some ⟨b, off, none⟩ ∧ b < w.heap.size ∧ ∀ j, j < fs.length → w.cell? ⟨b, off + j * 3, none⟩ = some (.string (fs.getD j f00).1) ∧ w.cell? ⟨b, off + j * 3 + 1, none⟩ = some (.string (fs.getD j f00).2.1) ∧ w.cell? ⟨b, off + j * 3 + 2, none⟩ = some (.int .u16 (fs.getD j f00).2.2)
def FlOk (f : ByteArray × ByteArray × Nat) : Prop := f.1.size ≤ maxLen ∧ f.2.1.size ≤ maxLen ∧ f.2.2 < 65536
set_option maxHeartbeats 4000000 in
set_option maxRecDepth 20000 in
theorem laid_any (x : Int) (a : Option Addr) (cap : Nat) (fs : List (ByteArray × ByteArray × Nat)) (w : World) (hF : Fls w a fs) (hl : fs.length ≤ 9223372036854775806) (hn : ∀ f ∈ fs, FlOk f) :
    Calls Try.prog 14 #[.int .i64 x, .slice a fs.length cap] w fun e w' => ∃ d r, e = .returned (.tuple #[.pointer (some ⟨d, 0, none⟩), .pointer (some ⟨r, 0, none⟩), .bool true]) ∧ Pr w w.heap.size w' d r (clamp x) 0 0 (lds (clamp x) fs) 0 0 (lds (clamp x) fs) := by
  have HN1 := hid (new_any x w)
  have HN2 := hid (rnew_any x (w.alloc (.cells #[.int .i64 (clamp x), .int .i64 0, .map none, .int .i64 0, .int .i64 0] 107)))
  have hP0 := Pr.new w x w.heap.size w (Below.refl _ _) (Nat.le_refl _)
  have hcl := clamp_le x
  have HF := hid hF
  have HN := hid hn
  clear hF hn
  generalize hrm : clamp x = rm at *
  clear hrm
  generalize hLN : fs.length = N at *
  have HL := hid hLN
  clear hLN
  go_enter Try.func14, Try.ntmps14
  go_wp2_with (first | (go_at_call 43; refine HN1.out.mono ?_; rintro e w1 ⟨rfl, rfl⟩) | (go_at_call 44; refine HN2.out.mono ?_; rintro e w2 ⟨rfl, rfl⟩))
  have HP0 := hid hP0
  clear hP0 HN1 HN2
  generalize hd : w.heap.size + 1 = r at *
  have hr0 : w.heap.size < r := by omega
  clear hd
  go_loopg [18] N (fun k i wr => ∃ j : Nat, j + k = N ∧ i = .int .i64 j ∧ Hid (Pr w w.heap.size wr w.heap.size r rm 0 0 (lds rm (fs.take j)) 0 0 (lds rm (fs.take j))))
  case atStart => exact ⟨0, by omega, rfl, HP0⟩
  case round =>
    clear HP0
    obtain ⟨j, hk, rfl, HP⟩ := hrel
    by_cases hlt : j < N
    · obtain ⟨k, rfl⟩ : ∃ k, gk = k + 1 := ⟨gk - 1, by omega⟩
      have hltD : decide ((j : Int) < N) = true := by simp; omega
      have hltI : (j : Int) < N := by omega
      have ew : wrap64 ((j : Int) + 1) = ((j + 1 : Nat) : Int) := by unfold wrap64; omega
      rcases HF.out with rfl | ⟨b, off, rfl, hbl, hcl'⟩
      · have : 0 = N := HL.out
        omega
      obtain ⟨q0, q1, q2⟩ := hcl' j (by rw [HL.out]; exact hlt)
      have hbel := HP.out.below
      rw [← hbel.cell (p := ⟨b, off + j * 3, none⟩) hbl] at q0
      rw [← hbel.cell (p := ⟨b, off + j * 3 + 1, none⟩) hbl] at q1
      rw [← hbel.cell (p := ⟨b, off + j * 3 + 2, none⟩) hbl] at q2
      have hok := HN.out (fs.getD j f00) (by rw [List.getD_eq_getElem?_getD, List.getElem?_eq_getElem (by rw [HL.out]; exact hlt)]; exact List.getElem_mem _)
      have HE : Hid (lds rm (fs.take (j + 1)) = ldV rm (lds rm (fs.take j)) (fs.getD j f00)) := by
        show _ = _
        unfold lds
        rw [List.take_succ_eq_append_getElem (by rw [HL.out]; exact hlt), List.foldl_append]
        rw [List.getD_eq_getElem?_getD, List.getElem?_eq_getElem (by rw [HL.out]; exact hlt)]
        rfl
      have hsv := SV.lds hcl (fs.take j)
      generalize lds rm (fs.take j) = V at *
      generalize fs.getD j f00 = f at *
      obtain ⟨nm, X, S⟩ := f
      simp only at q0 q1 q2
      obtain ⟨hn1, hn2, hn3⟩ := hok
      simp only at hn1 hn2 hn3
      unfold ldV at HE
      simp only at HE
      obtain ⟨wa, hwa⟩ : ∃ wa, wa = wr.alloc (Obj.cells #[.string nm, .string X, .int .u16 S] 40) := ⟨_, rfl⟩
      have HPF : PF w w.heap.size wr.heap.size nm X S wa w.heap.size r rm V V := ⟨HP.out.kept (by rw [hwa]; exact bel_alloc _ _), by rw [hwa]; exact heap_new _ _⟩
      have hwa' := hwa.symm
      clear hwa hcl' hbel HP
      have p0 := HPF.y0
      have p1 := HPF.y1
      have p2 := HPF.y2
      unfold maxLen at hn2
      obtain ⟨n, hnn⟩ : ∃ n, n = S % (X.size + 1) := ⟨_, rfl⟩
      rw [← hnn] at HE
      have hnle : n ≤ X.size := by have := Nat.mod_lt S (show 0 < X.size + 1 from by omega); rw [← hnn] at this; omega
      obtain ⟨Z, hZ⟩ : ∃ Z, Z = wrap64 ((X.size : Int) + 1) := ⟨_, rfl⟩
      have hZ0 : Z ≠ 0 := by rw [hZ]; unfold wrap64; omega
      have etm : Int.tmod (S : Int) Z = (n : Int) := by
        by_cases hm : X.size = 9223372036854775807
        · have e1 : Z = -9223372036854775808 := by rw [hZ]; unfold wrap64; omega
          have e2 : n = S := by rw [hnn, hm]; exact Nat.mod_eq_of_lt (by omega)
          rw [e1, e2, Int.tmod_neg, Int.tmod_eq_emod_of_nonneg (by omega)]
          omega
        · have e1 : Z = ((X.size + 1 : Nat) : Int) := by rw [hZ]; unfold wrap64; omega
          rw [e1, hnn, Int.tmod_eq_emod_of_nonneg (by omega)]
          simp
      have hZ' := hZ.symm
      clear hZ
      have hnI : (n : Int) ≤ X.size := by omega
      clear hnn
      have ys0 := HPF.ys
      clear p0 p1 p2
      obtain ⟨p0, p1, p2⟩ := ys0
      have HPF := hid HPF
      go_wp2_with fail
      go_region_held3 (fun x => x.cell? ⟨wr.heap.size, 0, none⟩ = some (.string nm) ∧ x.cell? ⟨wr.heap.size, 1, none⟩ = some (.string X) ∧ x.cell? ⟨wr.heap.size, 2, none⟩ = some (.int .u16 S)) ((first | assumption | exact ⟨by assumption, by assumption, by assumption⟩ | go_keep)) (first | (go_at_call 28; refine ((show PF w w.heap.size wr.heap.size nm X S _ w.heap.size r rm V V from (by first | exact HPF.out | exact HPF.out.drew)).prog (fun fa hd => s_create w.heap.size fa rm 0 0 V nm _ hd hn1)).mono ?_; rintro e w1 ⟨rfl, hP1⟩; have ys1 := hP1.ys) | (go_at_call 29; refine ((show PF w w.heap.size wr.heap.size nm X S _ w.heap.size r rm _ V from (by first | exact hP1 | exact hP1.drew)).ref (fun fl hk => rcreate_any r fl rm 0 0 V nm _ hk hsv hn1)).mono ?_; rintro e w2 ⟨rfl, hP2⟩; have ys2 := hP2.ys))
      have hsA := hsv.cr nm
      generalize crV nm V = VA at *
      have HP2 := hid hP2
      obtain ⟨p0, p1, p2⟩ := ys2
      clear hP1 ys1 hP2 HPF hwa' hbl q0 q1 q2
      have hsB := hsA.ap nm (X.extract 0 n)
      have hsC := hsB.sy nm
      generalize hVB : apV nm rm (X.extract 0 n) VA = VB at *
      generalize hVC : synV nm VB = VC at *
      generalize hVD : apV nm rm (X.extract n X.size) VC = VD at *
      have HVB := hid hVB
      have HVC := hid hVC
      have HVD := hid hVD
      clear hVB hVC hVD
      go_wp2_with fail
      go_region_held3 (fun x => x.cell? ⟨wr.heap.size, 0, none⟩ = some (.string nm) ∧ x.cell? ⟨wr.heap.size, 1, none⟩ = some (.string X) ∧ x.cell? ⟨wr.heap.size, 2, none⟩ = some (.int .u16 S)) ((first | assumption | exact ⟨by assumption, by assumption, by assumption⟩ | go_keep)) (first | (go_at_call 30; refine ((show PF w w.heap.size wr.heap.size nm X S _ w.heap.size r rm VA VA from (by first | exact HP2.out | exact HP2.out.drew)).prog (fun fa hd => s_append w.heap.size fa rm 0 0 VA nm _ hd (X.extract 0 n) hn1)).mono ?_; rintro e w3 ⟨rfl, hP3⟩; have ys3 := hP3.ys))
      rw [HVB.out] at hP3
      have HP3 := hid hP3
      clear p0 p1 p2 hP3 HP2
      obtain ⟨p0, p1, p2⟩ := ys3
      go_wp2_with (go_at_call 45; refine ((show PF w w.heap.size wr.heap.size nm X S _ w.heap.size r rm VB VA from (by first | exact HP3.out | exact HP3.out.drew)).prog (fun fa hd => s_sync w.heap.size fa rm 0 0 VB nm _ hd hn1)).mono ?_; rintro e w4 ⟨rfl, hP4⟩; have ys4 := hP4.ys)
      rw [HVC.out] at hP4
      have HP4 := hid hP4
      clear p0 p1 p2 hP4 HP3
      obtain ⟨p0, p1, p2⟩ := ys4
      go_wp2_with fail
      go_region_held3 (fun x => x.cell? ⟨wr.heap.size, 0, none⟩ = some (.string nm) ∧ x.cell? ⟨wr.heap.size, 1, none⟩ = some (.string X) ∧ x.cell? ⟨wr.heap.size, 2, none⟩ = some (.int .u16 S)) ((first | assumption | exact ⟨by assumption, by assumption, by assumption⟩ | go_keep)) (first | (go_at_call 30; refine ((show PF w w.heap.size wr.heap.size nm X S _ w.heap.size r rm VC VA from (by first | exact HP4.out | exact HP4.out.drew)).prog (fun fa hd => s_append w.heap.size fa rm 0 0 VC nm _ hd (X.extract n X.size) hn1)).mono ?_; rintro e w5 ⟨rfl, hP5⟩; have ys5 := hP5.ys))
      rw [HVD.out] at hP5
      have HP5 := hid hP5
      clear p0 p1 p2 hP5 HP4
      obtain ⟨p0, p1, p2⟩ := ys5
      go_wp2_with fail
      go_region_held3 (fun x => x.cell? ⟨wr.heap.size, 0, none⟩ = some (.string nm) ∧ x.cell? ⟨wr.heap.size, 1, none⟩ = some (.string X) ∧ x.cell? ⟨wr.heap.size, 2, none⟩ = some (.int .u16 S)) ((first | assumption | exact ⟨by assumption, by assumption, by assumption⟩ | go_keep)) (first | (go_at_call 31; refine ((show PF w w.heap.size wr.heap.size nm X S _ w.heap.size r rm VD VA from (by first | exact HP5.out | exact HP5.out.drew)).ref (fun fl hk => rappend_any r fl rm 0 0 VA nm (X.extract 0 n) _ hk hsA)).mono ?_; rintro e w6 ⟨rfl, hP6⟩; have ys6 := hP6.ys))
      rw [HVB.out] at hP6
      have HP6 := hid hP6
      clear p0 p1 p2 hP6 HP5
      obtain ⟨p0, p1, p2⟩ := ys6
      go_wp2_with (go_at_call 46; refine ((show PF w w.heap.size wr.heap.size nm X S _ w.heap.size r rm VD VB from (by first | exact HP6.out | exact HP6.out.drew)).ref (fun fl hk => rsync_any r fl rm 0 0 VB nm _ hk hsB)).mono ?_; rintro e w7 ⟨rfl, hP7⟩; have ys7 := hP7.ys)
      rw [HVC.out] at hP7
      have HP7 := hid hP7
      clear p0 p1 p2 hP7 HP6
      obtain ⟨p0, p1, p2⟩ := ys7
      go_wp2_with fail
      go_region_held3 (fun x => x.cell? ⟨wr.heap.size, 0, none⟩ = some (.string nm) ∧ x.cell? ⟨wr.heap.size, 1, none⟩ = some (.string X) ∧ x.cell? ⟨wr.heap.size, 2, none⟩ = some (.int .u16 S)) ((first | assumption | exact ⟨by assumption, by assumption, by assumption⟩ | go_keep)) (first | (go_at_call 31; refine ((show PF w w.heap.size wr.heap.size nm X S _ w.heap.size r rm VD VC from (by first | exact HP7.out | exact HP7.out.drew)).ref (fun fl hk => rappend_any r fl rm 0 0 VC nm (X.extract n X.size) _ hk hsC)).mono ?_; rintro e w8 ⟨rfl, hP8⟩; have ys8 := hP8.ys))
      rw [HVD.out] at hP8
      have HP8 := hid hP8
      clear p0 p1 p2 hP8 HP7
      obtain ⟨p0, p1, p2⟩ := ys8
      go_wp2_with fail
      go_roundg k
      case measure => omega
      case rel => exact ⟨j + 1, by omega, by first | exact congrArg (Value.int .i64) ew | rfl, by show Pr _ _ _ _ _ _ _ _ _ _ _ _; rw [HE.out]; exact HP8.out.1⟩
    · have hltD : decide ((j : Int) < N) = false := by simp; omega
      have hj : fs.take j = fs := List.take_of_length_le (by rw [HL.out]; omega)
      have hsv := SV.lds hcl fs
      have hp := HP.out
      rw [hj] at hp
      have HSM : Hid (Calls Try.prog 27 #[.pointer (some ⟨w.heap.size, 0, none⟩), .pointer (some ⟨r, 0, none⟩)] wr fun e w' => e = .returned (.bool true) ∧ Pr w w.heap.size w' w.heap.size r rm 0 0 (lds rm fs) 0 0 (lds rm fs)) := by
        obtain ⟨fa, fb, h1, h2, h3⟩ := hp
        refine (same8_any w.heap.size r fa fb rm 0 0 _ wr h1 h2 hsv).mono ?_
        rintro e w' ⟨rfl, hb⟩
        exact ⟨rfl, Pr.kept ⟨fa, fb, h1, h2, h3⟩ hb⟩
      clear hp HP
      go_wp2_with (go_at_call 27; refine HSM.out.mono ?_; rintro e w1 ⟨rfl, hP1⟩)
      go_ret3
      exact ⟨_, _, rfl, hP1⟩
end Go.Proofs.Ythjbhfhdepepmaa
namespace Go.Proofs.Ythjbhfhdepepmaa
open Go.RowKit
def eA : ByteArray := ⟨#[97, 98, 99, 100, 101, 102]⟩
def eW : List (Int × ByteArray) := [(1, ⟨#[88, 89, 90, 87]⟩)]
theorem ex_left : ba (lft eA.data.toList 2 4 eW) = ⟨#[97, 98, 89, 90]⟩ := by decide +kernel
theorem ex_of : ofN eA.data.toList (lft eA.data.toList 2 4 eW) = 3 := by decide +kernel
theorem ex_left0 : ba (lft eA.data.toList 2 0 []) = ⟨#[97, 98]⟩ := by decide +kernel
theorem ex_lds : lds 100 [(⟨#[120]⟩, eA, 2)] = [(⟨#[120]⟩, eA.data.toList, 2)] := by decide +kernel
theorem ex_crf : ([(⟨#[120]⟩, eA.data.toList, 2)] : Vw).map (crf [(⟨#[120]⟩, 4, eW)]) = [(⟨#[120]⟩, [97, 98, 89, 90], 4)] := by decide +kernel
theorem ex_lds2 : lds 100 [(⟨#[120]⟩, ⟨#[97, 98, 89, 90]⟩, 4)] = [(⟨#[120]⟩, [97, 98, 89, 90], 4)] := by decide +kernel
theorem Ds.out {w : World} {d : Nat} {ft : Nat → Prop} {rm : Nat} {cl cb : Int} {V : Vw} (h : Ds w d ft rm cl cb V) {i : Nat} {c : Array Value} {T : TypeId} {fz : Nat × Nat} (hi : w.heap[i]? = some (.cells c T fz)) (h1 : T ≠ 5) (h2 : T ≠ 107) (h3 : T ≠ 109) : ¬ ft i := by
  intro hf
  obtain ⟨m, fs, hd, _, rfl⟩ := h
  rcases hf with rfl | hf | ⟨f, hf, rfl | hf⟩
  · rw [hd.blk] at hi; injection hi with hi; injection hi with _ e _; exact h2 e.symm
  · exact hd.m_cells hf hi rfl
  · rw [(hd.fil f hf).1] at hi; injection hi with hi; injection hi with _ e _; exact h3 e.symm
  · obtain ⟨cur, hcu⟩ := row_at (hd.fil f ‹_›).2 hf
    rw [hcu] at hi; injection hi with hi; injection hi with _ e _; exact h1 e.symm
theorem Rk.out {w : World} {d : Nat} {fl : Value} {rm : Nat} {cl cb : Int} {V : Vw} (h : Rk w d fl rm cl cb V) {i : Nat} {c : Array Value} {T : TypeId} {fz : Nat × Nat} (hi : w.heap[i]? = some (.cells c T fz)) (h1 : T ≠ 77) (h2 : T ≠ 74) : ¬ Rt d fl i := by
  rintro (rfl | hf)
  · rw [h.blk] at hi; injection hi with hi; injection hi with _ e _; exact h1 e.symm
  · rcases h.row.2 with ⟨rfl, _⟩ | ⟨g, cap, cur, rfl, _, hh, _⟩
    · cases hf
    · injection hf with hf
      subst hf
      rw [hh] at hi; injection hi with hi; injection hi with _ e _; exact h2 e.symm
theorem Pr.again {w0 : World} {H : Nat} {w : World} {d r : Nat} {rm : Nat} {cl cb : Int} {V : Vw} {cl' cb' : Int} {V' : Vw} (h : Pr w0 H w d r rm cl cb V cl' cb' V') (p : Addr) (u : Value) (hp : p.block < H) : Pr (w.setCell p u) H (w.setCell p u) d r rm cl cb V cl' cb' V' := by
  obtain ⟨fa, fb, h1, h2, h3, h4, h5, h6, h7⟩ := h
  have hc : Ch (fun i => i = p.block) w (w.setCell p u) := (Ch.refl _ w).setCell p u (fun _ => rfl)
  exact ⟨fa, fb, h1.ch hc (fun i a e => by have := h4 i a; omega), h2.ch hc (fun i a e => by have := h5 i a; omega), h3, h4, h5, Nat.le_trans h6 hc.size, Below.refl _ _⟩
def eM (R : Nat) : List Ft3 := [(⟨#[120]⟩, 4, (some ⟨R, 0, none⟩, 1, 1))]
def eF : List Ftp := [(⟨#[120]⟩, 4, eW)]
set_option maxHeartbeats 4000000 in
set_option maxRecDepth 20000 in
theorem fails_any (w : World) : Calls Try.prog 9 #[] w fun e w' => e = .returned (.bool true) ∧ Below w.heap.size w w' := by
  go_enter Try.func9, Try.ntmps9
  go_wp2_with fail
  obtain ⟨w1, hw1⟩ : ∃ w1, w1 = (w.alloc (Obj.cells #[.int .i64 1, .string ⟨#[88, 89, 90, 87]⟩] 69)).alloc (Obj.cells #[.string ⟨#[]⟩, .int .i64 4, .slice (some ⟨w.heap.size, 0, none⟩) 1 1] 24) := ⟨_, rfl⟩
  have hR1 : w1.heap[w.heap.size]? = some (.cells #[.int .i64 1, .string ⟨#[88, 89, 90, 87]⟩] 69 (0, 0)) := by rw [hw1]; exact heap_alloc_at (heap_new _ _)
  have hF1 : w1.heap[w.heap.size + 1]? = some (.cells #[.string ⟨#[]⟩, .int .i64 4, .slice (some ⟨w.heap.size, 0, none⟩) 1 1] 24 (0, 0)) := by
    rw [hw1]
    have := heap_new (w.alloc (Obj.cells #[.int .i64 1, .string ⟨#[88, 89, 90, 87]⟩] 69)) (Obj.cells #[.string ⟨#[]⟩, .int .i64 4, .slice (some ⟨w.heap.size, 0, none⟩) 1 1] 24)
    simpa using this
  have hb1 : Below w.heap.size w w1 := by rw [hw1]; exact ((Below.refl _ w).alloc (Nat.le_refl _) _).alloc (by simp) _
  rw [← hw1]
  clear hw1
  have hWrs : ∀ wx : World, wx.heap[w.heap.size]? = some (.cells #[.int .i64 1, .string ⟨#[88, 89, 90, 87]⟩] 69 (0, 0)) → Wrs wx (some ⟨w.heap.size, 0, none⟩) eW := fun wx hx => Or.inr ⟨_, _, rfl, lt_of_heap hx, fun j hj => by
    have : j = 0 := by simp [eW] at hj; omega
    subst this
    exact ⟨(cell_of hx).trans rfl, (cell_of hx).trans rfl⟩⟩
  have hEW : ∀ x ∈ eW, WrOk x := by
    intro x hx
    simp only [eW, List.mem_singleton] at hx
    subst hx
    exact ⟨by decide, by decide, by decide⟩
  have HWRS := hid hWrs
  have HEW := hid hEW
  clear hWrs hEW
  have HL1 := left_any eA 2 ⟨#[]⟩ 4 (some ⟨w.heap.size, 0, none⟩) 1 eW w1 (by decide) (HWRS.out w1 hR1) (by decide) HEW.out
  rw [ex_left] at HL1
  refine (show Calls Try.prog 10 #[.string ⟨#[97, 98, 99, 100, 101, 102]⟩, .int .i64 2, .agg #[.string ⟨#[]⟩, .int .i64 4, .slice (some ⟨w.heap.size, 0, none⟩) 1 1]] w1 _ from HL1).mono ?_
  rintro e w2 ⟨rfl, hb2⟩
  have hR2 := (hb2.block _ (lt_of_heap hR1)).trans hR1
  have hF2 := (hb2.block _ (lt_of_heap hF1)).trans hF1
  have hbw2 := hb1.trans (hb2.mono hb1.size)
  have f20 : w2.cell? ⟨w.heap.size + 1, 0, none⟩ = some (.string ⟨#[]⟩) := (cell_of hF2).trans rfl
  have f21 : w2.cell? ⟨w.heap.size + 1, 1, none⟩ = some (.int .i64 4) := (cell_of hF2).trans rfl
  have f22 : w2.cell? ⟨w.heap.size + 1, 2, none⟩ = some (.slice (some ⟨w.heap.size, 0, none⟩) 1 1) := (cell_of hF2).trans rfl
  clear HL1 hb2 hR1 hF1 hb1
  go_wp2_with fail
  have HO2 := of_any eA 2 ⟨#[]⟩ 4 (some ⟨w.heap.size, 0, none⟩) 1 eW w2 (by decide) (HWRS.out w2 hR2) (by decide) HEW.out
  rw [ex_of] at HO2
  refine (show Calls Try.prog 12 #[.string ⟨#[97, 98, 99, 100, 101, 102]⟩, .int .i64 2, .agg #[.string ⟨#[]⟩, .int .i64 4, .slice (some ⟨w.heap.size, 0, none⟩) 1 1]] w2 _ from HO2).mono ?_
  rintro e w3 ⟨rfl, hb3⟩
  have hR3 := (hb3.block _ (lt_of_heap hR2)).trans hR2
  have hF3 := (hb3.block _ (lt_of_heap hF2)).trans hF2
  have hbw3 := hbw2.trans (hb3.mono hbw2.size)
  clear HO2 hb3 hR2 hF2 hbw2 f20 f21 f22
  go_wp2_with fail
  have HZ3 := left_any eA 2 ⟨#[]⟩ 0 none 0 [] w3 (by decide) (Or.inl rfl) (by decide) (fun _ e => by cases e)
  rw [ex_left0] at HZ3
  refine (show Calls Try.prog 10 #[.string ⟨#[97, 98, 99, 100, 101, 102]⟩, .int .i64 2, .agg #[.string ⟨#[]⟩, .int .i64 0, .slice none 0 0]] w3 _ from HZ3).mono ?_
  rintro e w4 ⟨rfl, hb4⟩
  have hR4 := (hb4.block _ (lt_of_heap hR3)).trans hR3
  have hF4 := (hb4.block _ (lt_of_heap hF3)).trans hF3
  have hbw4 := hbw3.trans (hb4.mono hbw3.size)
  clear HZ3 hb4 hR3 hF3 hbw3
  go_wp2_with fail
  obtain ⟨w5, hw5⟩ : ∃ w5, w5 = w4.alloc (Obj.cells #[.string ⟨#[120]⟩, .string ⟨#[97, 98, 99, 100, 101, 102]⟩, .int .u16 2] 40) := ⟨_, rfl⟩
  have hf5 := heap_new w4 (Obj.cells #[.string ⟨#[120]⟩, .string ⟨#[97, 98, 99, 100, 101, 102]⟩, .int .u16 2] 40)
  rw [← hw5] at hf5 ⊢
  have hb5 : Below w4.heap.size w4 w5 := by rw [hw5]; exact bel_alloc _ _
  have hR5 := (hb5.block _ (lt_of_heap hR4)).trans hR4
  have hF5 := (hb5.block _ (lt_of_heap hF4)).trans hF4
  have hbw5 := hbw4.trans (hb5.mono hbw4.size)
  have HLD := laid_any 100 (some ⟨w4.heap.size, 0, none⟩) 1 [(⟨#[120]⟩, eA, 2)] w5 (Or.inr ⟨_, _, rfl, lt_of_heap hf5, fun j hj => by
    have : j = 0 := by simp at hj; omega
    subst this
    exact ⟨(cell_of hf5).trans rfl, (cell_of hf5).trans rfl, (cell_of hf5).trans rfl⟩⟩) (by decide) (fun f hf => by
      simp only [List.mem_singleton] at hf
      subst hf
      exact ⟨by decide, by decide, by decide⟩)
  have ec : clamp 100 = 100 := by decide
  rw [ec, ex_lds] at HLD
  refine (show Calls Try.prog 14 #[.int .i64 100, .slice (some ⟨w4.heap.size, 0, none⟩) 1 1] w5 _ from HLD).mono ?_
  rintro e w6 ⟨d, r, rfl, hp6⟩
  have hR6 := (hp6.below.block _ (lt_of_heap hR5)).trans hR5
  have hF6 := (hp6.below.block _ (lt_of_heap hF5)).trans hF5
  have hbw6 := hbw5.trans (hp6.below.mono hbw5.size)
  have hFl := lt_of_heap hF5
  have hRl := lt_of_heap hR5
  have HP6 := hid hp6
  have g0 : w6.cell? ⟨w.heap.size + 1, 0, none⟩ = some (.string ⟨#[]⟩) := (cell_of hF6).trans rfl
  have gz : w6.frozen? ⟨w.heap.size + 1, 0, none⟩ = false := froz_of hF6
  clear HLD hp6 hw5 hf5 hb5 hR4 hF4 hbw4 hR5 hF5 hbw5 ec
  obtain ⟨w7, hw7⟩ : ∃ w7, w7 = w6.setCell ⟨w.heap.size + 1, 0, none⟩ (.string ⟨#[120]⟩) := ⟨_, rfl⟩
  have hF7 := heap_set (i := 0) (v := .string ⟨#[120]⟩) hF6
  rw [← hw7] at hF7
  have hF7' : w7.heap[w.heap.size + 1]? = some (.cells #[.string ⟨#[120]⟩, .int .i64 4, .slice (some ⟨w.heap.size, 0, none⟩) 1 1] 24 (0, 0)) := hF7
  have hR7 : w7.heap[w.heap.size]? = some (.cells #[.int .i64 1, .string ⟨#[88, 89, 90, 87]⟩] 69 (0, 0)) := by rw [hw7]; exact heap_set_far hR6 (by simp)
  have HP7 : Hid (Pr w7 w5.heap.size w7 d r 100 0 0 [(⟨#[120]⟩, eA.data.toList, 2)] 0 0 [(⟨#[120]⟩, eA.data.toList, 2)]) := by show Pr _ _ _ _ _ _ _ _ _ _ _ _; rw [hw7]; exact HP6.out.again ⟨w.heap.size + 1, 0, none⟩ _ hFl
  have hbw7 : Below w.heap.size w w7 := by rw [hw7]; exact hbw6.setCell (by simp) _
  have j0 : w7.cell? ⟨w.heap.size + 1, 0, none⟩ = some (.string ⟨#[120]⟩) := (cell_of hF7').trans rfl
  have j1 : w7.cell? ⟨w.heap.size + 1, 1, none⟩ = some (.int .i64 4) := (cell_of hF7').trans rfl
  have j2 : w7.cell? ⟨w.heap.size + 1, 2, none⟩ = some (.slice (some ⟨w.heap.size, 0, none⟩) 1 1) := (cell_of hF7').trans rfl
  have hw7' := hw7.symm
  clear hw7 hF7 hR6 hF6 hbw6 HP6
  go_wp2_with fail
  obtain ⟨w8, hw8⟩ : ∃ w8, w8 = w7.alloc (Obj.cells #[.string ⟨#[120]⟩, .int .i64 4, .slice (some ⟨w.heap.size, 0, none⟩) 1 1] 24) := ⟨_, rfl⟩
  have hr8 := heap_new w7 (Obj.cells #[.string ⟨#[120]⟩, .int .i64 4, .slice (some ⟨w.heap.size, 0, none⟩) 1 1] 24)
  rw [← hw8] at hr8 ⊢
  have hb8 : Below w7.heap.size w7 w8 := by rw [hw8]; exact bel_alloc _ _
  have hR8 := (hb8.block _ (lt_of_heap hR7)).trans hR7
  have hF8 := (hb8.block _ (lt_of_heap hF7')).trans hF7'
  have hbw8 := hbw7.trans (hb8.mono hbw7.size)
  have HP8 := hid (HP7.out.kept hb8)
  clear hw8 hb8 hR7 hF7' HP7 hw7' hbw8
  have FTS : Hid (∀ (wx : World) (q : Nat), wx.heap[q]? = some (.cells #[.string ⟨#[120]⟩, .int .i64 4, .slice (some ⟨w.heap.size, 0, none⟩) 1 1] 24 (0, 0)) → Fts wx (some ⟨q, 0, none⟩) (eM w.heap.size)) := fun wx q hq => Or.inr ⟨_, _, rfl, lt_of_heap hq, fun j hj => by
    have : j = 0 := by simp [eM] at hj; omega
    subst this
    exact ⟨(cell_of hq).trans rfl, (cell_of hq).trans rfl, (cell_of hq).trans rfl⟩⟩
  have FTR : Hid (∀ (wx : World) (ft : Nat → Prop), wx.heap[w.heap.size]? = some (.cells #[.int .i64 1, .string ⟨#[88, 89, 90, 87]⟩] 69 (0, 0)) → ¬ ft w.heap.size → Ftr wx ft (eM w.heap.size) eF) := fun wx ft hq hn => ⟨rfl, fun j hj => by
    have : j = 0 := by simp [eF] at hj; omega
    subst this
    refine ⟨rfl, rfl, rfl, HWRS.out wx hq, fun b off e => ?_, by decide, by decide, HEW.out⟩
    have e' : (some ⟨w.heap.size, 0, none⟩ : Option Addr) = some ⟨b, off, none⟩ := e
    injection e' with e'
    injection e' with e' _
    rw [← e']
    exact hn⟩
  have HCR : Hid (∀ Q : Ending → World → Prop, (∀ w', Pr w7 w5.heap.size w' d r 100 0 0 [(⟨#[120]⟩, [97, 98, 89, 90], 4)] 0 0 [(⟨#[120]⟩, eA.data.toList, 2)] → Oth w8 w' → Q (.returned (.tuple #[])) w') → Calls Try.prog 25 #[.pointer (some ⟨d, 0, none⟩), .slice (some ⟨w7.heap.size, 0, none⟩) 1 1] w8 Q) := fun Q hQ => by
    refine HP8.out.prog (fun fa hd => ?_) hQ
    have := crashall_any d fa 100 0 0 _ (some ⟨w7.heap.size, 0, none⟩) 1 (eM w.heap.size) eF w8 hd (by rw [← ex_lds]; exact SV.lds (by decide) _) (FTS.out w8 _ hr8) (FTR.out w8 fa hR8 (hd.out hR8 (by decide) (by decide) (by decide))) (fun b off e => by injection e with e; injection e with e _; rw [← e]; exact hd.out hr8 (by decide) (by decide) (by decide)) (by simp [eM])
    rw [show eF = [(⟨#[120]⟩, 4, eW)] from rfl, ex_crf] at this
    exact this
  refine HCR.out _ ?_
  intro w9 hp9 ho9
  have hR9 := ho9 _ _ _ _ hR8 (by decide) (by decide) (by decide)
  have hF9 := ho9 _ _ _ _ hF8 (by decide) (by decide) (by decide)
  have HP9 := hid hp9
  have k0 : w9.cell? ⟨w.heap.size + 1, 0, none⟩ = some (.string ⟨#[120]⟩) := (cell_of hF9).trans rfl
  have k1 : w9.cell? ⟨w.heap.size + 1, 1, none⟩ = some (.int .i64 4) := (cell_of hF9).trans rfl
  have k2 : w9.cell? ⟨w.heap.size + 1, 2, none⟩ = some (.slice (some ⟨w.heap.size, 0, none⟩) 1 1) := (cell_of hF9).trans rfl
  clear HCR hp9 ho9 hR8 hF8 hr8 HP8 j0 j1 j2 g0 gz
  go_wp2_with fail
  obtain ⟨w10, hw10⟩ : ∃ w10, w10 = w9.alloc (Obj.cells #[.string ⟨#[120]⟩, .int .i64 4, .slice (some ⟨w.heap.size, 0, none⟩) 1 1] 24) := ⟨_, rfl⟩
  have hr10 := heap_new w9 (Obj.cells #[.string ⟨#[120]⟩, .int .i64 4, .slice (some ⟨w.heap.size, 0, none⟩) 1 1] 24)
  rw [← hw10] at hr10 ⊢
  have hb10 : Below w9.heap.size w9 w10 := by rw [hw10]; exact bel_alloc _ _
  have hR10 := (hb10.block _ (lt_of_heap hR9)).trans hR9
  have HP10 := hid (HP9.out.kept hb10)
  have HRC : Hid (∀ Q : Ending → World → Prop, (∀ w', Pr w7 w5.heap.size w' d r 100 0 0 [(⟨#[120]⟩, [97, 98, 89, 90], 4)] 0 0 [(⟨#[120]⟩, [97, 98, 89, 90], 4)] → Q (.returned (.tuple #[])) w') → Calls Try.prog 26 #[.pointer (some ⟨r, 0, none⟩), .slice (some ⟨w9.heap.size, 0, none⟩) 1 1] w10 Q) := fun Q hQ => by
    refine HP10.out.refA (fun fl hk => ?_) (fun w' h _ => hQ w' h)
    have := rcrash_any r fl 100 0 0 _ (some ⟨w9.heap.size, 0, none⟩) 1 (eM w.heap.size) eF w10 hk (by rw [← ex_lds]; exact SV.lds (by decide) _) (FTS.out w10 _ hr10) (FTR.out w10 _ hR10 (hk.out hR10 (by decide) (by decide))) (fun b off e => by injection e with e; injection e with e _; rw [← e]; exact hk.out hr10 (by decide) (by decide)) (by simp [eM])
    rw [show eF = [(⟨#[120]⟩, 4, eW)] from rfl, ex_crf] at this
    exact this
  refine HRC.out _ ?_
  intro w11 hp11
  have HP11 := hid hp11
  clear HRC hp11 hR9 hF9 hr10 hb10 hR10 HP10 HP9 k0 k1 k2 hw10 FTS FTR HWRS HEW
  go_wp2_with fail
  have HSM : Hid (Calls Try.prog 27 #[.pointer (some ⟨d, 0, none⟩), .pointer (some ⟨r, 0, none⟩)] w11 fun e w' => e = .returned (.bool true) ∧ Below w11.heap.size w11 w') := by
    obtain ⟨fa, fb, h1, h2, _⟩ := HP11.out
    exact same8_any d r fa fb 100 0 0 _ w11 h1 h2 (by rw [← ex_lds2]; exact SV.lds (by decide) _)
  refine HSM.out.mono ?_
  rintro e w12 ⟨rfl, hb12⟩
  have HP12 := hid (HP11.out.kept hb12)
  have hbl : Below w.heap.size w w12 := hbw7.trans (HP12.out.below.mono (Nat.le_of_lt hRl))
  obtain ⟨fa, fb, _, ⟨fl, hk, _⟩, _⟩ := HP12.out
  have c1 : w12.cell? ⟨r, 1, none⟩ = some fl := (cell_of hk.blk).trans rfl
  rcases hk.form with ⟨_, e⟩ | ⟨g, cap, rfl, hc, hz, _⟩
  · cases e
  have c2 : w12.cell? ⟨g, 1, none⟩ = some (.string ⟨#[97, 98, 89, 90]⟩) := (hc 1 (by decide)).trans rfl
  clear HSM HP11 HP12 hb12 hk hc hz hbw7
  go_wp2_with fail
  go_ret
  exact ⟨rfl, hbl⟩
end Go.Proofs.Ythjbhfhdepepmaa
namespace Go.Proofs.Ythjbhfhdepepmaa
open Go.RowKit
theorem bl_drew {H : Nat} {a b : World} (h : Below H a b) (hs : H ≤ a.heap.size) : Below H a b.drew := h.trans ((((Ch.refl (fun _ => False) b).drew).below (Nat.le_refl _) (fun _ _ e => e)).mono (Nat.le_trans hs h.size))
set_option maxHeartbeats 4000000 in
set_option maxRecDepth 20000 in
theorem plf_any (D : ByteArray) (sy : Int) (nm : ByteArray) (kp : Int) (a : Option Addr) (cap : Nat) (ws : List (Int × ByteArray)) (w : World) (hD : D.size ≤ 140737488355328) (hw : Wrs w a ws) (hl : ws.length ≤ 140737488355328) (hok : ∀ x ∈ ws, WrOk x) :
    Calls Try.prog 3 #[.string D, .int .i64 sy, .agg #[.string nm, .int .i64 kp, .slice a ws.length cap]] w fun e w' => e = .returned (.bool true) ∧ Below w.heap.size w w' := by
  have hbw : Below w.heap.size w (w.alloc (Obj.cells #[.string nm, .int .i64 kp, .slice a ws.length cap] 24)) := bel_alloc _ _
  have hF : (w.alloc (Obj.cells #[.string nm, .int .i64 kp, .slice a ws.length cap] 24)).heap[w.heap.size]? = some (.cells #[.string nm, .int .i64 kp, .slice a ws.length cap] 24 (0, 0)) := heap_new _ _
  obtain ⟨w0, hw0⟩ : ∃ w0, w0 = w.alloc (Obj.cells #[.string nm, .int .i64 kp, .slice a ws.length cap] 24) := ⟨_, rfl⟩
  rw [← hw0] at hbw hF
  have hv := hw.kept hbw
  have HFL := hid (fails_any w0)
  have HA : Hid (∀ wx, Below w0.heap.size w0 wx → Calls Try.prog 10 #[.string D, .int .i64 sy, .agg #[.string nm, .int .i64 kp, .slice a ws.length cap]] wx fun e w' => e = .returned (.string (ba (lft D.data.toList sy kp ws))) ∧ Below w0.heap.size w0 w') := fun wx hb =>
    (left_any D sy nm kp a cap ws wx hD (hv.kept hb) hl hok).mono fun e w' h => ⟨h.1, hb.trans (h.2.mono hb.size)⟩
  have HB : Hid (∀ wx, Below w0.heap.size w0 wx → Calls Try.prog 11 #[.string D, .int .i64 sy, .agg #[.string nm, .int .i64 kp, .slice a ws.length cap]] wx fun e w' => e = .returned (.string (ba (lft D.data.toList sy kp ws))) ∧ Below w0.heap.size w0 w') := fun wx hb =>
    (rleft_any D sy nm kp a cap ws wx hD (hv.kept hb) hl hok).mono fun e w' h => ⟨h.1, hb.trans (h.2.mono hb.size)⟩
  have HC : Hid (∀ wx, Below w0.heap.size w0 wx → Calls Try.prog 12 #[.string D, .int .i64 sy, .agg #[.string nm, .int .i64 kp, .slice a ws.length cap]] wx fun e w' => e = .returned (.int .i64 (ofN D.data.toList (lft D.data.toList sy kp ws))) ∧ Below w0.heap.size w0 w') := fun wx hb =>
    (of_any D sy nm kp a cap ws wx hD (hv.kept hb) hl hok).mono fun e w' h => ⟨h.1, hb.trans (h.2.mono hb.size)⟩
  have HE : Hid (∀ wx, Below w0.heap.size w0 wx → Calls Try.prog 13 #[.string D, .int .i64 sy, .agg #[.string nm, .int .i64 kp, .slice a ws.length cap]] wx fun e w' => e = .returned (.int .i64 (ofN D.data.toList (lft D.data.toList sy kp ws))) ∧ Below w0.heap.size w0 w') := fun wx hb =>
    (rof_any D sy nm kp a cap ws wx hD (hv.kept hb) hl hok).mono fun e w' h => ⟨h.1, hb.trans (h.2.mono hb.size)⟩
  have HF : Hid (∀ wx, Below w0.heap.size w0 wx → wx.heap[w.heap.size]? = some (.cells #[.string nm, .int .i64 kp, .slice a ws.length cap] 24 (0, 0))) := fun wx hb => (hb.block _ (lt_of_heap hF)).trans hF
  generalize ba (lft D.data.toList sy kp ws) = L at HA HB
  generalize hN : (ofN D.data.toList (lft D.data.toList sy kp ws) : Int) = N at HC HE
  have HN := hid hN
  clear hD hw hl hok hN hv hF
  generalize ws.length = M at HA HB HC HE HF hw0 ⊢
  go_enter Try.func3, Try.ntmps3
  go_wp2_with fail
  rw [← hw0]
  clear hw0
  refine HFL.out.mono ?_
  rintro e w1 ⟨rfl, hb1⟩
  have c0 : w1.cell? ⟨w.heap.size, 0, none⟩ = some (.string nm) := (cell_of (HF.out _ hb1)).trans rfl
  have c1 : w1.cell? ⟨w.heap.size, 1, none⟩ = some (.int .i64 kp) := (cell_of (HF.out _ hb1)).trans rfl
  have c2 : w1.cell? ⟨w.heap.size, 2, none⟩ = some (.slice a M cap) := (cell_of (HF.out _ hb1)).trans rfl
  have HG : Hid (∀ wx, Below w0.heap.size w0 wx → wx.cell? ⟨w.heap.size, 0, none⟩ = some (.string nm) ∧ wx.cell? ⟨w.heap.size, 1, none⟩ = some (.int .i64 kp) ∧ wx.cell? ⟨w.heap.size, 2, none⟩ = some (.slice a M cap)) := fun wx hb => ⟨(cell_of (HF.out _ hb)).trans rfl, (cell_of (HF.out _ hb)).trans rfl, (cell_of (HF.out _ hb)).trans rfl⟩
  go_wp2_with fail
  go_region_held3 (fun x => x.cell? ⟨w.heap.size, 0, none⟩ = some (.string nm) ∧ x.cell? ⟨w.heap.size, 1, none⟩ = some (.int .i64 kp) ∧ x.cell? ⟨w.heap.size, 2, none⟩ = some (.slice a M cap)) ((first | assumption | exact ⟨by assumption, by assumption, by assumption⟩ | go_keep)) (first | (go_at_call 10; refine (HA.out _ (by first | exact hb1 | exact bl_drew hb1 (Nat.le_refl _))).mono ?_; rintro e w2 ⟨rfl, hb2⟩; obtain ⟨d20, d21, d22⟩ := HG.out _ hb2) | (go_at_call 11; refine (HB.out _ (by first | exact hb2 | exact bl_drew hb2 (Nat.le_refl _))).mono ?_; rintro e w3 ⟨rfl, hb3⟩; obtain ⟨d30, d31, d32⟩ := HG.out _ hb3) | (go_at_call 12; refine (HC.out _ (by first | exact hb3 | exact bl_drew hb3 (Nat.le_refl _))).mono ?_; rintro e w4 ⟨rfl, hb4⟩; obtain ⟨d40, d41, d42⟩ := HG.out _ hb4) | (go_at_call 13; refine (HE.out _ (by first | exact hb4 | exact bl_drew hb4 (Nat.le_refl _))).mono ?_; rintro e w5 ⟨rfl, hb5⟩; obtain ⟨d50, d51, d52⟩ := HG.out _ hb5))
  go_wp2_with fail
  go_ret
  exact ⟨rfl, hbw.trans (hb5.mono hbw.size)⟩
end Go.Proofs.Ythjbhfhdepepmaa
namespace Go.Proofs.Ythjbhfhdepepmaa
open Go.ChangeShapes Go.WideShapes Go.ChangeAt Go.RowKit Go.Deep
theorem Try.cFate : Try.prog.cellsOf 24 = 3 := by kernel_rfl
theorem Try.cWrite : Try.prog.cellsOf 69 = 2 := by kernel_rfl
theorem Try.cStr : Try.prog.cellsOf 9 = 1 := by kernel_rfl
theorem Try.cI64 : Try.prog.cellsOf 3 = 1 := by kernel_rfl
theorem Try.cWrs : Try.prog.cellsOf 22 = 1 := by kernel_rfl
theorem Try.bWrite : Try.prog.bytesOf 69 = 24 := by kernel_rfl
variable {H : Type} {enc : TypeId × Value → H} {W : World}
theorem w_mem_all {P : Program} {e : TypeId} : ∀ {l : List (DataW H)} {d : DataW H}, d ∈ l → ∀ n ∈ d.weights P e, n ∈ DataW.weightsAll P e l
  | x :: l, d, h, n, hn => by
    simp only [DataW.weightsAll, List.mem_append]
    rcases List.mem_cons.1 h with rfl | h
    · exact Or.inl hn
    · exact Or.inr (w_mem_all h n hn)
theorem open_write {fuel : Nat} {cs : List Value} {x : DataW H × List MemPlace} (h : DataW.trod enc Try.prog W 0 (fun _ => true) true fuel 69 cs = some x) : ∃ y : Int × ByteArray, cs = [.int .i64 y.1, .string y.2] ∧ (Lit.int .i64 y.1).wf = true ∧ y.2.size ∈ x.1.weights Try.prog 69 := by
  obtain ⟨y0, y1, n, rfl, hlen, k0, k1⟩ := trod_struct2 Try.underlying69 h
  rw [Try.cWrite] at hlen
  simp only [Try.cI64, Try.cStr] at k0 k1
  obtain ⟨b, q0, r0, w0⟩ := DataW.trod_int Try.underlying3 k0
  obtain ⟨d, q1, r1, w1⟩ := DataW.trod_string Try.underlying9 k1
  match cs, hlen with
  | [u, v], _ =>
    simp at q0 q1
    subst q0 q1
    refine ⟨(b, d), rfl, w0, ?_⟩
    rw [r0, r1]
    simp [DataW.weights, DataW.weightsEach, Try.underlying69]
theorem open_wrs {fuel : Nat} {cs : List Value} {x : DataW H × List MemPlace} (h : DataW.trod enc Try.prog W 0 (fun _ => true) true fuel 22 cs = some x) (hz : ∀ n ∈ x.1.weights Try.prog 22, n ≤ reachBytes) : ∃ (a : Option Addr) (cap : Nat) (ws : List (Int × ByteArray)), cs = [.slice a ws.length cap] ∧ Wrs W a ws ∧ ws.length ≤ 140737488355328 ∧ ∀ y ∈ ws, WrOk y := by
  rcases open_slice Try.underlying22 h with ⟨hcs', hx⟩ | ⟨x', l, c, m, n, D, Pl, hcs', _, hl', hm, hmm, hx, hel⟩
  · exact ⟨none, 0, [], by simpa using hcs', Or.inl rfl, by simp, by simp⟩
  · simp only [if_true] at hmm
    subst hx
    simp only [DataW.weights, Try.underlying22, List.length_map, List.length_range, Try.bWrite, List.mem_cons, List.mem_append] at hz
    have hl0 := hz _ (Or.inl rfl)
    have each : ∀ i, i < l → ∃ o : Int × ByteArray, W.cell? ((x'.add (i * 2)).add 0) = some (.int .i64 o.1) ∧ W.cell? ((x'.add (i * 2)).add 1) = some (.string o.2) ∧ WrOk o := by
      intro i hi
      obtain ⟨cs', e1, e2⟩ := hel i (by omega)
      rw [Try.cWrite] at e1
      obtain ⟨y, hy, hwf, hb⟩ := open_write e2
      have g := (World.cells?_some e1)
      have hb' := hz _ (Or.inr (Or.inl (w_mem_all (List.mem_map_of_mem (List.mem_range.2 hi)) _ hb)))
      refine ⟨y, ?_, ?_, (bounds_i64 hwf).1, (bounds_i64 hwf).2, ?_⟩
      · rw [g.2.2 0 (by omega), hy]; rfl
      · rw [g.2.2 1 (by omega), hy]; rfl
      · unfold reachBytes at hb'; omega
    obtain ⟨f, hf⟩ := choose_lt each
    refine ⟨some x', c, (List.range l).map f, by simpa using hcs', ?_, ?_, ?_⟩
    · by_cases h0 : l = 0
      · left; subst h0; rfl
      · right
        obtain ⟨b, off, spot⟩ := x'
        have h00 := (hf 0 (by omega)).1
        have hspot : spot = none := by simpa [Addr.add] using World.cell?_spot h00
        subst hspot
        have hlt := World.block_lt_of_cell? _ _ h00
        refine ⟨b, off, rfl, by simpa [Addr.add] using hlt, fun j hj => ?_⟩
        have hj' : j < l := by simpa using hj
        obtain ⟨k0, k1, _⟩ := hf j hj'
        rw [Go.WideShapes.add_plain, Go.WideShapes.add_plain] at k0 k1
        have eg : ((List.range l).map f).getD j w00 = f j := by
          rw [List.getD_eq_getElem?_getD, List.getElem?_map, List.getElem?_range hj']
          rfl
        rw [eg]
        exact ⟨by simpa using k0, k1⟩
    · simp only [List.length_map, List.length_range]
      unfold reachBytes at hl0
      omega
    · intro y hy
      simp only [List.mem_map, List.mem_range] at hy
      obtain ⟨i, hi, rfl⟩ := hy
      exact (hf i hi).2.2
set_option maxRecDepth 20000 in
theorem open_fate {fuel : Nat} {cs : List Value} {x : DataW H × List MemPlace} (h : DataW.trod enc Try.prog W 0 (fun _ => true) true fuel 24 cs = some x) (hz : ∀ n ∈ x.1.weights Try.prog 24, n ≤ reachBytes) : ∃ (nm : ByteArray) (kp : Int) (a : Option Addr) (cap : Nat) (ws : List (Int × ByteArray)), cs = [.string nm, .int .i64 kp, .slice a ws.length cap] ∧ Wrs W a ws ∧ ws.length ≤ 140737488355328 ∧ (∀ y ∈ ws, WrOk y) ∧ nm.size ≤ 140737488355328 ∧ (Lit.int .i64 kp).wf = true := by
  obtain ⟨xs, n, _, rfl, hlen, hxs, hf⟩ := DataW.trod_struct Try.underlying24 h
  rw [Try.cFate] at hlen
  match xs, hxs with
  | [y0, y1, y2], _ =>
    have k0 : DataW.trod enc Try.prog W 0 (fun _ => true) true n 9 ((cs.drop 0).take (Try.prog.cellsOf 9)) = some y0 := hf 0 _ rfl
    have k1 : DataW.trod enc Try.prog W 0 (fun _ => true) true n 3 ((cs.drop 1).take (Try.prog.cellsOf 3)) = some y1 := hf 1 _ rfl
    have k2 : DataW.trod enc Try.prog W 0 (fun _ => true) true n 22 ((cs.drop 2).take (Try.prog.cellsOf 22)) = some y2 := hf 2 _ rfl
    rw [Try.cStr] at k0
    rw [Try.cI64] at k1
    rw [Try.cWrs] at k2
    have hz' : ∀ n ∈ DataW.weightsEach Try.prog [9, 3, 22] [y0.1, y1.1, y2.1], n ≤ reachBytes := by
      have e : DataW.weights Try.prog 24 (DataW.agg (H := H) [y0.1, y1.1, y2.1]) = DataW.weightsEach Try.prog [9, 3, 22] [y0.1, y1.1, y2.1] := by
        simp only [DataW.weights, Try.underlying24]
        rfl
      rw [← e]
      exact hz
    obtain ⟨nm, q0, r0, w0⟩ := DataW.trod_string Try.underlying9 k0
    obtain ⟨kp, q1, r1, w1⟩ := DataW.trod_int Try.underlying3 k1
    obtain ⟨a, cap, ws, q2, V, hl, hk⟩ := open_wrs k2 (fun n hn => hz' n (DataW.weights_mem_each (j := 2) rfl rfl n hn))
    have hnm := hz' nm.size (DataW.weights_mem_each (j := 0) (t := 9) (d := y0.1) rfl rfl _ (by rw [r0]; simp [DataW.weights]))
    match cs, hlen with
    | [c0, c1, c2], _ =>
      simp at q0 q1 q2
      subst q0 q1 q2
      exact ⟨nm, kp, a, cap, ws, rfl, V, hl, hk, by unfold reachBytes at hnm; omega, w1⟩
end Go.Proofs.Ythjbhfhdepepmaa
