/- Texts of the proof, put together: Crh, Fis, Fiw, Cra, Rfa, Rlf, Ofk, Rof, Pra, Rca. -/
import Derived.Test.YthjbhfhdepepmaaLft
import Derived.Test.YthjbhfhdepepmaaPar
import Derived.Test.YthjbhfhdepepmaaMmh
import Derived.Maps.Ext
import Derived.Maps.Views
namespace Go.Proofs.Ythjbhfhdepepmaa
open Go.RowKit
section
variable {w w1 w2 : World} {ft : Nat → Prop} {d : Nat} {rm : Nat} {cl cb cl1 cb1 cl2 cb2 : Int} {V V1 V2 : Vw}
theorem Aft.start (h : Ds w d ft rm cl cb V) : Aft w ft d rm cl cb V w := ⟨ft, h, Ch.refl _ _, fun _ a => Or.inl a⟩
theorem Aft.kept (h : Aft w ft d rm cl cb V w1) (hb : Below w1.heap.size w1 w2) : Aft w ft d rm cl cb V w2 := by
  obtain ⟨f1, k1, k2, k3⟩ := h
  exact ⟨f1, k1.kept hb, k2.then (Ch.of_below (S := fun _ => False) hb) (fun _ _ e => e.elim), k3⟩
theorem Aft.step (h : Aft w ft d rm cl1 cb1 V1 w1) {f : FuncId} {args : Array Value} {v : Value} (hc : ∀ f1, Ds w1 d f1 rm cl1 cb1 V1 → Calls Try.prog f args w1 fun e w2 => e = .returned v ∧ Aft w1 f1 d rm cl2 cb2 V2 w2) :
    Calls Try.prog f args w1 fun e w2 => e = .returned v ∧ Aft w ft d rm cl2 cb2 V2 w2 ∧ Oth w1 w2 := by
  obtain ⟨f1, k1, k2, k3⟩ := h
  refine (hc f1 k1).mono ?_
  rintro e w2 ⟨he, f2, m1, m2, m3⟩
  refine ⟨he, ⟨f2, m1, k2.then m2 (fun i hi hf => ?_), fun i hi => ?_⟩, k1.oth m2⟩
  · rcases k3 i hf with a | a
    · exact a
    · omega
  · rcases m3 i hi with a | a
    · exact k3 i a
    · exact Or.inr (Nat.le_trans k2.size a)
theorem Aft.look (h : Aft w ft d rm cl1 cb1 V1 w1) {f : FuncId} {args : Array Value} {v : Value} (hc : ∀ f1, Ds w1 d f1 rm cl1 cb1 V1 → Calls Try.prog f args w1 fun e w2 => e = .returned v ∧ ∃ k, w2 = w1.drewN k) :
    Calls Try.prog f args w1 fun e w2 => e = .returned v ∧ Aft w ft d rm cl1 cb1 V1 w2 ∧ Oth w1 w2 := by
  have h' := h
  obtain ⟨f1, k1, k2, k3⟩ := h
  refine (hc f1 k1).mono ?_
  rintro e w2 ⟨he, k, rfl⟩
  exact ⟨he, h'.kept (bel_drewN w1 k), Oth.below (bel_drewN w1 k)⟩
end
/-- One write of a crash, as the disk does it. -/
theorem cr_over {l r : Vw} {nm : ByteArray} {b : List UInt8} {sy o : Nat} {Y : ByteArray} (hl : ∀ y ∈ l, Bf y.1 nm) (hr : ∀ y ∈ r, Bf nm y.1) (h : o + Y.size ≤ b.length) : ovV nm o Y (l ++ (nm, (b, sy)) :: r) = l ++ (nm, (ovr b o Y.data.toList, sy)) :: r := by
  unfold ovV
  rw [vl_mid hl]
  have e5 : has5 b.length o Y.size = true := by unfold has5; simp; omega
  simp only [e5, if_true]
  rw [vset_mid hl hr]
  simp
theorem cr_cut {l r : Vw} {nm : ByteArray} {X : List UInt8} {sy t : Nat} (hl : ∀ y ∈ l, Bf y.1 nm) (hr : ∀ y ∈ r, Bf nm y.1) (h : t ≤ X.length) (hs : sy ≤ t) : cuV nm t (l ++ (nm, (X, sy)) :: r) = l ++ (nm, (X.take t, sy)) :: r := by
  unfold cuV
  rw [vl_mid hl]
  have e5 : has5 X.length 0 t = true := by unfold has5; simp; omega
  simp only [e5, if_true]
  rw [vset_mid hl hr]
  congr 3
  · simp; omega
theorem cr_sync {l r : Vw} {nm : ByteArray} {X : List UInt8} {sy : Nat} (hl : ∀ y ∈ l, Bf y.1 nm) (hr : ∀ y ∈ r, Bf nm y.1) : synV nm (l ++ (nm, (X, sy)) :: r) = l ++ (nm, (X, X.length)) :: r := by
  unfold synV
  rw [vl_mid hl]
  simp only
  rw [vset_mid hl hr]
set_option maxHeartbeats 4000000 in
set_option maxRecDepth 20000 in
theorem crash_any (d : Nat) (ft : Nat → Prop) (rm : Nat) (cl cb : Int) (l r : Vw) (nm : ByteArray) (X : List UInt8) (sy : Nat) (fn : ByteArray) (kp : Int) (a : Option Addr) (cap : Nat) (ws : List (Int × ByteArray)) (w : World) (h : Ds w d ft rm cl cb (l ++ (nm, (X, sy)) :: r)) (hs : SV rm (l ++ (nm, (X, sy)) :: r))
    (hl : ∀ y ∈ l, Bf y.1 nm) (hr : ∀ y ∈ r, Bf nm y.1) (hn : nm.size ≤ maxLen) (hw : Wrs w a ws) (hwf : ∀ b off, a = some ⟨b, off, none⟩ → ws ≠ [] → ¬ ft b) (hlw : ws.length ≤ 140737488355328) (hok : ∀ x ∈ ws, WrOk x) :
    Calls Try.prog 59 #[.pointer (some ⟨d, 0, none⟩), .string nm, .agg #[.string fn, .int .i64 kp, .slice a ws.length cap]] w fun e w' => e = .returned (.tuple #[]) ∧ Aft w ft d rm cl cb (l ++ (nm, (lft X sy kp ws, (lft X sy kp ws).length)) :: r) w' := by
  have hx := hs.at (vl_mid (x := (X, sy)) (r := r) hl)
  have esf : sfe X.length (sy : Int) = sy := by unfold sfe; have := hx.2.1; simp only at this; omega
  unfold lft
  rw [esf]
  obtain ⟨t, ht⟩ : ∃ t, t = kpt X.length sy kp := ⟨_, rfl⟩
  have htle := kpt_le (n := X.length) (s := sy) kp hx.2.1
  have HLO := hid (fun (v : Value) (wx : World) => loose_any X.length sy fn kp v wx)
  rw [← ht] at htle HLO ⊢
  clear ht esf
  have HD := hid h
  have HS := hid hs
  have HLR := hid (And.intro hl hr)
  have HW := hid hw
  have HWF := hid hwf
  have HOK := hid hok
  have SZ : Hid (∀ (wx : World) f1 (c b : Int), Ds wx d f1 rm c b (l ++ (nm, (X, sy)) :: r) → Calls Try.prog 36 #[.pointer (some ⟨d, 0, none⟩), .string nm] wx fun e w' => e = .returned (.tuple #[.int .i64 X.length, .int .i64 0]) ∧ ∃ k, w' = wx.drewN k) := fun wx f1 c b h1 => by
    have := s_size d f1 rm c b _ nm wx h1 hn; rw [vl_mid hl] at this; exact this
  have SY : Hid (∀ (wx : World) f1 (c b : Int), Ds wx d f1 rm c b (l ++ (nm, (X, sy)) :: r) → Calls Try.prog 35 #[.pointer (some ⟨d, 0, none⟩), .string nm] wx fun e w' => e = .returned (.tuple #[.int .i64 sy, .int .i64 0]) ∧ ∃ k, w' = wx.drewN k) := fun wx f1 c b h1 => by
    have := s_synced d f1 rm c b _ nm wx h1 hn; rw [vl_mid hl] at this; exact this
  generalize hN : ws.length = N at *
  have HN := hid hN
  clear hN h hs hl hr hw hwf hok
  obtain ⟨wA, hwA⟩ : ∃ wA, wA = w.alloc (Obj.cells #[.string fn, .int .i64 kp, .slice a N cap] 24) := ⟨_, rfl⟩
  have hA := heap_new w (Obj.cells #[.string fn, .int .i64 kp, .slice a N cap] 24)
  rw [← hwA] at hA
  have HAF : Hid (Aft w ft d rm cl cb (l ++ (nm, (X, sy)) :: r) wA) := (Aft.start HD.out).kept (by rw [hwA]; exact bel_alloc _ _)
  have HA := hid hA
  have hwA' := hwA.symm
  clear hwA hA
  go_enter Try.func59, Try.ntmps59
  go_wp2_with fail
  refine (HAF.out.look (fun f1 h1 => SZ.out _ f1 _ _ h1)).mono ?_
  rintro e w1 ⟨rfl, hf1, ho1⟩
  have HF1 := hid hf1
  have hA1 := ho1 w.heap.size _ _ _ HA.out (by decide) (by decide) (by decide)
  clear hf1 ho1
  go_wp2_with fail
  refine (HF1.out.look (fun f1 h1 => SY.out _ f1 _ _ h1)).mono ?_
  rintro e w2 ⟨rfl, hf2, ho2⟩
  have HF2 := hid hf2
  have hA2 := ho2 w.heap.size _ _ _ hA1 (by decide) (by decide) (by decide)
  clear hf2 ho2 hA1
  have a0 : w2.cell? ⟨w.heap.size, 0, none⟩ = some (.string fn) := (cell_of hA2).trans rfl
  have a1 : w2.cell? ⟨w.heap.size, 1, none⟩ = some (.int .i64 kp) := (cell_of hA2).trans rfl
  have a2 : w2.cell? ⟨w.heap.size, 2, none⟩ = some (.slice a N cap) := (cell_of hA2).trans rfl
  go_wp2_with (go_at_call 40; refine (HLO.out _ _).mono ?_; rintro e w3 ⟨rfl, hb3⟩)
  obtain ⟨w4, hw4⟩ : ∃ w4, w4 = w3.alloc (Obj.cells #[.int .i64 sy, .int .i64 t] 79) := ⟨_, rfl⟩
  rw [← hw4]
  have hP4 := heap_new w3 (Obj.cells #[.int .i64 sy, .int .i64 t] 79)
  rw [← hw4] at hP4
  have hb4 : Below w3.heap.size w3 w4 := by rw [hw4]; exact bel_alloc _ _
  have HF4 := hid ((HF2.out.kept hb3).kept hb4)
  have hA3 := (hb3.block w.heap.size (lt_of_heap hA2)).trans hA2
  have hA4 := (hb4.block w.heap.size (lt_of_heap hA3)).trans hA3
  clear hw4 hb3 hb4 hA3 hA2 a0 a1 a2 HF1 HF2 HAF SZ SY HLO hwA' HA
  refine (HF4.out.step (fun f1 h1 => s_cut d f1 rm cl cb _ nm _ h1 (t : Int) hn)).mono ?_
  rintro e w5 ⟨rfl, hf5, ho5⟩
  rw [cr_cut HLR.out.1 HLR.out.2 htle.2 htle.1] at hf5
  have hA5 := ho5 w.heap.size _ _ _ hA4 (by decide) (by decide) (by decide)
  have hP5 := ho5 w3.heap.size _ _ _ hP4 (by decide) (by decide) (by decide)
  have HF5 := hid (And.intro hf5 hP5)
  have a2 : w5.cell? ⟨w.heap.size, 2, none⟩ = some (.slice a N cap) := (cell_of hA5).trans rfl
  clear hf5 ho5 hA4 hP4 hA5 hP5 HF4
  generalize w3.heap.size = P at *
  have hb0 : (X.take t).length = t := by rw [List.length_take]; omega
  generalize hB0 : X.take t = b0 at *
  have HB0 := hid hB0
  clear hB0
  go_wp2_with fail
  have hx30 : t ≤ 1073741824 := Nat.le_trans htle.2 hx.1
  go_loopg [39] N (fun k i wr => ∃ (j : Nat) (b : List UInt8), j + k = N ∧ i = .int .i64 j ∧ b.length = t ∧ Hid (b = lfs sy t b0 (ws.take j)) ∧ Hid (Aft w ft d rm cl cb (l ++ (nm, (b, sy)) :: r) wr ∧ wr.heap[P]? = some (.cells #[.int .i64 sy, .int .i64 t] 79 (0, 0))))
  case atStart => exact ⟨0, b0, by omega, rfl, hb0, rfl, HF5⟩
  case round =>
    clear HF5 a2
    obtain ⟨j, b, hk, rfl, hbl, HB, HQ⟩ := hrel
    by_cases hlt : j < N
    · obtain ⟨k, rfl⟩ : ∃ k, gk = k + 1 := ⟨gk - 1, by omega⟩
      have hltD : decide ((j : Int) < N) = true := by simp; omega
      have hltI : (j : Int) < N := by omega
      have EW : Hid (wrap64 ((j : Int) + 1) = ((j + 1 : Nat) : Int)) := by show _ = _; unfold wrap64; omega
      rcases HW.out with rfl | ⟨bk, off, rfl, hbl', hcl'⟩
      · exact absurd hlt (by rw [← HN.out]; simp)
      obtain ⟨q0, q1⟩ := hcl' j (by rw [HN.out]; exact hlt)
      have hbb : wr.heap[bk]? = w.heap[bk]? := by
        obtain ⟨f1, _, m2, _⟩ := HQ.out.1
        exact m2.block bk hbl' (HWF.out bk off rfl (fun e => by have h3 := HN.out; rw [e] at h3; simp at h3; omega))
      have hcc : ∀ o, wr.cell? ⟨bk, o, none⟩ = w.cell? ⟨bk, o, none⟩ := fun o => by simp only [World.cell?, hbb]
      rw [← hcc] at q0 q1
      have hok := HOK.out (ws.getD j w00) (by rw [List.getD_eq_getElem?_getD, List.getElem?_eq_getElem (by rw [HN.out]; exact hlt)]; exact List.getElem_mem _)
      have HE : Hid (lfs sy t b0 (ws.take (j + 1)) = lf1 sy t b (ws.getD j w00)) := by
        show _ = _
        rw [HB.out]
        unfold lfs
        rw [List.take_succ_eq_append_getElem (by rw [HN.out]; exact hlt), List.foldl_append]
        rw [List.getD_eq_getElem?_getD, List.getElem?_eq_getElem (by rw [HN.out]; exact hlt)]
        rfl
      generalize ws.getD j w00 = x at *
      obtain ⟨at', D'⟩ := x
      obtain ⟨o1, o2, o3⟩ := hok
      simp only at q0 q1 o1 o2 o3
      have hfit := wn_fit at' D'.data.toList htle.1
      obtain ⟨wa, hwa⟩ : ∃ wa, wa = wr.alloc (Obj.cells #[.int .i64 at', .string D'] 69) := ⟨_, rfl⟩
      have hF := heap_new wr (Obj.cells #[.int .i64 at', .string D'] 69)
      rw [← hwa] at hF
      have f0 : wa.cell? ⟨wr.heap.size, 0, none⟩ = some (.int .i64 at') := (cell_of hF).trans rfl
      have f1 : wa.cell? ⟨wr.heap.size, 1, none⟩ = some (.string D') := (cell_of hF).trans rfl
      have hba : Below wr.heap.size wr wa := by rw [hwa]; exact bel_alloc _ _
      have HQa := hid (And.intro (HQ.out.1.kept hba) ((hba.block P (lt_of_heap HQ.out.2)).trans HQ.out.2))
      have g0 : wa.cell? ⟨P, 0, none⟩ = some (.int .i64 sy) := (cell_of HQa.out.2).trans rfl
      have g1 : wa.cell? ⟨P, 1, none⟩ = some (.int .i64 t) := (cell_of HQa.out.2).trans rfl
      have HWI := hid (within_any sy t at' D' wa htle.1 (by omega) o1 o3)
      have hwa' := hwa.symm
      have HE2 : Hid (lf1 sy t b (at', D') = ovr b (wn sy t at' D'.data.toList).1 (ba (wn sy t at' D'.data.toList).2).data.toList) := rfl
      have hfs : (ba (wn sy t at' D'.data.toList).2).size = (wn sy t at' D'.data.toList).2.length := ba_size _
      rw [← hfs] at hfit
      generalize ba (wn sy t at' D'.data.toList).2 = Y at *
      generalize (wn sy t at' D'.data.toList).1 = o at *
      have HFIT := hid (And.intro hfit (And.intro hk (And.intro hbl hx30)))
      clear hwa hcl' HQ hF hba hfs hcc hbb hbl' hx30 hfit hk hbl o1 o2 o3 htle hx hb0 hlt hlw
      go_wp2_with (go_at_call 41; refine HWI.out.mono ?_; rintro e w4 ⟨rfl, hb4⟩; have HQ4 := hid (And.intro (HQa.out.1.kept hb4) ((hb4.block P (lt_of_heap HQa.out.2)).trans HQa.out.2)); clear hb4)
      refine (HQ4.out.1.step (fun f1 h1 => s_over d f1 rm cl cb _ nm _ h1 (o : Int) Y hn (by have := HFIT.out.1.1; have := HFIT.out.2.2.2; omega))).mono ?_
      rintro e w5 ⟨rfl, hf5, ho5⟩
      rw [cr_over HLR.out.1 HLR.out.2 (by rw [HFIT.out.2.2.1]; exact HFIT.out.1.1)] at hf5
      have HQ5 := hid (And.intro hf5 (ho5 P _ _ _ HQ4.out.2 (by decide) (by decide) (by decide)))
      clear hf5 ho5 HQ4 HQa q0 q1 f0 f1 g0 g1
      go_wp2_with fail
      obtain ⟨hfit, hk, hbl, hx30⟩ := HFIT.out
      have hyl : Y.data.toList.length = Y.size := Array.length_toList
      go_roundg k
      case measure => omega
      case rel => exact ⟨j + 1, _, by omega, by first | exact congrArg (Value.int .i64) EW.out | rfl, by rw [ovr_len _ _ _ (by omega)]; exact hbl, by show _ = _; rw [HE.out, HE2.out], HQ5⟩
    · have hltD : decide ((j : Int) < N) = false := by simp; omega
      have hj : ws.take j = ws := List.take_of_length_le (by rw [HN.out]; omega)
      have hb' := HB.out
      rw [hj] at hb'
      have HBB := hid hb'
      clear hb' HB
      go_wp2_with fail
      refine (HQ.out.1.step (fun f1 h1 => s_sync d f1 rm cl cb _ nm _ h1 hn)).mono ?_
      rintro e w5 ⟨rfl, hf5, ho5⟩
      rw [cr_sync HLR.out.1 HLR.out.2] at hf5
      have HF6 := hid hf5
      clear hf5 ho5
      go_wp2_with fail
      go_end0
      exact ⟨rfl, by rw [HB0.out, ← HBB.out]; exact HF6.out⟩
end Go.Proofs.Ythjbhfhdepepmaa
namespace Go.Proofs.Ythjbhfhdepepmaa
open Go.RowKit
/-- A fate's three cells: its name, Keep, the slice of its writes. -/
abbrev Ft3 := ByteArray × Int × (Option Addr × Nat × Nat)
def t00 : Ft3 := (ByteArray.empty, 0, (none, 0, 0))
def ovS (x : Option Addr × Nat × Nat) : Value := .slice x.1 x.2.1 x.2.2
def Fts (w : World) (a : Option Addr) (fs : List Ft3) : Prop := fs = [] ∨ ∃ b off, a = some ⟨b, off, none⟩ ∧ b < w.heap.size ∧ ∀ j, j < fs.length → w.cell? ⟨b, off + j * 3, none⟩ = some (.string (fs.getD j t00).1) ∧ w.cell? ⟨b, off + j * 3 + 1, none⟩ = some (.int .i64 (fs.getD j t00).2.1) ∧ w.cell? ⟨b, off + j * 3 + 2, none⟩ = some (ovS (fs.getD j t00).2.2)
/-- The first place of a name. -/
def fx (ns : List ByteArray) (nm : ByteArray) : Option Nat := ns.findIdx? (fun x => decide (x = nm))
theorem Try.underMI : Try.prog.underlying 87 = some (.map 9 3) := by kernel_rfl
theorem Try.under3i : Try.prog.underlying 3 = some (.int .i64) := by kernel_rfl
theorem Try.zero3 (w : World) : (zeroValue 3).run Try.prog w = .ok (.int .i64 0) w := by kernel_rfl
theorem RI_int (i : Int) (h : (Lit.int .i64 i).wf = true) : plainElem (H := Unit) Try.prog 3 (.int .i64 i) = some (.lit (.int .i64 i), []) := by
  unfold plainElem
  rw [Try.under3i]
  simp [h]
/-- The map, for the names so far. -/
def Fm (w : World) (m : Nat) (ns : List ByteArray) : Prop := ∃ n D, w.ownsMap Try.prog 9 (plainElem (H := Unit) Try.prog 3) m n D ∧ Maps.IsMap D ∧ n ≤ ns.length ∧
  ∀ nm : ByteArray, nm.size ≤ maxLen → (fx ns nm = none → Maps.has D (.string nm.data.toList) = false) ∧ ∀ i, fx ns nm = some i → Maps.has D (.string nm.data.toList) = true ∧ ∀ z, D.atKey (.string nm.data.toList) z = .lit (.int .i64 i)
theorem fx_snoc_none {ns : List ByteArray} {x nm : ByteArray} : fx (ns ++ [x]) nm = match fx ns nm with | some i => some i | none => if x = nm then some ns.length else none := by
  unfold fx
  rw [List.findIdx?_append]
  cases h : List.findIdx? (fun x => decide (x = nm)) ns with
  | some i => simp
  | none =>
    by_cases e : x = nm
    · simp [e]
    · simp [e]
theorem Fm.made (w : World) : Fm (w.alloc (.map #[] 0)) w.heap.size [] := by
  refine ⟨0, .map [], World.ownsMap_made w Try.prog 9 _, ⟨[], rfl⟩, Nat.le_refl _, fun nm _ => ⟨fun _ => rfl, fun i hi => by cases hi⟩⟩
theorem str_key (l : List UInt8) : WideAt.IsKeyLit (.string l) := by trivial
theorem wf_nat (n : Nat) (h : n ≤ 9223372036854775807) : (Lit.int .i64 (n : Int)).wf = true := by
  have h1 := wrap64_wf (n : Int)
  have h2 : wrap64 (n : Int) = n := by unfold wrap64; omega
  rw [h2] at h1
  exact h1
set_option maxRecDepth 20000 in
theorem RI_inv {v : Value} {i : Int} {ps : List MemPlace} (h : plainElem (H := Unit) Try.prog 3 v = some (.lit (.int .i64 i), ps)) : v = .int .i64 i := by
  unfold plainElem at h
  rw [Try.under3i] at h
  cases v with
  | int q x =>
    simp only at h
    split at h
    · rename_i hq
      injection h with h
      injection h with h _
      injection h with h
      injection h with _ h
      rw [hq.1, h]
    · cases h
  | _ => cases h
set_option maxRecDepth 20000 in
/-- A name that is looked up. -/
theorem Fm.look {w : World} {m : Nat} {ns : List ByteArray} (h : Fm w m ns) (nm : ByteArray) (hn : nm.size ≤ maxLen) : ∃ v, (Instr.lookup 87 (.map (some m)) (.string nm) true).run Try.prog w = .ok (.tuple #[v, .bool (fx ns nm).isSome]) w ∧ ∀ i, fx ns nm = some i → v = .int .i64 i := by
  obtain ⟨n, D, h1, h2, h3, h4⟩ := h
  obtain ⟨v, ps, k1, k2⟩ := h1.look_ok klaw Try.underMI (Try.zero3 w) (RI_int 0 (by decide)) (keyS hn)
  obtain ⟨m1, m2⟩ := h4 nm hn
  cases hf : fx ns nm with
  | none =>
    rw [m1 hf] at k1
    exact ⟨v, k1, fun i hi => by cases hi⟩
  | some i =>
    obtain ⟨e1, e2⟩ := m2 i hf
    rw [e1] at k1
    refine ⟨v, k1, fun j hj => ?_⟩
    injection hj with hj
    subst hj
    rw [e2] at k2
    exact RI_inv k2
/-- A name that is new. -/
theorem Fm.store {w : World} {m : Nat} {ns : List ByteArray} (h : Fm w m ns) (nm : ByteArray) (hn : nm.size ≤ maxLen) (hf : fx ns nm = none) (hl : ns.length < 9223372036854775807) : ∃ w', (Instr.mapUpdate 87 (.map (some m)) (.string nm) (.int .i64 ns.length)).run Try.prog w = .ok () w' ∧ Fm w' m (ns ++ [nm]) ∧ w.mapTurned w' m := by
  obtain ⟨n, D, h1, h2, h3, h4⟩ := h
  obtain ⟨w', k1, k2, k3⟩ := h1.store klaw Try.underMI (by unfold maxLen; omega) (keyS hn) (RI_int ns.length (wf_nat _ (by omega)))
  refine ⟨w', k1, ⟨n + 1, _, k2, ?_, by simp; omega, fun x hx => ?_⟩, k3⟩
  · obtain ⟨es, rfl⟩ := h2
    exact ⟨_, rfl⟩
  · rw [fx_snoc_none]
    obtain ⟨m1, m2⟩ := h4 x hx
    by_cases e : nm = x
    · subst e
      rw [hf]
      simp only [if_true]
      refine ⟨fun h => (by cases h), fun i hi => ?_⟩
      injection hi with hi
      subst hi
      exact ⟨Maps.has_put_same h2 (str_key _) _, fun z => Maps.atKey_put_same h2 (str_key _) _ z⟩
    · have hne : (Lit.string x.data.toList) ≠ Lit.string nm.data.toList := fun e2 => by injection e2 with e2; exact e (ba_eq.1 e2.symm)
      rw [Maps.has_put_other hne]
      cases hfx : fx ns x with
      | none => simp only [if_neg e]; exact ⟨fun _ => m1 hfx, fun i hi => by cases hi⟩
      | some i =>
        simp only
        refine ⟨fun h => (by cases h), fun k hk => ?_⟩
        injection hk with hk
        subst hk
        exact ⟨(m2 i hfx).1, fun z => by rw [Maps.atKey_put_other hne]; exact (m2 i hfx).2 z⟩
/-- A name that was there. -/
theorem Fm.again {w : World} {m : Nat} {ns : List ByteArray} (h : Fm w m ns) (nm : ByteArray) {i : Nat} (hf : fx ns nm = some i) : Fm w m (ns ++ [nm]) := by
  obtain ⟨n, D, h1, h2, h3, h4⟩ := h
  refine ⟨n, D, h1, h2, by simp; omega, fun x hx => ?_⟩
  obtain ⟨m1, m2⟩ := h4 x hx
  rw [fx_snoc_none]
  cases hfx : fx ns x with
  | some k => simp only; exact ⟨fun h => (by cases h), fun k' hk => by injection hk with hk; subst hk; exact m2 k hfx⟩
  | none =>
    have e : nm ≠ x := fun e => by rw [e, hfx] at hf; cases hf
    simp only [if_neg e]
    exact ⟨fun _ => m1 hfx, fun i hi => by cases hi⟩
theorem Fm.kept {w w' : World} {m : Nat} {ns : List ByteArray} (h : Fm w m ns) (hb : w'.heap[m]? = w.heap[m]?) : Fm w' m ns := by
  obtain ⟨n, D, ⟨es, clock, h1, r⟩, h2⟩ := h
  exact ⟨n, D, ⟨es, clock, hb.trans h1, r⟩, h2⟩
end Go.Proofs.Ythjbhfhdepepmaa
namespace Go.Proofs.Ythjbhfhdepepmaa
open Go.RowKit
theorem turned_below {w w' : World} {m B : Nat} (h : w.mapTurned w' m) (hB : B ≤ m) (hs : B ≤ w.heap.size) : Below B w w' := by
  have hg := h.grown
  exact ⟨hg.os, hg.tape, hg.output, hg.size, fun k hk => hg.block k (by omega) (fun e => by injection e with e; omega)⟩
def FtOk (f : Ft3) : Prop := f.1.size ≤ maxLen
set_option maxHeartbeats 4000000 in
set_option maxRecDepth 20000 in
theorem firsts_any (a : Option Addr) (cap : Nat) (fs : List Ft3) (w : World) (hF : Fts w a fs) (hl : fs.length ≤ 9223372036854775806) (hz : ∀ f ∈ fs, FtOk f) :
    Calls Try.prog 47 #[.slice a fs.length cap] w fun e w' => ∃ m, e = .returned (.map (some m)) ∧ Fm w' m (fs.map (·.1)) ∧ w.heap.size ≤ m ∧ Below w.heap.size w w' := by
  have HF := hid hF
  have HZ := hid hz
  clear hF hz
  have HM := fun n w => run_makeMap_hint 87 _ _ .i64 n w Try.underMI
  generalize hN : fs.length = N at *
  have HN := hid hN
  clear hN
  have HP0 : Hid (Fm (w.alloc (.map #[] 0)) w.heap.size ((fs.take 0).map (·.1)) ∧ Below w.heap.size w (w.alloc (.map #[] 0))) := ⟨Fm.made w, bel_alloc _ _⟩
  go_enter Try.func47, Try.ntmps47
  go_wp2_with fail
  generalize hMM : w.heap.size = m at *
  have hwm : w.heap.size = m := hMM
  clear hMM
  generalize w.alloc (.map #[] 0) = w1 at *
  clear HM
  go_loopg [13] N (fun k i wr => ∃ j : Nat, j + k = N ∧ i = .int .i64 j ∧ Hid (Fm wr m ((fs.take j).map (·.1)) ∧ Below m w wr))
  case atStart => exact ⟨0, by omega, rfl, HP0⟩
  case round =>
    clear HP0
    obtain ⟨j, hk, rfl, HQ⟩ := hrel
    by_cases hlt : j < N
    · obtain ⟨k, rfl⟩ : ∃ k, gk = k + 1 := ⟨gk - 1, by omega⟩
      have hltD : decide ((j : Int) < N) = true := by simp; omega
      have hltI : (j : Int) < N := by omega
      have EW : Hid (wrap64 ((j : Int) + 1) = ((j + 1 : Nat) : Int)) := by show _ = _; unfold wrap64; omega
      rcases HF.out with rfl | ⟨b, off, rfl, hbl, hc⟩
      · exact absurd hlt (by rw [← HN.out]; simp)
      rw [hwm] at hbl
      obtain ⟨q0, q1, q2⟩ := hc j (by rw [HN.out]; exact hlt)
      have hbel := HQ.out.2
      rw [← hbel.cell (p := ⟨b, off + j * 3, none⟩) hbl] at q0
      rw [← hbel.cell (p := ⟨b, off + j * 3 + 1, none⟩) hbl] at q1
      rw [← hbel.cell (p := ⟨b, off + j * 3 + 2, none⟩) hbl] at q2
      have hok : (fs.getD j t00).1.size ≤ maxLen := HZ.out (fs.getD j t00) (by rw [List.getD_eq_getElem?_getD, List.getElem?_eq_getElem (by rw [HN.out]; exact hlt)]; exact List.getElem_mem _)
      have HTK : Hid ((fs.take (j + 1)).map (·.1) = (fs.take j).map (·.1) ++ [(fs.getD j t00).1]) := by
        show _ = _
        rw [List.take_succ_eq_append_getElem (by rw [HN.out]; exact hlt), List.map_append, List.getD_eq_getElem?_getD, List.getElem?_eq_getElem (by rw [HN.out]; exact hlt)]
        rfl
      have HJL : Hid (((fs.take j).map (·.1)).length = j) := by show _ = _; rw [List.length_map, List.length_take, HN.out]; omega
      generalize (fs.take j).map (·.1) = ns at *
      generalize fs.getD j t00 = f at *
      obtain ⟨nm, kp, oa, on, oc⟩ := f
      simp only [ovS] at q0 q1 q2 hok HTK
      obtain ⟨wa, hwa⟩ : ∃ wa, wa = wr.alloc (Obj.cells #[.string nm, .int .i64 kp, .slice oa on oc] 24) := ⟨_, rfl⟩
      have hFb := heap_new wr (Obj.cells #[.string nm, .int .i64 kp, .slice oa on oc] 24)
      rw [← hwa] at hFb
      have hba : Below wr.heap.size wr wa := by rw [hwa]; exact bel_alloc _ _
      have hmlt : m < wr.heap.size := by obtain ⟨_, _, ⟨_, _, h1, _⟩, _⟩ := HQ.out.1; exact lt_of_heap h1
      have hFa := HQ.out.1.kept (w' := wa) (hba.block m hmlt)
      have hbwa : Below m w wa := hbel.trans (hba.mono (Nat.le_of_lt hmlt))
      have f0 : wa.cell? ⟨wr.heap.size, 0, none⟩ = some (.string nm) := (cell_of hFb).trans rfl
      obtain ⟨v, hlk, _⟩ := hFa.look nm hok
      have hwa' := hwa.symm
      have hmwa : m ≤ wa.heap.size := Nat.le_trans (Nat.le_of_lt hmlt) hba.size
      cases hfx : fx ns nm with
      | some i0 =>
        rw [hfx] at hlk
        simp only [Option.isSome_some] at hlk
        have HQ2 : Hid (Fm wa m ((fs.take (j + 1)).map (·.1)) ∧ Below m w wa) := ⟨by rw [HTK.out]; exact hFa.again nm hfx, hbwa⟩
        clear hwa hc hbel HQ hFb hba hFa hbwa hbl hok hmlt hfx
        go_wp2_with fail
        go_roundg k
        case measure => omega
        case rel => exact ⟨j + 1, by omega, by first | exact congrArg (Value.int .i64) EW.out | rfl, HQ2⟩
      | none =>
        rw [hfx] at hlk
        simp only [Option.isSome_none] at hlk
        obtain ⟨w2, hst, hF2, ht2⟩ := hFa.store nm hok hfx (by rw [HJL.out]; omega)
        rw [HJL.out] at hst
        have HQ2 : Hid (Fm w2 m ((fs.take (j + 1)).map (·.1)) ∧ Below m w w2) := ⟨by rw [HTK.out]; exact hF2, hbwa.trans (turned_below ht2 (Nat.le_refl _) hmwa)⟩
        clear hwa hc hbel HQ hFb hba hFa hbwa hbl hok hmlt hfx hF2 ht2
        go_wp2_with fail
        go_roundg k
        case measure => omega
        case rel => exact ⟨j + 1, by omega, by first | exact congrArg (Value.int .i64) EW.out | rfl, HQ2⟩
    · have hltD : decide ((j : Int) < N) = false := by simp; omega
      have hj : fs.take j = fs := List.take_of_length_le (by rw [HN.out]; omega)
      have hq := HQ.out
      rw [hj] at hq
      have HQ2 := hid hq
      clear hq HQ
      go_wp2_with fail
      go_ret
      exact ⟨m, rfl, HQ2.out.1, Nat.le_of_eq hwm, by rw [hwm]; exact HQ2.out.2⟩
end Go.Proofs.Ythjbhfhdepepmaa
namespace Go.Proofs.Ythjbhfhdepepmaa
open Go.RowKit
/-- A fate in plain words. -/
abbrev Ftp := ByteArray × Int × List (Int × ByteArray)
def p00 : Ftp := (ByteArray.empty, 0, [])
/-- A file's fate: the first of its name, or the zero one. -/
def ffx (fs : List Ftp) (nm : ByteArray) : Ftp := (fs.find? (fun f => decide (f.1 = nm))).getD p00
/-- What a crash leaves of a file. -/
def crf (fs : List Ftp) (x : ByteArray × List UInt8 × Nat) : ByteArray × List UInt8 × Nat :=
  (x.1, lft x.2.1 x.2.2 (ffx fs x.1).2.1 (ffx fs x.1).2.2, (lft x.2.1 x.2.2 (ffx fs x.1).2.1 (ffx fs x.1).2.2).length)
/-- Fates where they lie, apart from what ft names. -/
def Ftr (w : World) (ft : Nat → Prop) (ms : List Ft3) (fs : List Ftp) : Prop := ms.length = fs.length ∧ ∀ j, j < fs.length → (ms.getD j t00).1 = (fs.getD j p00).1 ∧ (ms.getD j t00).2.1 = (fs.getD j p00).2.1 ∧ (ms.getD j t00).2.2.2.1 = (fs.getD j p00).2.2.length ∧ Wrs w (ms.getD j t00).2.2.1 (fs.getD j p00).2.2 ∧ (∀ b off, (ms.getD j t00).2.2.1 = some ⟨b, off, none⟩ → ¬ ft b) ∧ (fs.getD j p00).1.size ≤ maxLen ∧ (fs.getD j p00).2.2.length ≤ 140737488355328 ∧ ∀ x ∈ (fs.getD j p00).2.2, WrOk x
section
variable {w w1 w2 : World} {ft : Nat → Prop} {d : Nat} {rm : Nat} {cl cb cl1 cb1 cl2 cb2 : Int} {V V1 V2 : Vw}
theorem Aft.stepF (h : Aft w ft d rm cl1 cb1 V1 w1) {f : FuncId} {args : Array Value} {v : Value} (hc : ∀ f1, Ds w1 d f1 rm cl1 cb1 V1 → (∀ i, f1 i → ft i ∨ w.heap.size ≤ i) → Calls Try.prog f args w1 fun e w2 => e = .returned v ∧ Aft w1 f1 d rm cl2 cb2 V2 w2) :
    Calls Try.prog f args w1 fun e w2 => e = .returned v ∧ Aft w ft d rm cl2 cb2 V2 w2 ∧ Oth w1 w2 := by
  obtain ⟨f1, k1, k2, k3⟩ := h
  refine (hc f1 k1 k3).mono ?_
  rintro e w2 ⟨he, f2, m1, m2, m3⟩
  refine ⟨he, ⟨f2, m1, k2.then m2 (fun i hi hf => ?_), fun i hi => ?_⟩, k1.oth m2⟩
  · rcases k3 i hf with a | a
    · exact a
    · omega
  · rcases m3 i hi with a | a
    · exact k3 i a
    · exact Or.inr (Nat.le_trans k2.size a)
theorem Aft.blk (h : Aft w ft d rm cl cb V w1) {i : Nat} (hi : i < w.heap.size) (hn : ¬ ft i) : w1.heap[i]? = w.heap[i]? := by
  obtain ⟨f1, _, m2, _⟩ := h
  exact m2.block i hi hn
end
theorem Aft.base {w w2 w3 : World} {ft : Nat → Prop} {d : Nat} {rm : Nat} {cl cb : Int} {V : Vw} (hb : Below w.heap.size w w2) (h : Aft w2 ft d rm cl cb V w3) : Aft w ft d rm cl cb V w3 := by
  obtain ⟨f1, k1, k2, k3⟩ := h
  refine ⟨f1, k1, (Ch.of_below (S := ft) hb).trans k2, fun i hi => ?_⟩
  rcases k3 i hi with a | a
  · exact Or.inl a
  · exact Or.inr (Nat.le_trans hb.size a)
theorem fx_find {fs : List Ftp} {nm : ByteArray} : (∀ i, fx (fs.map (·.1)) nm = some i → i < fs.length ∧ ffx fs nm = fs.getD i p00) ∧ (fx (fs.map (·.1)) nm = none → ffx fs nm = p00) := by
  induction fs with
  | nil => exact ⟨fun i hi => (by cases hi), fun _ => rfl⟩
  | cons f fs ih =>
    by_cases e : f.1 = nm
    · have e1 : fx ((f :: fs).map (·.1)) nm = some 0 := by unfold fx; simp [List.findIdx?_cons, e]
      have e2 : ffx (f :: fs) nm = f := by unfold ffx; simp [e]
      rw [e1, e2]
      refine ⟨fun i hi => ?_, fun h => (by cases h)⟩
      injection hi with hi
      subst hi
      exact ⟨by simp, rfl⟩
    · have e1 : fx ((f :: fs).map (·.1)) nm = (fx (fs.map (·.1)) nm).map (· + 1) := by unfold fx; simp [List.findIdx?_cons, e]
      have e2 : ffx (f :: fs) nm = ffx fs nm := by unfold ffx; simp [e]
      rw [e1, e2]
      refine ⟨fun i hi => ?_, fun h => ih.2 (by simpa using h)⟩
      obtain ⟨k, hk, rfl⟩ := Option.map_eq_some_iff.1 hi
      obtain ⟨a1, a2⟩ := ih.1 k hk
      exact ⟨by simp; omega, by rw [a2]; simp⟩
theorem crf_fits {rm : Nat} {l r : Vw} {x : ByteArray × List UInt8 × Nat} (fs : List Ftp) (h : SV rm (l ++ x :: r)) : SV rm (l ++ crf fs x :: r) := by
  obtain ⟨nm, X, sy⟩ := x
  have hx := (h.lng (nm, X, sy) (by simp)).2
  have hv := h.rom.1
  rw [vt_mid] at hv
  have hlen : (lft X sy (ffx fs nm).2.1 (ffx fs nm).2.2).length ≤ X.length := by rw [lft_len]; exact (kpt_le _ (sfe_le _ _)).2
  exact h.mid (y := (lft X sy (ffx fs nm).2.1 (ffx fs nm).2.2, (lft X sy (ffx fs nm).2.1 (ffx fs nm).2.2).length)) ⟨by simp only at hx ⊢; omega, Nat.le_refl _⟩ (by simp only at hv ⊢; omega)
set_option maxHeartbeats 4000000 in
set_option maxRecDepth 20000 in
theorem crashall_any (d : Nat) (ft : Nat → Prop) (rm : Nat) (cl cb : Int) (V : Vw) (a : Option Addr) (cap : Nat) (ms : List Ft3) (fs : List Ftp) (w : World) (h : Ds w d ft rm cl cb V) (hs : SV rm V) (hF : Fts w a ms) (hR : Ftr w ft ms fs) (haf : ∀ b off, a = some ⟨b, off, none⟩ → ¬ ft b) (hl : ms.length ≤ 140737488355328) :
    Calls Try.prog 25 #[.pointer (some ⟨d, 0, none⟩), .slice a ms.length cap] w fun e w' => e = .returned (.tuple #[]) ∧ Aft w ft d rm cl cb (V.map (crf fs)) w' := by
  have HNM : Hid (ms.map (·.1) = fs.map (·.1)) := by
    show _ = _
    apply List.ext_getElem (by simp [hR.1])
    intro i h1 h2
    have h3 : i < fs.length := by simpa using h2
    have := (hR.2 i h3).1
    simp only [List.getElem_map]
    rw [List.getD_eq_getElem?_getD, List.getD_eq_getElem?_getD, List.getElem?_eq_getElem (by simpa using h1), List.getElem?_eq_getElem h3] at this
    exact this
  have hok : ∀ f ∈ ms, FtOk f := by
    intro f hf
    obtain ⟨i, hi, rfl⟩ := List.getElem_of_mem hf
    have h3 : i < fs.length := by rw [← hR.1]; exact hi
    have k := hR.2 i h3
    have e1 := k.1
    rw [List.getD_eq_getElem?_getD, List.getElem?_eq_getElem hi] at e1
    show (ms[i]).1.size ≤ maxLen
    have e2 : (ms[i]).1 = (fs.getD i p00).1 := e1
    rw [e2]
    exact k.2.2.2.2.2.1
  have HFI := hid (firsts_any a cap ms w hF (by omega) hok)
  have HD := hid h
  have HS := hid hs
  have HF := hid hF
  have HR := hid hR
  have HAF := hid haf
  clear h hs hF hR haf hok
  generalize hM : ms.length = M at *
  have HM := hid hM
  clear hM
  go_enter Try.func25, Try.ntmps25
  go_wp2_with (go_at_call 47; refine HFI.out.mono ?_; rintro e w1 ⟨m, rfl, hfm, hwm, hb1⟩; have HFM := hid hfm; have HB1 := hid hb1; clear hfm hb1)
  refine (s_listV d ft rm cl cb V w1 (HD.out.kept HB1.out) HS.out.cnt).mono ?_
  rintro e w2 ⟨v2, rfl, hL2, hb2⟩
  obtain ⟨aL, capL, rfl⟩ := own_form hL2.1
  have HA2 : Hid (Aft w2 ft d rm cl cb V w2) := Aft.start ((HD.out.kept HB1.out).kept hb2)
  have HBW : Hid (Below w.heap.size w w2) := HB1.out.trans (hb2.mono HB1.out.size)
  have hwm2 : m < w2.heap.size := by obtain ⟨_, _, ⟨_, _, h1, _⟩, _⟩ := HFM.out; exact Nat.lt_of_lt_of_le (lt_of_heap h1) hb2.size
  have HFM2 := hid (HFM.out.kept (hb2.block m (by obtain ⟨_, _, ⟨_, _, h1, _⟩, _⟩ := HFM.out; exact lt_of_heap h1)))
  have HFT : Hid (∀ i, ft i → i < w.heap.size) := fun i hi => HD.out.lt hi
  have HLR : Hid (∀ j u, (V.map (fun x => Value.string x.1))[j]? = some u → ∃ g, aL = some ⟨g, 0, none⟩ ∧ w.heap.size ≤ g ∧ g < w2.heap.size ∧ w2.cell? ⟨g, j, none⟩ = some u) := by
    intro j u hj
    have ho := hL2.1
    rw [List.map_map] at ho
    rcases ho.2 with ⟨e, e2⟩ | ⟨g, cap', cur, e, hg, hh, _⟩
    · have : (V.map (fun x => Value.string x.1)).length = 0 := by simpa using e2
      rw [List.eq_nil_of_length_eq_zero this] at hj
      cases hj
    · injection e with e _ _
      subst e
      refine ⟨g, rfl, Nat.le_trans HB1.out.size hg, lt_of_heap hh, ?_⟩
      have := ho.cells (g := g) rfl j u hj
      rw [Go.WideShapes.add_plain, Nat.zero_add] at this
      exact this
  rw [List.length_map]
  clear hb2 hL2 HFM HFI
  generalize hN : V.length = N at *
  have HN := hid hN
  clear hN
  go_wp2_with fail
  go_loopg [15] N (fun k i wr => ∃ j : Nat, j + k = N ∧ i = .int .i64 j ∧ Hid (Aft w2 ft d rm cl cb ((V.take j).map (crf fs) ++ V.drop j) wr ∧ SV rm ((V.take j).map (crf fs) ++ V.drop j)))
  case atStart => exact ⟨0, by omega, rfl, ⟨HA2.out, HS.out⟩⟩
  case round =>
    clear HA2
    obtain ⟨j, hk, rfl, HQ⟩ := hrel
    by_cases hlt : j < N
    · obtain ⟨k, rfl⟩ : ∃ k, gk = k + 1 := ⟨gk - 1, by omega⟩
      have hltD : decide ((j : Int) < N) = true := by simp; omega
      have hltI : (j : Int) < N := by omega
      have EW : Hid (wrap64 ((j : Int) + 1) = ((j + 1 : Nat) : Int)) := by have := HS.out.cnt; have h2 := HN.out; show _ = _; unfold wrap64; omega
      have hjV : j < V.length := by rw [HN.out]; exact hlt
      obtain ⟨x, hx⟩ : ∃ x, x = V[j] := ⟨_, rfl⟩
      have hd : V.drop j = x :: V.drop (j + 1) := by rw [hx, List.drop_eq_getElem_cons hjV]
      have htk : V.take (j + 1) = V.take j ++ [x] := by rw [hx, List.take_succ_eq_append_getElem hjV]
      have hnx : (V.map (fun x => Value.string x.1))[j]? = some (.string x.1) := by rw [List.getElem?_map, List.getElem?_eq_getElem hjV, ← hx]; rfl
      obtain ⟨gl, rfl, hg1, hg2, qn0⟩ := HLR.out j _ hnx
      have hbk := fun i hi hn => HQ.out.1.blk (i := i) hi hn
      have qn : wr.cell? ⟨gl, j, none⟩ = some (.string x.1) := by
        have := hbk gl hg2 (fun e => by have := HFT.out gl e; omega)
        simp only [World.cell?, this] at qn0 ⊢
        exact qn0
      have hfmr : Fm wr m (ms.map (·.1)) := HFM2.out.kept (hbk m hwm2 (fun e => by have := HFT.out m e; omega))
      have hq := HQ.out
      rw [hd] at hq
      have hxs : x.1.size ≤ maxLen := by have := (HS.out.lng x (by rw [hx]; exact List.getElem_mem _)).1; unfold maxLen; omega
      have hnew : (V.take (j + 1)).map (crf fs) ++ V.drop (j + 1) = (V.take j).map (crf fs) ++ crf fs x :: V.drop (j + 1) := by rw [htk]; simp
      have hsv2 := crf_fits fs hq.2
      have hsp := List.pairwise_append.1 hq.2.srt
      have hL : ∀ y ∈ (V.take j).map (crf fs), Bf y.1 x.1 := fun y hy => hsp.2.2 y hy x (by simp)
      have hR' : ∀ y ∈ V.drop (j + 1), Bf x.1 y.1 := (List.pairwise_cons.1 hsp.2.1).1
      obtain ⟨nm, X, sy⟩ := x
      simp only at qn hxs hL hR'
      have hmr : m < wr.heap.size := by obtain ⟨_, _, ⟨_, _, h1, _⟩, _⟩ := hfmr; exact lt_of_heap h1
      cases hfx : fx (ms.map (·.1)) nm with
      | none =>
        have hfp : ffx fs nm = p00 := fx_find.2 (by rw [← HNM.out]; exact hfx)
        obtain ⟨wa, hwa⟩ : ∃ wa, wa = wr.alloc (Obj.cells #[.string ⟨#[]⟩, .int .i64 0, .slice none 0 0] 24) := ⟨_, rfl⟩
        have hF := heap_new wr (Obj.cells #[.string ⟨#[]⟩, .int .i64 0, .slice none 0 0] 24)
        rw [← hwa] at hF
        have hba : Below wr.heap.size wr wa := by rw [hwa]; exact bel_alloc _ _
        obtain ⟨v, hlk, _⟩ := (hfmr.kept (hba.block m hmr)).look nm hxs
        rw [hfx] at hlk
        simp only [Option.isSome_none] at hlk
        have g0 : wa.cell? ⟨wr.heap.size, 0, none⟩ = some (.string ⟨#[]⟩) := (cell_of hF).trans rfl
        have g1 : wa.cell? ⟨wr.heap.size, 1, none⟩ = some (.int .i64 0) := (cell_of hF).trans rfl
        have g2 : wa.cell? ⟨wr.heap.size, 2, none⟩ = some (.slice none 0 0) := (cell_of hF).trans rfl
        have HCR := hid ((hq.1.kept hba).stepF (fun f1 h1 _ => crash_any d f1 rm cl cb _ _ nm X sy ⟨#[]⟩ 0 none 0 [] wa h1 hq.2 hL hR' hxs (Or.inl rfl) (fun _ _ e _ => by cases e) (by simp) (fun _ e => by cases e)))
        have HNEW : Hid ((V.take j).map (crf fs) ++ (nm, (lft X sy 0 [], (lft X sy 0 []).length)) :: V.drop (j + 1) = (V.take (j + 1)).map (crf fs) ++ V.drop (j + 1)) := by
          show _ = _
          rw [hnew]
          unfold crf
          rw [hfp]
          rfl
        have HSV2 : Hid (SV rm ((V.take (j + 1)).map (crf fs) ++ V.drop (j + 1))) := by show SV _ _; rw [hnew]; exact hsv2
        have hwa' := hwa.symm
        clear hwa hF hba hfmr hq hsv2 hsp hL hR' hd htk hnx hbk hx hjV hnew hfx hfp HQ qn0 hmr
        go_wp2_with fail
        refine HCR.out.mono ?_
        rintro e w3 ⟨rfl, ha3, _⟩
        rw [HNEW.out] at ha3
        have HQ3 := hid (And.intro ha3 HSV2.out)
        clear ha3 HCR
        go_wp2_with fail
        go_roundg k
        case measure => omega
        case rel => exact ⟨j + 1, by omega, by first | exact congrArg (Value.int .i64) EW.out | rfl, HQ3⟩
      | some i0 =>
        obtain ⟨hi0, hfp⟩ := fx_find.1 i0 (by rw [← HNM.out]; exact hfx)
        obtain ⟨r1, r2, r3, r4, r5, r6, r7, r8⟩ := HR.out.2 i0 hi0
        have hiM : i0 < M := by rw [← HM.out, HR.out.1]; exact hi0
        rcases HF.out with rfl | ⟨b, off, rfl, hbl, hcc⟩
        · exact absurd hiM (by rw [← HM.out]; simp)
        obtain ⟨q0, q1, q2⟩ := hcc i0 (by rw [HM.out]; exact hiM)
        have hbw := HBW.out
        have hb2' := hbk b (Nat.lt_of_lt_of_le hbl hbw.size) (HAF.out b off rfl)
        have hbe : wr.heap[b]? = w.heap[b]? := hb2'.trans (hbw.block b hbl)
        have hce : ∀ o, wr.cell? ⟨b, o, none⟩ = w.cell? ⟨b, o, none⟩ := fun o => by simp only [World.cell?, hbe]
        rw [← hce] at q0 q1 q2
        have hwrs : Wrs wr (ms.getD i0 t00).2.2.1 (fs.getD i0 p00).2.2 := by
          rcases r4 with e | ⟨bb, oo, e1, e2, e3⟩
          · exact Or.inl e
          · have he : wr.heap[bb]? = w.heap[bb]? := (hbk bb (Nat.lt_of_lt_of_le e2 hbw.size) (r5 bb oo e1)).trans (hbw.block bb e2)
            refine Or.inr ⟨bb, oo, e1, Nat.lt_of_lt_of_le e2 (Nat.le_trans hbw.size (by obtain ⟨_, _, m2, _⟩ := hq.1; exact m2.size)), fun k hk => ?_⟩
            obtain ⟨z1, z2⟩ := e3 k hk
            exact ⟨by simp only [World.cell?, he] at z1 ⊢; exact z1, by simp only [World.cell?, he] at z2 ⊢; exact z2⟩
        have hwf : ∀ f1 : Nat → Prop, (∀ i, f1 i → ft i ∨ w2.heap.size ≤ i) → ∀ bb oo, (ms.getD i0 t00).2.2.1 = some ⟨bb, oo, none⟩ → (fs.getD i0 p00).2.2 ≠ [] → ¬ f1 bb := by
          intro f1 hf1 bb oo e1 hne hb1
          rcases r4 with e | ⟨b', o', e2, e3, _⟩
          · exact hne e
          · rw [e1] at e2
            injection e2 with e2
            injection e2 with e2 _
            subst e2
            rcases hf1 bb hb1 with a | a
            · exact r5 bb oo e1 a
            · have := hbw.size; omega
        generalize fs.getD i0 p00 = P at *
        generalize ms.getD i0 t00 = T at *
        obtain ⟨pn, pk, pw⟩ := P
        obtain ⟨tn, tk, oa, on, oc⟩ := T
        simp only [ovS] at r1 r2 r3 r6 r7 r8 q0 q1 q2 hwrs hwf
        subst r1 r2 r3
        obtain ⟨wz, hwz⟩ : ∃ wz, wz = wr.alloc (Obj.cells #[.string ⟨#[]⟩, .int .i64 0, .slice none 0 0] 24) := ⟨_, rfl⟩
        have hbz : Below wr.heap.size wr wz := by rw [hwz]; exact bel_alloc _ _
        obtain ⟨v, hlk, hv⟩ := (hfmr.kept (hbz.block m hmr)).look nm hxs
        rw [hfx] at hlk
        simp only [Option.isSome_some] at hlk
        obtain rfl := hv i0 hfx
        have hFz := heap_new wr (Obj.cells #[.string ⟨#[]⟩, .int .i64 0, .slice none 0 0] 24)
        rw [← hwz] at hFz
        have hbs : b < wr.heap.size := Nat.lt_of_lt_of_le hbl (Nat.le_trans hbw.size (by obtain ⟨_, _, m2, _⟩ := hq.1; exact m2.size))
        have hze : ∀ o, wz.cell? ⟨b, o, none⟩ = wr.cell? ⟨b, o, none⟩ := fun o => by simp only [World.cell?, hbz.block b hbs]
        rw [← hze] at q0 q1 q2
        have z0 : wz.cell? ⟨wr.heap.size, 0, none⟩ = some (.string ⟨#[]⟩) := (cell_of hFz).trans rfl
        have z1 : wz.cell? ⟨wr.heap.size, 1, none⟩ = some (.int .i64 0) := (cell_of hFz).trans rfl
        have z2 : wz.cell? ⟨wr.heap.size, 2, none⟩ = some (.slice none 0 0) := (cell_of hFz).trans rfl
        have fz0 : ∀ o, wz.frozen? ⟨wr.heap.size, o, none⟩ = false := fun o => froz_of hFz
        have f0 := fz0 0
        have f1 := fz0 1
        have f2 := fz0 2
        have hiI : (i0 : Int) < M := by omega
        obtain ⟨wc, hwc⟩ : ∃ wc, wc = ((wz.setCell ⟨wr.heap.size, 0, none⟩ (.string tn)).setCell ⟨wr.heap.size, 1, none⟩ (.int .i64 tk)).setCell ⟨wr.heap.size, 2, none⟩ (.slice oa pw.length oc) := ⟨_, rfl⟩
        have hbc : Below wr.heap.size wr wc := by rw [hwc]; exact ((hbz.setCell (Nat.le_refl _) _).setCell (Nat.le_refl _) _).setCell (Nat.le_refl _) _
        have HCR := hid ((hq.1.kept hbc).stepF (fun f1 h1 hf1 => crash_any d f1 rm cl cb _ _ nm X sy tn tk oa oc pw wc h1 hq.2 hL hR' hxs (hwrs.kept hbc) (fun bb oo e1 hne => hwf f1 hf1 bb oo e1 hne) r7 r8))
        have HNEW : Hid ((V.take j).map (crf fs) ++ (nm, (lft X sy tk pw, (lft X sy tk pw).length)) :: V.drop (j + 1) = (V.take (j + 1)).map (crf fs) ++ V.drop (j + 1)) := by
          show _ = _
          rw [hnew]
          unfold crf
          rw [hfp]
        have HSV2 : Hid (SV rm ((V.take (j + 1)).map (crf fs) ++ V.drop (j + 1))) := by show SV _ _; rw [hnew]; exact hsv2
        rw [hwc] at HCR
        have hwz' := hwz.symm
        clear hwz hwc hbc hFz hbz hfmr hq hsv2 hsp hL hR' hd htk hnx hbk hx hjV hnew hfx hfp HQ qn0 hmr hwrs hwf hze hce hbe hb2' hbw hcc hbl r4 r5 r6 r7 r8 fz0 hbs hv
        go_wp2_with fail
        refine HCR.out.mono ?_
        rintro e w3 ⟨rfl, ha3, _⟩
        rw [HNEW.out] at ha3
        have HQ3 := hid (And.intro ha3 HSV2.out)
        clear ha3 HCR
        go_wp2_with fail
        go_roundg k
        case measure => omega
        case rel => exact ⟨j + 1, by omega, by first | exact congrArg (Value.int .i64) EW.out | rfl, HQ3⟩
    · have hltD : decide ((j : Int) < N) = false := by simp; omega
      have e1 : V.take j = V := List.take_of_length_le (by rw [HN.out]; omega)
      have e2 : V.drop j = [] := List.drop_of_length_le (by rw [HN.out]; omega)
      have hq := HQ.out.1
      rw [e1, e2, List.append_nil] at hq
      have HE := hid (Aft.base HBW.out hq)
      clear hq HQ
      go_wp2_with fail
      go_end0
      exact ⟨rfl, HE.out⟩
end Go.Proofs.Ythjbhfhdepepmaa
namespace Go.Proofs.Ythjbhfhdepepmaa
open Go.RowKit
/-- A fate's struct. -/
def ftS (x : Ft3) : Value := .agg #[.string x.1, .int .i64 x.2.1, ovS x.2.2]
def ff3 (ms : List Ft3) (nm : ByteArray) : Ft3 := (ms.find? (fun f => decide (f.1 = nm))).getD t00
theorem find_take {ms : List Ft3} {nm : ByteArray} {j : Nat} (h : ∀ i, i < j → (ms.getD i t00).1 ≠ nm) (hj : j < ms.length) (he : (ms.getD j t00).1 = nm) : ms.find? (fun f => decide (f.1 = nm)) = some (ms.getD j t00) := by
  induction ms generalizing j with
  | nil => simp at hj
  | cons m ms ih =>
    cases j with
    | zero =>
      have : m.1 = nm := by simpa using he
      simp [this]
    | succ j =>
      have h0 := h 0 (by omega)
      have h0' : m.1 ≠ nm := by simpa using h0
      rw [List.find?_cons_of_neg (by simpa using h0')]
      have := ih (j := j) (fun i hi => by have := h (i + 1) (by omega); simpa using this) (by simpa using hj) (by simpa using he)
      rw [this]
      simp
theorem find_none' {ms : List Ft3} {nm : ByteArray} (h : ∀ i, i < ms.length → (ms.getD i t00).1 ≠ nm) : ms.find? (fun f => decide (f.1 = nm)) = none := by
  rw [List.find?_eq_none]
  intro x hx
  obtain ⟨i, hi, rfl⟩ := List.getElem_of_mem hx
  have := h i hi
  rw [List.getD_eq_getElem?_getD, List.getElem?_eq_getElem hi] at this
  simpa using this
theorem set3 {w : World} {B : Nat} {a0 a1 a2 u0 u1 u2 : Value} {T : TypeId} (h : w.heap[B]? = some (.cells #[a0, a1, a2] T (0, 0))) : (((w.setCell ⟨B, 0, none⟩ u0).setCell ⟨B, 1, none⟩ u1).setCell ⟨B, 2, none⟩ u2).cell? ⟨B, 0, none⟩ = some u0 ∧ (((w.setCell ⟨B, 0, none⟩ u0).setCell ⟨B, 1, none⟩ u1).setCell ⟨B, 2, none⟩ u2).cell? ⟨B, 1, none⟩ = some u1 ∧ (((w.setCell ⟨B, 0, none⟩ u0).setCell ⟨B, 1, none⟩ u1).setCell ⟨B, 2, none⟩ u2).cell? ⟨B, 2, none⟩ = some u2 := by
  have h3 := heap_set (i := 2) (v := u2) (heap_set (i := 1) (v := u1) (heap_set (i := 0) (v := u0) h))
  exact ⟨(cell_of h3).trans rfl, (cell_of h3).trans rfl, (cell_of h3).trans rfl⟩
set_option maxHeartbeats 4000000 in
set_option maxRecDepth 20000 in
theorem rfate_any (a : Option Addr) (cap : Nat) (ms : List Ft3) (nm : ByteArray) (w : World) (hF : Fts w a ms) (hl : ms.length ≤ 140737488355328) :
    Calls Try.prog 53 #[.slice a ms.length cap, .string nm] w fun e w' => (∃ b, e = .returned (.tuple #[ftS (ff3 ms nm), .bool b])) ∧ Below w.heap.size w w' := by
  have HF := hid hF
  clear hF
  generalize hN : ms.length = N at *
  have HN := hid hN
  clear hN
  obtain ⟨wz, hwz⟩ : ∃ wz, wz = w.alloc (Obj.cells #[.string ⟨#[]⟩, .int .i64 0, .slice none 0 0] 24) := ⟨_, rfl⟩
  have hFz := heap_new w (Obj.cells #[.string ⟨#[]⟩, .int .i64 0, .slice none 0 0] 24)
  rw [← hwz] at hFz
  have hbz : Below w.heap.size w wz := by rw [hwz]; exact bel_alloc _ _
  have z0 : wz.cell? ⟨w.heap.size, 0, none⟩ = some (.string ⟨#[]⟩) := (cell_of hFz).trans rfl
  have z1 : wz.cell? ⟨w.heap.size, 1, none⟩ = some (.int .i64 0) := (cell_of hFz).trans rfl
  have z2 : wz.cell? ⟨w.heap.size, 2, none⟩ = some (.slice none 0 0) := (cell_of hFz).trans rfl
  have f0 : wz.frozen? ⟨w.heap.size, 0, none⟩ = false := froz_of hFz
  have f1 : wz.frozen? ⟨w.heap.size, 1, none⟩ = false := froz_of hFz
  have f2 : wz.frozen? ⟨w.heap.size, 2, none⟩ = false := froz_of hFz
  have hwz' := hwz.symm
  have HBZ := hid hbz
  have HFZ := hid hFz
  clear hwz hFz hbz
  go_enter Try.func53, Try.ntmps53
  go_wp2_with fail
  go_loopg [6] N (fun k i wr => ∃ j : Nat, j + k = N ∧ i = .int .i64 j ∧ wr = wz ∧ Hid (∀ i, i < j → (ms.getD i t00).1 ≠ nm))
  case atStart => exact ⟨0, by omega, rfl, rfl, fun i hi => by omega⟩
  case round =>
    obtain ⟨j, hk, rfl, rfl, HJ⟩ := hrel
    by_cases hlt : j < N
    · obtain ⟨k, rfl⟩ : ∃ k, gk = k + 1 := ⟨gk - 1, by omega⟩
      have hltD : decide ((j : Int) < N) = true := by simp; omega
      have hltI : (j : Int) < N := by omega
      have EW : Hid (wrap64 ((j : Int) + 1) = ((j + 1 : Nat) : Int)) := by show _ = _; unfold wrap64; omega
      rcases HF.out with rfl | ⟨b, off, rfl, hbl, hcc⟩
      · exact absurd hlt (by rw [← HN.out]; simp)
      have hjm : j < ms.length := by rw [HN.out]; exact hlt
      obtain ⟨q0, q1, q2⟩ := hcc j hjm
      rw [← HBZ.out.cell (p := ⟨b, off + j * 3, none⟩) hbl] at q0
      rw [← HBZ.out.cell (p := ⟨b, off + j * 3 + 1, none⟩) hbl] at q1
      rw [← HBZ.out.cell (p := ⟨b, off + j * 3 + 2, none⟩) hbl] at q2
      by_cases he : (ms.getD j t00).1 = nm
      · have HFD := hid (find_take HJ.out hjm he)
        have te := tq_eq nm
        generalize ms.getD j t00 = T at *
        obtain ⟨tn, tk, oa, on, oc⟩ := T
        simp only [ovS] at q0 q1 q2 he
        subst he
        clear hcc hjm HJ
        go_wp2_with fail
        refine bodyPost_ret (v := .tuple #[ftS (tn, tk, oa, on, oc), .bool true]) ?_ rfl ⟨⟨true, by unfold ff3; rw [HFD.out]; rfl⟩, ((HBZ.out.setCell (Nat.le_refl _) _).setCell (Nat.le_refl _) _).setCell (Nat.le_refl _) _⟩
        obtain ⟨c0, c1, c2⟩ := set3 (u0 := .string tn) (u1 := .int .i64 tk) (u2 := .slice oa on oc) HFZ.out
        generalize ((wr.setCell ⟨w.heap.size, 0, none⟩ (.string tn)).setCell ⟨w.heap.size, 1, none⟩ (.int .i64 tk)).setCell ⟨w.heap.size, 2, none⟩ (.slice oa on oc) = wc at *
        simp [results, Try.results53, go_sem, ftS, ovS, c0, c1, c2]
      · have te := tq_ne he
        have HJ2 : Hid (∀ i, i < j + 1 → (ms.getD i t00).1 ≠ nm) := by
          intro i hi
          by_cases e : i = j
          · rw [e]; exact he
          · exact HJ.out i (by omega)
        generalize ms.getD j t00 = T at *
        obtain ⟨tn, tk, oa, on, oc⟩ := T
        simp only [ovS] at q0 q1 q2 he te
        clear hcc hjm HJ he
        go_wp2_with fail
        go_roundg k
        case measure => omega
        case rel => exact ⟨j + 1, by omega, by first | exact congrArg (Value.int .i64) EW.out | rfl, rfl, HJ2⟩
    · have hltD : decide ((j : Int) < N) = false := by simp; omega
      have HFD := hid (find_none' (ms := ms) (nm := nm) (fun i hi => HJ.out i (by rw [HN.out] at hi; omega)))
      clear HJ
      go_wp2_with fail
      refine bodyPost_ret (v := .tuple #[ftS t00, .bool false]) ?_ rfl ⟨⟨false, by unfold ff3; rw [HFD.out]; rfl⟩, ((HBZ.out.setCell (Nat.le_refl _) _).setCell (Nat.le_refl _) _).setCell (Nat.le_refl _) _⟩
      obtain ⟨c0, c1, c2⟩ := set3 (u0 := .string ⟨#[]⟩) (u1 := .int .i64 0) (u2 := .slice none 0 0) HFZ.out
      generalize ((wr.setCell ⟨w.heap.size, 0, none⟩ (.string ⟨#[]⟩)).setCell ⟨w.heap.size, 1, none⟩ (.int .i64 0)).setCell ⟨w.heap.size, 2, none⟩ (.slice none 0 0) = wc at *
      simp [results, Try.results53, go_sem, ftS, ovS, t00, c0, c1, c2]
      try rfl
end Go.Proofs.Ythjbhfhdepepmaa
namespace Go.Proofs.Ythjbhfhdepepmaa
open Go.RowKit
theorem held_any (n lo hi : Int) (w : World) : Calls Try.prog 42 #[.int .i64 n, .int .i64 lo, .int .i64 hi] w fun e w' => e = .returned (.int .i64 (if n < lo then lo else if hi < n then hi else n)) ∧ w' = w := by
  by_cases h1 : n < lo
  · rw [if_pos h1]
    have d1 : decide (n < lo) = true := by simpa using h1
    go_enter Try.func42, Try.ntmps42
    go_wp2
    go_ret
    exact ⟨rfl, rfl⟩
  · rw [if_neg h1]
    have d1 : decide (n < lo) = false := by simpa using h1
    by_cases h2 : hi < n
    · rw [if_pos h2]
      have d2 : decide (hi < n) = true := by simpa using h2
      go_enter Try.func42, Try.ntmps42
      go_wp2
      go_ret
      exact ⟨rfl, rfl⟩
    · rw [if_neg h2]
      have d2 : decide (hi < n) = false := by simpa using h2
      go_enter Try.func42, Try.ntmps42
      go_wp2
      go_ret
      exact ⟨rfl, rfl⟩
/-- A write, byte by byte. -/
theorem wneg_ (n : Nat) (h : n ≤ 140737488355328) : wrap64 (-(n : Int)) = -(n : Int) := by unfold wrap64; omega
theorem winc_ (n : Nat) (h : n ≤ 140737488355328) : wrap64 ((n : Int) + 1) = ((n + 1 : Nat) : Int) := by unfold wrap64; omega
theorem wsub_ (j n : Nat) (a : Int) (h1 : j ≤ 140737488355328) (h2 : n ≤ 140737488355328) (h3 : -(n : Int) ≤ a) (h4 : a ≤ 9223372036854775807) : wrap64 ((j : Int) - a) = (j : Int) - a := by unfold wrap64; omega
theorem ba_idx (D : ByteArray) (k : Nat) (h : k < D.size) : D[k] = D.data.toList.getD k 0 := by
  rw [List.getD_eq_getElem?_getD, List.getElem?_eq_getElem (by simpa using h)]
  rfl
def mx (b1 b : List UInt8) (j : Nat) : List UInt8 := b1.take j ++ b.drop j
theorem mx_len {b1 b : List UInt8} (h : b1.length = b.length) (j : Nat) : (mx b1 b j).length = b.length := by unfold mx; simp; omega
theorem mx_get {b1 b : List UInt8} (h : b1.length = b.length) (j i : Nat) : (mx b1 b j)[i]? = if i < j then b1[i]? else b[i]? := by
  unfold mx
  by_cases hi : i < j
  · rw [if_pos hi]
    by_cases hj : i < b1.length
    · rw [List.getElem?_append_left (by rw [List.length_take]; omega), List.getElem?_take, if_pos hi]
    · rw [List.getElem?_append_right (by rw [List.length_take]; omega), List.getElem?_eq_none (by simp; omega), List.getElem?_eq_none (by omega)]
  · rw [if_neg hi]
    by_cases hj : j ≤ b1.length
    · rw [List.getElem?_append_right (by rw [List.length_take]; omega), List.length_take, Nat.min_eq_left hj, List.getElem?_drop]
      congr 1; omega
    · rw [List.getElem?_append_right (by rw [List.length_take]; omega), List.getElem?_eq_none (by simp; omega), List.getElem?_eq_none (by omega)]
theorem mx_end {b1 b : List UInt8} (h : b1.length = b.length) (j : Nat) (hj : b.length ≤ j) : mx b1 b j = b1 := by unfold mx; rw [List.take_of_length_le (by omega), List.drop_of_length_le hj, List.append_nil]
theorem mx_set {b1 b : List UInt8} (h : b1.length = b.length) (j : Nat) (c : UInt8) (hc : b1[j]? = some c) : (mx b1 b j).set j c = mx b1 b (j + 1) := by
  have hj := (List.getElem?_eq_some_iff.1 hc).1
  apply List.ext_getElem?
  intro i
  rw [List.getElem?_set, mx_get h, mx_get h, mx_len h]
  by_cases e : j = i
  · subst e
    rw [if_pos rfl, if_pos (by omega), if_pos (by omega), hc]
  · rw [if_neg e]
    by_cases hi : i < j
    · rw [if_pos hi, if_pos (by omega)]
    · rw [if_neg hi, if_neg (by omega)]
theorem mx_same {b1 b : List UInt8} (h : b1.length = b.length) (j : Nat) (hc : b1[j]? = b[j]?) : mx b1 b (j + 1) = mx b1 b j := by
  apply List.ext_getElem?
  intro i
  rw [mx_get h, mx_get h]
  by_cases e : j = i
  · subst e
    rw [if_pos (by omega), if_neg (by omega), hc]
  · by_cases hi : i < j
    · rw [if_pos (by omega), if_pos hi]
    · rw [if_neg (by omega), if_neg hi]
theorem mx_start {fr to : Nat} {b : List UInt8} (x : Int × ByteArray) (h : fr ≤ to) (hb : b.length = to) : mx (lf1 fr to b x) b fr = b := by
  unfold mx
  rw [lf1_head x h hb, List.take_append_drop]
def Lr (w : World) (F : Nat) (fc : Array Value) (G C : Nat) (b : List UInt8) (wr : World) : Prop := Below w.heap.size w wr ∧ wr.heap[F]? = some (.cells fc 24 (0, 0)) ∧ Cb wr G C b
theorem Lr.kept {w : World} {F : Nat} {fc : Array Value} {G C : Nat} {b : List UInt8} {wr wx : World} (h : Lr w F fc G C b wr) (hb : Below wr.heap.size wr wx) : Lr w F fc G C b wx :=
  ⟨h.1.trans (hb.mono h.1.size), (hb.block F (lt_of_heap h.2.1)).trans h.2.1, h.2.2.kept (hb.block G (by obtain ⟨_, _, k, _⟩ := h.2.2; exact lt_of_heap k))⟩
theorem Lr.set {w : World} {F : Nat} {fc : Array Value} {G C : Nat} {b : List UInt8} {wr : World} (h : Lr w F fc G C b wr) (hG : w.heap.size ≤ G) (hF : F ≠ G) (j : Nat) (c : UInt8) (k : Nat) : Lr w F fc G C (b.set j c) ((wr.drewN k).setCell ⟨G, j, none⟩ (.int .u8 c.toNat)) := by
  have h' := h.kept (bel_drewN' wr k)
  exact ⟨h'.1.setCell hG _, heap_set_far h'.2.1 hF, h'.2.2.set j c⟩
set_option maxHeartbeats 4000000 in
set_option maxRecDepth 20000 in
theorem rleft_any (D : ByteArray) (sy : Int) (nm : ByteArray) (kp : Int) (a : Option Addr) (cap : Nat) (ws : List (Int × ByteArray)) (w : World) (hD : D.size ≤ 140737488355328) (hw : Wrs w a ws) (hl : ws.length ≤ 140737488355328) (hok : ∀ x ∈ ws, WrOk x) :
    Calls Try.prog 11 #[.string D, .int .i64 sy, .agg #[.string nm, .int .i64 kp, .slice a ws.length cap]] w fun e w' => e = .returned (.string (ba (lft D.data.toList sy kp ws))) ∧ Below w.heap.size w w' := by
  have hsl : D.data.toList.length = D.size := Array.length_toList
  unfold lft
  rw [hsl]
  obtain ⟨s, hs⟩ : ∃ s, s = sfe D.size sy := ⟨_, rfl⟩
  have hsle : s ≤ D.size := by rw [hs]; exact sfe_le _ _
  have hsI : (if sy < 0 then 0 else if (D.size : Int) < sy then (D.size : Int) else sy) = (s : Int) := by rw [hs]; unfold sfe; split <;> (try split) <;> omega
  rw [← hs]
  obtain ⟨t, ht⟩ : ∃ t, t = kpt D.size s kp := ⟨_, rfl⟩
  have htle := kpt_le (n := D.size) (s := s) kp hsle
  have htI : (if kp < (s : Int) then (s : Int) else if (D.size : Int) < kp then (D.size : Int) else kp) = (t : Int) := by rw [ht]; unfold kpt; split <;> (try split) <;> omega
  rw [← ht] at htle ⊢
  have HH1 : Hid (∀ wx, Calls Try.prog 42 #[.int .i64 sy, .int .i64 0, .int .i64 D.size] wx fun e w' => e = .returned (.int .i64 s) ∧ w' = wx) := fun wx => by have := held_any sy 0 D.size wx; rw [hsI] at this; exact this
  have HH2 : Hid (∀ wx, Calls Try.prog 42 #[.int .i64 kp, .int .i64 s, .int .i64 D.size] wx fun e w' => e = .returned (.int .i64 t) ∧ w' = wx) := fun wx => by have := held_any kp s D.size wx; rw [htI] at this; exact this
  clear hs ht hsI htI
  have hXt : D.extract 0 t = ba (D.data.toList.take t) := by
    conv => lhs; rw [← ba_of' D]
    rw [ba_ext0]
  have hb0 : (D.data.toList.take t).length = t := by rw [List.length_take]; omega
  generalize D.data.toList.take t = b0 at *
  have HW := hid' hw
  have HOK := hid' hok
  clear hw hok
  generalize hN : ws.length = N at *
  have HN := hid' hN
  clear hN
  obtain ⟨wA, hwA⟩ : ∃ wA, wA = w.alloc (Obj.cells #[.string nm, .int .i64 kp, .slice a N cap] 24) := ⟨_, rfl⟩
  have hA := heap_new w (Obj.cells #[.string nm, .int .i64 kp, .slice a N cap] 24)
  have hbA : Below w.heap.size w wA := by rw [hwA]; exact (Below.refl _ w).alloc (Nat.le_refl _) _
  have hsA : wA.heap.size = w.heap.size + 1 := by rw [hwA]; simp
  rw [← hwA] at hA
  have hwA' := hwA.symm
  clear hwA
  have a1 : wA.cell? ⟨w.heap.size, 1, none⟩ = some (.int .i64 kp) := (cell_of hA).trans rfl
  obtain ⟨C, w3, hcv, hC3, hbw3'⟩ := conv_b wA b0
  rw [hb0] at hcv
  have hA3 := (hbw3'.block w.heap.size (by omega)).trans hA
  have hbw3 := hbA.trans (hbw3'.mono hbA.size)
  have a23 : w3.cell? ⟨w.heap.size, 2, none⟩ = some (.slice a N cap) := (cell_of hA3).trans rfl
  have htI : (t : Int) ≤ D.size := by omega
  clear hbw3' hbA
  have hwG : w.heap.size < wA.heap.size := by omega
  have hWB : Hid (Wrs w a ws) := HW
  clear hsA
  generalize hGG : wA.heap.size = G at *
  clear hGG
  go_enter Try.func11, Try.ntmps11
  go_wp2_with (first | (go_at_call 42; first | (with_reducible refine (HH1.out _).mono ?_; rintro e w1 ⟨rfl, rfl⟩) | (with_reducible refine (HH2.out _).mono ?_; rintro e w1 ⟨rfl, rfl⟩)))
  have HQ0 : Hid (Lr w w.heap.size #[.string nm, .int .i64 kp, .slice a N cap] G C b0 w3) := ⟨hbw3, hA3, hC3⟩
  clear hbw3 hA3 hC3 hcv a1 a23 hwA' hXt hA hWB HH1 HH2
  go_loopg [10] N (fun k i wr => ∃ (j : Nat) (b : List UInt8), j + k = N ∧ i = .int .i64 j ∧ b.length = t ∧ Hid (b = lfs s t b0 (ws.take j)) ∧ Hid (Lr w w.heap.size #[.string nm, .int .i64 kp, .slice a N cap] G C b wr))
  case atStart => exact ⟨0, b0, by omega, rfl, hb0, rfl, HQ0⟩
  case round =>
    clear HQ0
    obtain ⟨j, b, hk, rfl, hbl, HB, HQ⟩ := hrel
    have a2 : wr.cell? ⟨w.heap.size, 2, none⟩ = some (.slice a N cap) := (cell_of HQ.out.2.1).trans rfl
    by_cases hlt : j < N
    · obtain ⟨k, rfl⟩ : ∃ k, gk = k + 1 := ⟨gk - 1, by omega⟩
      have hltD : decide ((j : Int) < N) = true := by simp; omega
      have hltI : (j : Int) < N := by omega
      have EW := hid' (winc_ j (Nat.le_trans (Nat.le_of_lt hlt) hl))
      rcases HW.out with rfl | ⟨bk, off, rfl, hbl', hcl'⟩
      · exact absurd hlt (by rw [← HN.out]; simp)
      obtain ⟨q0, q1⟩ := hcl' j (by rw [HN.out]; exact hlt)
      have hbel := HQ.out.1
      rw [← hbel.cell (p := ⟨bk, off + j * 2, none⟩) hbl'] at q0
      rw [← hbel.cell (p := ⟨bk, off + j * 2 + 1, none⟩) hbl'] at q1
      have hok := HOK.out (ws.getD j w00) (by rw [List.getD_eq_getElem?_getD, List.getElem?_eq_getElem (by rw [HN.out]; exact hlt)]; exact List.getElem_mem _)
      have HE : Hid (lfs s t b0 (ws.take (j + 1)) = lf1 s t b (ws.getD j w00)) := by
        show _ = _
        rw [HB.out]
        unfold lfs
        rw [List.take_succ_eq_append_getElem (by rw [HN.out]; exact hlt), List.foldl_append]
        rw [List.getD_eq_getElem?_getD, List.getElem?_eq_getElem (by rw [HN.out]; exact hlt)]
        rfl
      generalize ws.getD j w00 = x at *
      obtain ⟨at', D'⟩ := x
      obtain ⟨o1, o2, o3⟩ := hok
      simp only at q0 q1 o1 o2 o3
      have HL1 := hid' (lf1_len (at', D') htle.1 hbl)
      have HST := hid' (mx_start (at', D') htle.1 hbl)
      have HPT : Hid (∀ i, (lf1 s t b (at', D'))[i]? = b[i]?.map (pt s at' D'.data.toList i)) := fun i => wn_pt at' D'.data.toList b htle.1 hbl i
      obtain ⟨wa, hwa⟩ : ∃ wa, wa = wr.alloc (Obj.cells #[.int .i64 at', .string D'] 69) := ⟨_, rfl⟩
      have hF := heap_new wr (Obj.cells #[.int .i64 at', .string D'] 69)
      rw [← hwa] at hF
      have hQa := HQ.out.kept (wx := wa) (by rw [hwa]; exact (Below.refl _ wr).alloc (Nat.le_refl _) _)
      have hQa2 : Lr w w.heap.size #[.string nm, .int .i64 kp, .slice (some ⟨bk, off, none⟩) N cap] G C (mx (lf1 s t b (at', D')) b s) wa := by rw [HST.out]; exact hQa
      have HQa := hid' (And.intro hQa2 hF)
      have hwa' := hwa.symm
      have hFW : w.heap.size < wr.heap.size := lt_of_heap HQ.out.2.1
      have hGr : G < wr.heap.size := by obtain ⟨_, _, k, _⟩ := HQ.out.2.2; exact lt_of_heap k
      generalize hB1 : lf1 s t b (at', D') = b1 at *
      clear hwa hcl' hbel HQ hF hQa hQa2 HW hB1 HST
      obtain ⟨W, hW⟩ : ∃ W, wr.heap.size = W := ⟨_, rfl⟩
      rw [hW] at HQa hFW hGr
      go_wp2_with fail
      clear hwa' hW q0 q1 a2 hbl'
      have hltD' := hltD
      go_loopg [12] (t - s) (fun k i wx => ∃ (jj : Nat), s ≤ jj ∧ jj + k = t ∧ i = .int .i64 jj ∧ Hid (Lr w w.heap.size #[.string nm, .int .i64 kp, .slice (some ⟨bk, off, none⟩) N cap] G C (mx b1 b jj) wx ∧ wx.heap[W]? = some (.cells #[.int .i64 at', .string D'] 69 (0, 0))))
      case atStart => exact ⟨s, by omega, by omega, rfl, HQa⟩
      case round =>
        clear HQa
        obtain ⟨jj, hs1, hk2, rfl, HX⟩ := hrel
        have x0 : wr.cell? ⟨W, 0, none⟩ = some (.int .i64 at') := (cell_of HX.out.2).trans rfl
        have x1 : wr.cell? ⟨W, 1, none⟩ = some (.string D') := (cell_of HX.out.2).trans rfl
        have HBL := hid' hbl
        have HL2 : Hid (b1.length = b.length) := HL1.out.trans hbl.symm
        have HDL : Hid (D'.data.toList.length = D'.size) := Array.length_toList
        by_cases hlt2 : jj < t
        · obtain ⟨k2, rfl⟩ : ∃ k2, gk = k2 + 1 := ⟨gk - 1, by omega⟩
          have e1 : decide ((jj : Int) < t) = true := by simp; omega
          have EW2 := hid' (winc_ jj (Nat.le_trans (Nat.le_of_lt hlt2) (Nat.le_trans htle.2 hD)))
          have WNEG := hid' (wneg_ D'.size o3)
          by_cases c1 : -(D'.size : Int) ≤ at'
          · have e2 : decide (-(D'.size : Int) ≤ at') = true := by simpa using c1
            have WSUB := hid' (wsub_ jj D'.size at' (Nat.le_trans (Nat.le_of_lt hlt2) (Nat.le_trans htle.2 hD)) o3 c1 o2)
            by_cases c2 : at' ≤ (jj : Int)
            · have e3 : decide (at' ≤ (jj : Int)) = true := by simpa using c2
              by_cases c3 : (jj : Int) - at' < D'.size
              · have e4 : decide ((jj : Int) - at' < D'.size) = true := by simpa using c3
                have hnn : 0 ≤ (jj : Int) - at' := Int.sub_nonneg.2 c2
                have hjI : (jj : Int) < t := by simpa using hlt2
                have fz := HX.out.1.2.2.frz jj (by rw [mx_len HL2.out, hbl]; exact hlt2)
                have gc := HX.out.1.2.2.cell jj (by rw [mx_len HL2.out, hbl]; exact hlt2)
                have hmm : ((jj : Int) - at').toNat < D'.size := by have := Int.toNat_of_nonneg hnn; omega
                have hcc : b1[jj]? = some (D'.data.toList.getD ((jj : Int) - at').toNat 0) := by
                  rw [HPT.out, List.getElem?_eq_getElem (by rw [hbl]; exact hlt2), Option.map_some]
                  unfold pt
                  rw [if_pos ⟨hs1, c2, by rw [HDL.out]; exact c3⟩]
                have hix := ba_idx D' _ hmm
                have HNX : Hid (Lr w w.heap.size #[.string nm, .int .i64 kp, .slice (some ⟨bk, off, none⟩) N cap] G C (mx b1 b (jj + 1)) (wr.setCell ⟨G, jj, none⟩ (.int .u8 (D'[((jj : Int) - at').toNat]'hmm).toNat)) ∧ (wr.setCell ⟨G, jj, none⟩ (.int .u8 (D'[((jj : Int) - at').toNat]'hmm).toNat)).heap[W]? = some (.cells #[.int .i64 at', .string D'] 69 (0, 0))) := by
                  show _ ∧ _
                  rw [← mx_set HL2.out jj _ hcc, hix]
                  exact ⟨HX.out.1.set (Nat.le_of_lt hwG) (Nat.ne_of_lt hwG) jj _ 0, heap_set_far HX.out.2 (fun e => by simp only at e; omega)⟩
                have HH := hid' (And.intro hs1 (And.intro hk2 (And.intro hlt2 hbl)))
                clear hix hcc
                clear hs1 hk2 hbl htle hD hl hsl hsle hb0 hwG hFW hGr o1 o2 o3 hk hlt htI hltI hltD hltD'
                have wneg := WNEG.out
                have wsub := WSUB.out
                go_wp2
                clear wneg wsub
                obtain ⟨hs1, hk2, _, _⟩ := HH.out
                go_roundg k2
                case measure => omega
                case rel => exact ⟨jj + 1, by omega, by omega, by first | exact congrArg (Value.int .i64) EW2.out | rfl, HNX⟩
              · have e4 : decide ((jj : Int) - at' < D'.size) = false := by simpa using c3
                have HH := hid' (And.intro hs1 (And.intro hk2 hlt2))
                clear hs1 hk2 hbl htle hD hl hsl hsle hb0 hwG hFW hGr o1 o2 o3 hk hlt htI hltI hltD hltD'
                have wneg := WNEG.out
                have wsub := WSUB.out
                go_wp2
                clear wneg wsub
                obtain ⟨hs1, hk2, _⟩ := HH.out
                go_roundg k2
                case measure => omega
                case rel => exact ⟨jj + 1, by omega, by omega, by first | exact congrArg (Value.int .i64) EW2.out | rfl, by show _ ∧ _; rw [mx_same HL2.out jj (by rw [HPT.out, List.getElem?_eq_getElem (by rw [HBL.out]; omega), Option.map_some]; unfold pt; rw [if_neg (by rw [HDL.out]; omega)])]; exact HX.out⟩
            · have e3 : decide (at' ≤ (jj : Int)) = false := by simpa using c2
              have HH := hid' (And.intro hs1 (And.intro hk2 hlt2))
              clear hs1 hk2 hbl htle hD hl hsl hsle hb0 hwG hFW hGr o1 o2 o3 hk hlt htI hltI hltD hltD'
              have wneg := WNEG.out
              have wsub := WSUB.out
              go_wp2
              clear wneg wsub
              obtain ⟨hs1, hk2, _⟩ := HH.out
              go_roundg k2
              case measure => omega
              case rel => exact ⟨jj + 1, by omega, by omega, by first | exact congrArg (Value.int .i64) EW2.out | rfl, by show _ ∧ _; rw [mx_same HL2.out jj (by rw [HPT.out, List.getElem?_eq_getElem (by rw [HBL.out]; omega), Option.map_some]; unfold pt; rw [if_neg (by rw [HDL.out]; omega)])]; exact HX.out⟩
          · have e2 : decide (-(D'.size : Int) ≤ at') = false := by simpa using c1
            have HH := hid' (And.intro hs1 (And.intro hk2 hlt2))
            clear hs1 hk2 hbl htle hD hl hsl hsle hb0 hwG hFW hGr o1 o2 o3 hk hlt htI hltI hltD hltD'
            have wneg := WNEG.out
            go_wp2
            clear wneg
            obtain ⟨hs1, hk2, _⟩ := HH.out
            go_roundg k2
            case measure => omega
            case rel => exact ⟨jj + 1, by omega, by omega, by first | exact congrArg (Value.int .i64) EW2.out | rfl, by show _ ∧ _; rw [mx_same HL2.out jj (by rw [HPT.out, List.getElem?_eq_getElem (by rw [HBL.out]; omega), Option.map_some]; unfold pt; rw [if_neg (by rw [HDL.out]; omega)])]; exact HX.out⟩
        · have e1 : decide ((jj : Int) < t) = false := by simp; omega
          have ejj : jj = t := by omega
          have HXE : Hid (Lr w w.heap.size #[.string nm, .int .i64 kp, .slice (some ⟨bk, off, none⟩) N cap] G C b1 wr) := by
            have := HX.out.1
            rw [mx_end HL2.out jj (by rw [hbl]; omega)] at this
            exact this
          have HH := hid' (And.intro hk hlt)
          clear HX x0 x1 hs1 hk2 ejj hbl htle hD hl hsl hsle hb0 hwG hFW hGr o1 o2 o3 hk hlt htI hltI hltD hltD'
          go_wp2
          obtain ⟨hk, hlt⟩ := HH.out
          go_roundg k
          case measure => omega
          case rel => exact ⟨j + 1, b1, by omega, by first | exact congrArg (Value.int .i64) EW.out | rfl, HL1.out, HE.out.symm, HXE⟩
    · have hltD : decide ((j : Int) < N) = false := by simp; omega
      have hj : ws.take j = ws := List.take_of_length_le (by rw [HN.out]; omega)
      have hbk := HQ.out.2.2.back
      rw [hbl] at hbk
      have hb' := HB.out
      rw [hj] at hb'
      have HBE := hid' (And.intro hb' HQ.out.1)
      clear hb' HQ
      go_wp2_with fail
      go_ret
      exact ⟨by rw [← HBE.out.1]; rfl, HBE.out.2⟩
end Go.Proofs.Ythjbhfhdepepmaa
namespace Go.Proofs.Ythjbhfhdepepmaa
open Go.RowKit
/-- The kind of a fate, by what is left. -/
def ofN (X L : List UInt8) : Nat := (if L.length < X.length then 1 else 0) + (if L = X.take L.length then 0 else 2)
set_option maxHeartbeats 1000000 in
set_option maxRecDepth 20000 in
theorem of_any (D : ByteArray) (sy : Int) (nm : ByteArray) (kp : Int) (a : Option Addr) (cap : Nat) (ws : List (Int × ByteArray)) (w : World) (hD : D.size ≤ 140737488355328) (hw : Wrs w a ws) (hl : ws.length ≤ 140737488355328) (hok : ∀ x ∈ ws, WrOk x) :
    Calls Try.prog 12 #[.string D, .int .i64 sy, .agg #[.string nm, .int .i64 kp, .slice a ws.length cap]] w fun e w' => e = .returned (.int .i64 (ofN D.data.toList (lft D.data.toList sy kp ws))) ∧ Below w.heap.size w w' := by
  have hsl : D.data.toList.length = D.size := Array.length_toList
  have hle : (lft D.data.toList sy kp ws).length ≤ D.size := by rw [lft_len, hsl]; exact (kpt_le kp (sfe_le _ _)).2
  have HL : Hid (∀ wx, Below w.heap.size w wx → Calls Try.prog 10 #[.string D, .int .i64 sy, .agg #[.string nm, .int .i64 kp, .slice a ws.length cap]] wx fun e w' => e = .returned (.string (ba (lft D.data.toList sy kp ws))) ∧ Below w.heap.size w w') := fun wx hb =>
    (left_any D sy nm kp a cap ws wx hD (hw.kept hb) hl hok).mono fun _ _ k => ⟨k.1, hb.trans (k.2.mono hb.size)⟩
  generalize lft D.data.toList sy kp ws = L at *
  have hX : D.extract 0 L.length = ba (D.data.toList.take L.length) := by
    conv => lhs; rw [← ba_of' D]
    rw [ba_ext0]
  have hsz := ba_size L
  have hA : Below w.heap.size w (w.alloc (Obj.cells #[.string nm, .int .i64 kp, .slice a ws.length cap] 24)) := (Below.refl _ w).alloc (Nat.le_refl _) _
  have HLA := hid' (HL.out _ hA)
  have hne : ∀ A B : List UInt8, A ≠ B → ((ba A).toList == (ba B).toList) = false := fun A B h => tq_ne (fun e => h (by have := congrArg (fun z : ByteArray => z.data.toList) e; exact this))
  unfold ofN
  rw [hsl]
  by_cases c1 : L.length < D.size
  · have d1 : decide ((L.length : Int) < D.size) = true := by simp; omega
    rw [if_pos c1]
    by_cases c2 : L = D.data.toList.take L.length
    · rw [if_pos c2]
      have e2 : ((ba L).toList == (ba (D.data.toList.take L.length)).toList) = true := by rw [← c2]; simp
      have i1 : (L.length : Int) ≤ D.size := by omega
      generalize ba (D.data.toList.take L.length) = Y at *
      generalize L.length = N at *
      clear c2 hne HL hw hok hD hl hsl
      generalize ba L = Z at *
      go_enter Try.func12, Try.ntmps12
      go_wp2_with (go_at_call 10; refine HLA.out.mono ?_; rintro e w1 ⟨rfl, hb1⟩)
      go_quiet (fail)
      go_wp2
      go_ret
      exact ⟨rfl, hb1.trans ((bel_drewN' w1 _).mono hb1.size)⟩
    · rw [if_neg c2]
      have e2 : ((ba L).toList == (ba (D.data.toList.take L.length)).toList) = false := hne _ _ c2
      have i1 : (L.length : Int) ≤ D.size := by omega
      generalize ba (D.data.toList.take L.length) = Y at *
      generalize L.length = N at *
      clear c2 hne HL hw hok hD hl hsl
      generalize ba L = Z at *
      go_enter Try.func12, Try.ntmps12
      go_wp2_with (go_at_call 10; refine HLA.out.mono ?_; rintro e w1 ⟨rfl, hb1⟩)
      go_quiet (fail)
      go_wp2
      go_ret
      exact ⟨rfl, hb1.trans ((bel_drewN' w1 _).mono hb1.size)⟩
  · have d1 : decide ((L.length : Int) < D.size) = false := by simp; omega
    rw [if_neg c1]
    by_cases c2 : L = D.data.toList.take L.length
    · rw [if_pos c2]
      have e2 : ((ba L).toList == (ba (D.data.toList.take L.length)).toList) = true := by rw [← c2]; simp
      have i1 : (L.length : Int) ≤ D.size := by omega
      generalize ba (D.data.toList.take L.length) = Y at *
      generalize L.length = N at *
      clear c2 hne HL hw hok hD hl hsl
      generalize ba L = Z at *
      go_enter Try.func12, Try.ntmps12
      go_wp2_with (go_at_call 10; refine HLA.out.mono ?_; rintro e w1 ⟨rfl, hb1⟩)
      go_quiet (fail)
      go_wp2
      go_ret
      exact ⟨rfl, hb1.trans ((bel_drewN' w1 _).mono hb1.size)⟩
    · rw [if_neg c2]
      have e2 : ((ba L).toList == (ba (D.data.toList.take L.length)).toList) = false := hne _ _ c2
      have i1 : (L.length : Int) ≤ D.size := by omega
      generalize ba (D.data.toList.take L.length) = Y at *
      generalize L.length = N at *
      clear c2 hne HL hw hok hD hl hsl
      generalize ba L = Z at *
      go_enter Try.func12, Try.ntmps12
      go_wp2_with (go_at_call 10; refine HLA.out.mono ?_; rintro e w1 ⟨rfl, hb1⟩)
      go_quiet (fail)
      go_wp2
      go_ret
      exact ⟨rfl, hb1.trans ((bel_drewN' w1 _).mono hb1.size)⟩
end Go.Proofs.Ythjbhfhdepepmaa
namespace Go.Proofs.Ythjbhfhdepepmaa
open Go.RowKit
set_option maxHeartbeats 1000000 in
set_option maxRecDepth 20000 in
theorem rof_any (D : ByteArray) (sy : Int) (nm : ByteArray) (kp : Int) (a : Option Addr) (cap : Nat) (ws : List (Int × ByteArray)) (w : World) (hD : D.size ≤ 140737488355328) (hw : Wrs w a ws) (hl : ws.length ≤ 140737488355328) (hok : ∀ x ∈ ws, WrOk x) :
    Calls Try.prog 13 #[.string D, .int .i64 sy, .agg #[.string nm, .int .i64 kp, .slice a ws.length cap]] w fun e w' => e = .returned (.int .i64 (ofN D.data.toList (lft D.data.toList sy kp ws))) ∧ Below w.heap.size w w' := by
  have hsl : D.data.toList.length = D.size := Array.length_toList
  have hle : (lft D.data.toList sy kp ws).length ≤ D.size := by rw [lft_len, hsl]; exact (kpt_le kp (sfe_le _ _)).2
  have HL : Hid (∀ wx, Below w.heap.size w wx → Calls Try.prog 11 #[.string D, .int .i64 sy, .agg #[.string nm, .int .i64 kp, .slice a ws.length cap]] wx fun e w' => e = .returned (.string (ba (lft D.data.toList sy kp ws))) ∧ Below w.heap.size w w') := fun wx hb =>
    (rleft_any D sy nm kp a cap ws wx hD (hw.kept hb) hl hok).mono fun _ _ k => ⟨k.1, hb.trans (k.2.mono hb.size)⟩
  generalize lft D.data.toList sy kp ws = L at *
  have hX : D.extract 0 L.length = ba (D.data.toList.take L.length) := by
    conv => lhs; rw [← ba_of' D]
    rw [ba_ext0]
  have hsz := ba_size L
  have hA : Below w.heap.size w (w.alloc (Obj.cells #[.string nm, .int .i64 kp, .slice a ws.length cap] 24)) := (Below.refl _ w).alloc (Nat.le_refl _) _
  have HLA := hid' (HL.out _ hA)
  have hne : ∀ A B : List UInt8, A ≠ B → ((ba A).toList == (ba B).toList) = false := fun A B h => tq_ne (fun e => h (by have := congrArg (fun z : ByteArray => z.data.toList) e; exact this))
  unfold ofN
  rw [hsl]
  by_cases c1 : L.length < D.size
  · have d1 : decide ((L.length : Int) < D.size) = true := by simp; omega
    rw [if_pos c1]
    by_cases c2 : L = D.data.toList.take L.length
    · rw [if_pos c2]
      have e2 : ((ba L).toList == (ba (D.data.toList.take L.length)).toList) = true := by rw [← c2]; simp
      have i1 : (L.length : Int) ≤ D.size := by omega
      generalize ba (D.data.toList.take L.length) = Y at *
      generalize L.length = N at *
      clear c2 hne HL hw hok hD hl hsl
      generalize ba L = Z at *
      go_enter Try.func13, Try.ntmps13
      go_wp2_with (go_at_call 11; refine HLA.out.mono ?_; rintro e w1 ⟨rfl, hb1⟩)
      go_ret
      exact ⟨rfl, hb1⟩
    · rw [if_neg c2]
      have e2 : ((ba L).toList == (ba (D.data.toList.take L.length)).toList) = false := hne _ _ c2
      have i1 : (L.length : Int) ≤ D.size := by omega
      generalize ba (D.data.toList.take L.length) = Y at *
      generalize L.length = N at *
      clear c2 hne HL hw hok hD hl hsl
      generalize ba L = Z at *
      go_enter Try.func13, Try.ntmps13
      go_wp2_with (go_at_call 11; refine HLA.out.mono ?_; rintro e w1 ⟨rfl, hb1⟩)
      go_ret
      exact ⟨rfl, hb1⟩
  · have d1 : decide ((L.length : Int) < D.size) = false := by simp; omega
    rw [if_neg c1]
    by_cases c2 : L = D.data.toList.take L.length
    · rw [if_pos c2]
      have e2 : ((ba L).toList == (ba (D.data.toList.take L.length)).toList) = true := by rw [← c2]; simp
      have i1 : (L.length : Int) ≤ D.size := by omega
      generalize ba (D.data.toList.take L.length) = Y at *
      generalize L.length = N at *
      clear c2 hne HL hw hok hD hl hsl
      generalize ba L = Z at *
      go_enter Try.func13, Try.ntmps13
      go_wp2_with (go_at_call 11; refine HLA.out.mono ?_; rintro e w1 ⟨rfl, hb1⟩)
      go_ret
      exact ⟨rfl, hb1⟩
    · rw [if_neg c2]
      have e2 : ((ba L).toList == (ba (D.data.toList.take L.length)).toList) = false := hne _ _ c2
      have i1 : (L.length : Int) ≤ D.size := by omega
      generalize ba (D.data.toList.take L.length) = Y at *
      generalize L.length = N at *
      clear c2 hne HL hw hok hD hl hsl
      generalize ba L = Z at *
      go_enter Try.func13, Try.ntmps13
      go_wp2_with (go_at_call 11; refine HLA.out.mono ?_; rintro e w1 ⟨rfl, hb1⟩)
      go_ret
      exact ⟨rfl, hb1⟩
end Go.Proofs.Ythjbhfhdepepmaa
namespace Go.Proofs.Ythjbhfhdepepmaa
open Go.RowKit
/-- Blocks of other types than the disks' own stay. -/
def OthA (w w' : World) : Prop := ∀ (i : Nat) (c : Array Value) (T : TypeId) (fz : Nat × Nat), w.heap[i]? = some (.cells c T fz) → T ≠ 5 → T ≠ 107 → T ≠ 109 → T ≠ 77 → T ≠ 74 → w'.heap[i]? = some (.cells c T fz)
theorem Oth.a {w w' : World} (h : Oth w w') : OthA w w' := fun i c T fz h1 h2 h3 h4 _ _ => h i c T fz h1 h2 h3 h4
theorem OthA.refl (w : World) : OthA w w := fun _ _ _ _ h _ _ _ _ _ => h
theorem OthA.trans {a b c : World} (h : OthA a b) (k : OthA b c) : OthA a c := fun i _ _ _ hi h1 h2 h3 h4 h5 => k i _ _ _ (h i _ _ _ hi h1 h2 h3 h4 h5) h1 h2 h3 h4 h5
theorem Rk.oth {w w' : World} {d : Nat} {fl : Value} {rm : Nat} {cl cb : Int} {V : Vw} (h : Rk w d fl rm cl cb V) (hc : Ch (Rt d fl) w w') : OthA w w' := by
  intro i c T fz hi _ _ _ h1 h2
  refine (hc.block i (lt_of_heap hi) (fun hf => ?_)).trans hi
  rcases hf with rfl | hf
  · rw [h.blk] at hi; injection hi with hi; injection hi with _ e _; exact h1 e.symm
  · rcases h.row.2 with ⟨rfl, _⟩ | ⟨g, cap, cur, rfl, _, hh, _⟩
    · cases hf
    · injection hf with hf
      subst hf
      rw [hh] at hi; injection hi with hi; injection hi with _ e _; exact h2 e.symm
section
variable {w0 : World} {H : Nat} {w w' : World} {d r : Nat} {rm : Nat} {cl cb : Int} {V : Vw} {cl' cb' : Int} {V' : Vw}
theorem Pr.refA (h : Pr w0 H w d r rm cl cb V cl' cb' V') {Q : Ending → World → Prop} {cl1 cb1 : Int} {V1 : Vw} {f : FuncId} {args : Array Value} {v : Value}
    (hc : ∀ fl, Rk w r fl rm cl' cb' V' → Calls Try.prog f args w fun e w' => e = .returned v ∧ RAft w (Rt r fl) r rm cl1 cb1 V1 w') (hQ : ∀ w', Pr w0 H w' d r rm cl cb V cl1 cb1 V1 → OthA w w' → Q (.returned v) w') : Calls Try.prog f args w Q := by
  obtain ⟨fa, fb, h1, ⟨fl, h2, rfl⟩, h3, h4, h5, h6, h7⟩ := h
  refine (hc fl h2).mono ?_
  rintro e w' ⟨rfl, fb', k1, k2, k3⟩
  refine hQ w' ⟨fa, fb', h1.ch k2 (fun i ha hb => h3 i ha hb), k1, fun i ha hb => ?_, h4, fun i hb => ?_, Nat.le_trans h6 k2.size, h7.trans (k2.below h6 (fun i hi hf => by have := h5 i hf; omega))⟩ (h2.oth k2)
  · rcases k3 i hb with k | k
    · exact h3 i ha k
    · have := h1.lt ha; omega
  · rcases k3 i hb with k | k
    · exact h5 i k
    · omega
end
end Go.Proofs.Ythjbhfhdepepmaa
namespace Go.Proofs.Ythjbhfhdepepmaa
open Go.RowKit
theorem fx_find3 {fs : List Ft3} {nm : ByteArray} : (∀ i, fx (fs.map (·.1)) nm = some i → ff3 fs nm = fs.getD i t00) ∧ (fx (fs.map (·.1)) nm = none → ff3 fs nm = t00) := by
  induction fs with
  | nil => exact ⟨fun i hi => (by cases hi), fun _ => rfl⟩
  | cons f fs ih =>
    by_cases e : f.1 = nm
    · have e1 : fx ((f :: fs).map (·.1)) nm = some 0 := by unfold fx; simp [List.findIdx?_cons, e]
      have e2 : ff3 (f :: fs) nm = f := by unfold ff3; simp [e]
      rw [e1, e2]
      refine ⟨fun i hi => ?_, fun h => (by cases h)⟩
      injection hi with hi
      subst hi
      rfl
    · have e1 : fx ((f :: fs).map (·.1)) nm = (fx (fs.map (·.1)) nm).map (· + 1) := by unfold fx; simp [List.findIdx?_cons, e]
      have e2 : ff3 (f :: fs) nm = ff3 fs nm := by unfold ff3; simp [e]
      rw [e1, e2]
      refine ⟨fun i hi => ?_, fun h => ih.2 (by simpa using h)⟩
      obtain ⟨k, hk, rfl⟩ := Option.map_eq_some_iff.1 hi
      rw [ih.1 k hk]
      simp
theorem Ftr.names {w : World} {ft : Nat → Prop} {ms : List Ft3} {fs : List Ftp} (hR : Ftr w ft ms fs) : ms.map (·.1) = fs.map (·.1) := by
  apply List.ext_getElem (by simp [hR.1])
  intro i h1 h2
  have h3 : i < fs.length := by simpa using h2
  have := (hR.2 i h3).1
  simp only [List.getElem_map]
  rw [List.getD_eq_getElem?_getD, List.getD_eq_getElem?_getD, List.getElem?_eq_getElem (by simpa using h1), List.getElem?_eq_getElem h3] at this
  exact this
/-- The fate that is found, and its writes where they lie. -/
theorem Ftr.found {w : World} {ft : Nat → Prop} {ms : List Ft3} {fs : List Ftp} (hR : Ftr w ft ms fs) (nm : ByteArray) : (ff3 ms nm).2.1 = (ffx fs nm).2.1 ∧ (ff3 ms nm).2.2.2.1 = (ffx fs nm).2.2.length ∧ Wrs w (ff3 ms nm).2.2.1 (ffx fs nm).2.2 ∧ (∀ b off, (ff3 ms nm).2.2.1 = some ⟨b, off, none⟩ → ¬ ft b) ∧ (ffx fs nm).2.2.length ≤ 140737488355328 ∧ ∀ x ∈ (ffx fs nm).2.2, WrOk x := by
  have hn := hR.names
  cases hf : fx (ms.map (·.1)) nm with
  | none =>
    rw [fx_find3.2 hf, fx_find.2 (by rw [← hn]; exact hf)]
    exact ⟨rfl, rfl, Or.inl rfl, fun _ _ e => (by cases e), by simp [p00], fun _ e => (by cases e)⟩
  | some i =>
    obtain ⟨h1, h2⟩ := fx_find.1 i (by rw [← hn]; exact hf)
    rw [fx_find3.1 i hf, h2]
    obtain ⟨_, r2, r3, r4, r5, _, r7, r8⟩ := hR.2 i h1
    exact ⟨r2, r3, r4, r5, r7, r8⟩
set_option maxHeartbeats 1000000 in
set_option maxRecDepth 20000 in
theorem rcrash_any (d : Nat) (fl : Value) (rm : Nat) (cl cb : Int) (V : Vw) (a : Option Addr) (cap : Nat) (ms : List Ft3) (fs : List Ftp) (w : World) (h : Rk w d fl rm cl cb V) (hs : SV rm V) (hF : Fts w a ms) (hR : Ftr w (Rt d fl) ms fs) (haf : ∀ b off, a = some ⟨b, off, none⟩ → ¬ Rt d fl b) (hl : ms.length ≤ 140737488355328) :
    Calls Try.prog 26 #[.pointer (some ⟨d, 0, none⟩), .slice a ms.length cap] w fun e w' => e = .returned (.tuple #[]) ∧ RAft w (Rt d fl) d rm cl cb (V.map (crf fs)) w' := by
  have HK := hid h
  have HS := hid hs
  have HF := hid hF
  have HR := hid hR
  have HAF := hid haf
  obtain ⟨al, capl, rfl⟩ := h.len
  clear h hs hF hR haf
  generalize hM : ms.length = M at *
  have HM := hid hM
  generalize hN : V.length = N at *
  have HN := hid hN
  clear hM hN
  go_enter Try.func26, Try.ntmps26
  go_wp2_with fail
  go_loopg [4] N (fun k i wr => ∃ j : Nat, j + k = N ∧ i = .int .i64 j ∧ Hid (Rk wr d (.slice al N capl) rm cl cb ((V.take j).map (crf fs) ++ V.drop j) ∧ Ch (Rt d (.slice al N capl)) w wr))
  case atStart => exact ⟨0, by omega, rfl, ⟨HK.out, Ch.refl _ _⟩⟩
  case round =>
    obtain ⟨j, hk, rfl, HQ⟩ := hrel
    have c1 := HQ.out.1.c1
    by_cases hlt : j < N
    · obtain ⟨k, rfl⟩ : ∃ k, gk = k + 1 := ⟨gk - 1, by omega⟩
      have hltD : decide ((j : Int) < N) = true := by simp; omega
      have hltI : (j : Int) < N := by omega
      have hjV : j < V.length := by rw [HN.out]; exact hlt
      have hcnt := HS.out.cnt
      have EW := hid (winc_ j (by omega))
      obtain ⟨x, hx⟩ : ∃ x, x = V[j] := ⟨_, rfl⟩
      have hd : V.drop j = x :: V.drop (j + 1) := by rw [hx, List.drop_eq_getElem_cons hjV]
      have htk : V.take (j + 1) = V.take j ++ [x] := by rw [hx, List.take_succ_eq_append_getElem hjV]
      have hnew : (V.take (j + 1)).map (crf fs) ++ V.drop (j + 1) = (V.take j).map (crf fs) ++ crf fs x :: V.drop (j + 1) := by rw [htk]; simp
      have hq := HQ.out
      rw [hd] at hq
      have hlj : ((V.take j).map (crf fs)).length = j := by rw [List.length_map, List.length_take, HN.out]; omega
      have hlen : ((V.take j).map (crf fs) ++ x :: V.drop (j + 1)).length = N := by rw [← hd]; simp [HN.out]; omega
      have hx30 := (HS.out.lng x (by rw [hx]; exact List.getElem_mem _)).2
      obtain ⟨nm, X, sy⟩ := x
      simp only at hx30
      rcases hq.1.form with ⟨_, e2⟩ | ⟨g, cap', e, hcl, hfz, hgd⟩
      · simp at e2
      injection e with e1 e2 e3
      subst e1 e3
      clear e2
      rw [hlen] at hcl
      have q0 : wr.cell? ⟨g, j * 3, none⟩ = some (.string nm) := by rw [hcl _ (by omega)]; have := rfs_at ((V.take j).map (crf fs)) (V.drop (j + 1)) (nm, X, sy) 0 (by omega); rw [hlj] at this; exact this
      have q1 : wr.cell? ⟨g, j * 3 + 1, none⟩ = some (.string (ba X)) := by rw [hcl _ (by omega)]; have := rfs_at ((V.take j).map (crf fs)) (V.drop (j + 1)) (nm, X, sy) 1 (by omega); rw [hlj] at this; exact this
      have q2 : wr.cell? ⟨g, j * 3 + 2, none⟩ = some (.int .i64 sy) := by rw [hcl _ (by omega)]; have := rfs_at ((V.take j).map (crf fs)) (V.drop (j + 1)) (nm, X, sy) 2 (by omega); rw [hlj] at this; exact this
      obtain ⟨r2, r3, r4, r5, r7, r8⟩ := HR.out.found nm
      have hkeep : ∀ bb, bb < w.heap.size → ¬ Rt d (.slice (some ⟨g, 0, none⟩) N capl) bb → wr.heap[bb]? = w.heap[bb]? := fun bb h1 h2 => hq.2.block bb h1 h2
      have hFr : Fts wr a ms := by
        rcases HF.out with e | ⟨b, off, e1, e2, e3⟩
        · exact Or.inl e
        · have he := hkeep b e2 (HAF.out b off e1)
          refine Or.inr ⟨b, off, e1, Nat.lt_of_lt_of_le e2 hq.2.size, fun i hi => ?_⟩
          obtain ⟨z0, z1, z2⟩ := e3 i hi
          exact ⟨by simp only [World.cell?, he] at z0 ⊢; exact z0, by simp only [World.cell?, he] at z1 ⊢; exact z1, by simp only [World.cell?, he] at z2 ⊢; exact z2⟩
      have hWr : Wrs wr (ff3 ms nm).2.2.1 (ffx fs nm).2.2 := by
        rcases r4 with e | ⟨b, off, e1, e2, e3⟩
        · exact Or.inl e
        · have he := hkeep b e2 (r5 b off e1)
          refine Or.inr ⟨b, off, e1, Nat.lt_of_lt_of_le e2 hq.2.size, fun i hi => ?_⟩
          obtain ⟨z0, z1⟩ := e3 i hi
          exact ⟨by simp only [World.cell?, he] at z0 ⊢; exact z0, by simp only [World.cell?, he] at z1 ⊢; exact z1⟩
      have HFA := hid (rfate_any a cap ms nm wr hFr (by rw [HM.out]; exact hl))
      have hcrf : crf fs (nm, X, sy) = (nm, lft X sy (ffx fs nm).2.1 (ffx fs nm).2.2, (lft X sy (ffx fs nm).2.1 (ffx fs nm).2.2).length) := rfl
      rw [HM.out] at HFA
      generalize ffx fs nm = P at *
      generalize ff3 ms nm = T at *
      obtain ⟨pn, pk, pw⟩ := P
      obtain ⟨tn, tk, oa, on, oc⟩ := T
      simp only [ftS, ovS] at r2 r3 r7 r8 hWr HFA hcrf
      subst r2 r3
      have HWR := hid hWr
      have HL : Hid (∀ wx, Below wr.heap.size wr wx → Calls Try.prog 11 #[.string (ba X), .int .i64 sy, .agg #[.string tn, .int .i64 tk, .slice oa pw.length oc]] wx fun e w' => e = .returned (.string (ba (lft X sy tk pw))) ∧ Below wr.heap.size wr w' ∧ Below wx.heap.size wx w') := fun wx hb =>
        (rleft_any (ba X) sy tn tk oa oc pw wx (by rw [ba_size]; omega) (HWR.out.kept hb) r7 r8).mono fun _ _ k => ⟨k.1, hb.trans (k.2.mono hb.size), k.2⟩
      have HKQ := hid hq
      have HLEN := hid hlen
      have HNW := hid hnew
      rw [hcrf] at HNW
      have HCE : Hid (∀ wx, Below wr.heap.size wr wx → wx.cell? ⟨d, 1, none⟩ = some (.slice (some ⟨g, 0, none⟩) N capl) ∧ wx.cell? ⟨g, j * 3 + 1, none⟩ = some (.string (ba X)) ∧ wx.cell? ⟨g, j * 3 + 2, none⟩ = some (.int .i64 sy)) := by
        intro wx hb
        have hdl : d < wr.heap.size := lt_of_heap hq.1.blk
        have hgl : g < wr.heap.size := (hq.1.row.lt g rfl).2
        exact ⟨(hb.cell (p := ⟨d, 1, none⟩) hdl).trans c1, (hb.cell (p := ⟨g, j * 3 + 1, none⟩) hgl).trans q1, (hb.cell (p := ⟨g, j * 3 + 2, none⟩) hgl).trans q2⟩
      clear hcl hfz hq hd htk hnew hx hjV hFr hWr r4 r5 r7 r8 hkeep HQ hlen hcrf
      go_wp2_with (go_at_call 53; refine HFA.out.mono ?_; rintro e w1 ⟨⟨bb, rfl⟩, hb1⟩; have HB1 := hid hb1; clear hb1)
      obtain ⟨w2, hw2⟩ : ∃ w2, w2 = w1.alloc (Obj.cells #[.string tn, .int .i64 tk, .slice oa pw.length oc] 24) := ⟨_, rfl⟩
      rw [← hw2]
      have hF := heap_new w1 (Obj.cells #[.string tn, .int .i64 tk, .slice oa pw.length oc] 24)
      rw [← hw2] at hF
      have HB2 : Hid (Below wr.heap.size wr w2) := HB1.out.trans ((show Below w1.heap.size w1 w2 by rw [hw2]; exact bel_alloc _ _).mono HB1.out.size)
      obtain ⟨s1, s2, s3⟩ := HCE.out w2 HB2.out
      have t0 : w2.cell? ⟨w1.heap.size, 0, none⟩ = some (.string tn) := (cell_of hF).trans rfl
      have t1 : w2.cell? ⟨w1.heap.size, 1, none⟩ = some (.int .i64 tk) := (cell_of hF).trans rfl
      have t2 : w2.cell? ⟨w1.heap.size, 2, none⟩ = some (.slice oa pw.length oc) := (cell_of hF).trans rfl
      have HL2 := hid (HL.out w2 HB2.out)
      have HL3 := hid (HL.out w2.drew HB2.out.drew)
      have HBL := hid (lt_of_heap hF)
      clear hw2 hF HFA c1 q0 q1 q2
      have hBl : w1.heap.size < w2.heap.size := HBL.out
      go_region_held3 (fun x => x.cell? ⟨d, 1, none⟩ = some (.slice (some ⟨g, 0, none⟩) N capl) ∧ x.cell? ⟨g, j * 3 + 1, none⟩ = some (.string (ba X)) ∧ x.cell? ⟨g, j * 3 + 2, none⟩ = some (.int .i64 sy) ∧ x.cell? ⟨w1.heap.size, 0, none⟩ = some (.string tn) ∧ x.cell? ⟨w1.heap.size, 1, none⟩ = some (.int .i64 tk) ∧ x.cell? ⟨w1.heap.size, 2, none⟩ = some (.slice oa pw.length oc)) ((first | assumption | exact ⟨by assumption, by assumption, by assumption, by assumption, by assumption, by assumption⟩ | go_keep)) (first | (go_at_call 11; (first | with_reducible refine HL2.out.mono ?_ | with_reducible refine HL3.out.mono ?_); rintro e w3 ⟨rfl, hb3, hb3'⟩; have HB3 := hid hb3; have hs3 := HCE.out w3 hb3; have hk3 := hs3.1; have hk4 := hs3.2.1; have hk5 := hs3.2.2; have hk0 := (hb3'.cell (p := ⟨w1.heap.size, 0, none⟩) hBl).trans t0; have hk1 := (hb3'.cell (p := ⟨w1.heap.size, 1, none⟩) hBl).trans t1; have hk2 := (hb3'.cell (p := ⟨w1.heap.size, 2, none⟩) hBl).trans t2; clear hb3 hb3' hs3))
      have hLN : ((V.take j).map (crf fs) ++ (nm, (X, sy)) :: V.drop (j + 1)).length = N := HLEN.out
      have hk3r : Rk w3 d (.slice (some ⟨g, 0, none⟩) ((V.take j).map (crf fs) ++ (nm, (X, sy)) :: V.drop (j + 1)).length capl) rm cl cb ((V.take j).map (crf fs) ++ (nm, (X, sy)) :: V.drop (j + 1)) := by rw [hLN]; exact HKQ.out.1.ch (Ch.of_below (S := fun _ => False) HB3.out) (fun _ _ e => e)
      have P1 := fun m => Rk.put (y := (lft X sy tk pw, sy)) hk3r rfl 1 (.string (ba (lft X sy tk pw))) (by omega) rfl m
      have hLN2 : ((V.take j).map (crf fs) ++ (nm, (lft X sy tk pw, sy)) :: V.drop (j + 1)).length = N := by rw [← hLN]; simp
      rw [hLN, hlj] at P1
      have P2 : ∀ m1 m2, Rk ((((w3.drewN m1).setCell ⟨g, j * 3 + 1, none⟩ (.string (ba (lft X sy tk pw)))).drewN m2).setCell ⟨g, j * 3 + 2, none⟩ (.int .i64 (lft X sy tk pw).length)) d (.slice (some ⟨g, 0, none⟩) N capl) rm cl cb ((V.take j).map (crf fs) ++ (nm, (lft X sy tk pw, (lft X sy tk pw).length)) :: V.drop (j + 1)) := by
        intro m1 m2
        have hh := P1 m1
        rw [← hLN2] at hh
        have := Rk.put (y := (lft X sy tk pw, (lft X sy tk pw).length)) hh rfl 2 (.int .i64 (lft X sy tk pw).length) (by omega) rfl m2
        rw [hLN2, hlj] at this
        exact this
      have C1 := fun m => (P1 m).c1
      have F1 : ∀ m o, ((w3.drewN m).setCell ⟨g, j * 3 + 1, none⟩ (.string (ba (lft X sy tk pw)))).frozen? ⟨g, o, none⟩ = false := fun m o => by
        have hr := (P1 m).row
        rw [hLN2] at hr
        exact hr.frozenAt o
      have F0 : ∀ o, w3.frozen? ⟨g, o, none⟩ = false := fun o => by have hr := hk3r.row; rw [hLN] at hr; exact hr.frozenAt o
      have C2 : ∀ m, ((w3.drewN m).setCell ⟨g, j * 3 + 1, none⟩ (.string (ba (lft X sy tk pw)))).cell? ⟨g, j * 3 + 2, none⟩ = some (.int .i64 sy) := fun m => by
        have hr := (P1 m).row
        rw [hLN2] at hr
        rw [hr.cellAt _ (by omega)]
        have := rfs_at ((V.take j).map (crf fs)) (V.drop (j + 1)) (nm, (lft X sy tk pw, sy)) 2 (by omega)
        rw [hlj] at this
        exact this
      have HC : Hid (∀ m1 m2, Ch (Rt d (.slice (some ⟨g, 0, none⟩) N capl)) w ((((w3.drewN m1).setCell ⟨g, j * 3 + 1, none⟩ (.string (ba (lft X sy tk pw)))).drewN m2).setCell ⟨g, j * 3 + 2, none⟩ (.int .i64 (lft X sy tk pw).length))) := fun m1 m2 =>
        ((((HKQ.out.2.then (Ch.of_below (S := fun _ => False) HB3.out) (fun _ _ e => e.elim)).drewN m1).setCell ⟨g, j * 3 + 1, none⟩ _ (fun _ => Or.inr rfl)).drewN m2).setCell ⟨g, j * 3 + 2, none⟩ _ (fun _ => Or.inr rfl)
      have HP2 := hid P2
      have hsz := ba_size (lft X sy tk pw)
      have C1' : (w3.setCell ⟨g, j * 3 + 1, none⟩ (.string (ba (lft X sy tk pw)))).cell? ⟨d, 1, none⟩ = some (.slice (some ⟨g, 0, none⟩) N capl) := C1 0
      have C2' : (w3.setCell ⟨g, j * 3 + 1, none⟩ (.string (ba (lft X sy tk pw)))).cell? ⟨g, j * 3 + 2, none⟩ = some (.int .i64 sy) := C2 0
      have F1' : (w3.setCell ⟨g, j * 3 + 1, none⟩ (.string (ba (lft X sy tk pw)))).frozen? ⟨g, j * 3 + 2, none⟩ = false := F1 0 (j * 3 + 2)
      have F0' := F0 (j * 3 + 1)
      have HNW2 := HNW
      generalize lft X sy tk pw = L at *
      generalize ba L = LB at *
      generalize L.length = LN at *
      clear P1 P2 C1 C2 F1 F0 hLN hLN2 hk3r HKQ
      go_wp2_with fail
      go_roundg k
      case measure => omega
      case rel => exact ⟨j + 1, by omega, by first | exact congrArg (Value.int .i64) EW.out | rfl, ⟨by rw [HNW2.out]; exact HP2.out 0 0, HC.out 0 0⟩⟩
    · have hltD : decide ((j : Int) < N) = false := by simp; omega
      have e1 : V.take j = V := List.take_of_length_le (by rw [HN.out]; omega)
      have e2 : V.drop j = [] := List.drop_of_length_le (by rw [HN.out]; omega)
      have hq := HQ.out
      rw [e1, e2, List.append_nil] at hq
      have HE : Hid (RAft w (Rt d (.slice al N capl)) d rm cl cb (V.map (crf fs)) wr) := ⟨_, ⟨_, hq.1, rfl⟩, hq.2, fun _ hi => Or.inl hi⟩
      clear hq HQ
      go_wp2_with fail
      go_end0
      exact ⟨rfl, HE.out⟩
end Go.Proofs.Ythjbhfhdepepmaa
