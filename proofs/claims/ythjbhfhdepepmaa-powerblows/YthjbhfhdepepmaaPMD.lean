/- Texts of the proof, put together: Fto, Flo, Hrw, Hrm, Hra, Hpf, Whl, Alk, Hon. -/
import Derived.Test.YthjbhfhdepepmaaPen
import Derived.Test.YthjbhfhdepepmaaPMB
import Derived.Test.YthjbhfhdepepmaaPMC
namespace Go.Proofs.Ythjbhfhdepepmaa
open Go.ChangeShapes Go.WideShapes Go.ChangeAt Go.RowKit Go.Deep
/-- A list of fates that came in: where it lies, where each one's writes lie, how great they are. -/
structure FtIn (w : World) (a : Option Addr) (ms : List Ft3) (fs : List Ftp) : Prop where
  F : Fts w a ms
  len : ms.length = fs.length
  at1 : ∀ j, j < fs.length → (ms.getD j t00).1 = (fs.getD j p00).1 ∧ (ms.getD j t00).2.1 = (fs.getD j p00).2.1 ∧ (ms.getD j t00).2.2.2.1 = (fs.getD j p00).2.2.length ∧ Wrs w (ms.getD j t00).2.2.1 (fs.getD j p00).2.2 ∧ (fs.getD j p00).2.2.length ≤ 140737488355328 ∧ (∀ y ∈ (fs.getD j p00).2.2, WrOk y) ∧ (fs.getD j p00).1.size ≤ 140737488355328 ∧ (Lit.int .i64 (fs.getD j p00).2.1).wf = true
variable {H : Type} {enc : TypeId × Value → H} {W : World}
theorem Try.bFate : Try.prog.bytesOf 24 = 48 := by kernel_rfl
theorem open_fates {fuel : Nat} {cs : List Value} {x : DataW H × List MemPlace} (h : DataW.trod enc Try.prog W 0 (fun _ => true) true fuel 37 cs = some x) (hz : ∀ n ∈ x.1.weights Try.prog 37, n ≤ reachBytes) : ∃ (a : Option Addr) (cap : Nat) (ms : List Ft3) (fs : List Ftp), cs = [.slice a ms.length cap] ∧ FtIn W a ms fs ∧ ms.length ≤ 2932031007402 := by
  haveI : Inhabited (Ft3 × Ftp) := ⟨(t00, p00)⟩
  rcases open_slice Try.underlying37 h with ⟨hcs', hx⟩ | ⟨x', l, c, m, n, D, Pl, hcs', _, hl', hm, hmm, hx, hel⟩
  · exact ⟨none, 0, [], [], by simpa using hcs', ⟨Or.inl rfl, rfl, fun j hj => by simp at hj⟩, by simp⟩
  · simp only [if_true] at hmm
    subst hx
    simp only [DataW.weights, Try.underlying37, List.length_map, List.length_range, Try.bFate, List.mem_cons, List.mem_append] at hz
    have hl0 := hz _ (Or.inl rfl)
    have each : ∀ i, i < l → ∃ o : Ft3 × Ftp, W.cell? ((x'.add (i * 3)).add 0) = some (.string o.1.1) ∧ W.cell? ((x'.add (i * 3)).add 1) = some (.int .i64 o.1.2.1) ∧ W.cell? ((x'.add (i * 3)).add 2) = some (ovS o.1.2.2) ∧ o.1.1 = o.2.1 ∧ o.1.2.1 = o.2.2.1 ∧ o.1.2.2.2.1 = o.2.2.2.length ∧ Wrs W o.1.2.2.1 o.2.2.2 ∧ o.2.2.2.length ≤ 140737488355328 ∧ (∀ y ∈ o.2.2.2, WrOk y) ∧ o.2.1.size ≤ 140737488355328 ∧ (Lit.int .i64 o.2.2.1).wf = true := by
      intro i hi
      obtain ⟨cs', e1, e2⟩ := hel i (by omega)
      rw [Try.cFate] at e1
      obtain ⟨nm, kp, ao, co, ws, hcs, V, hl2, hk2, hn2, wf2⟩ := open_fate e2 (fun n hn => hz n (by
        first
        | exact Or.inr (Or.inl (w_mem_all (by simp; exact ⟨i, by omega, rfl⟩) n hn))
        | exact Or.inr (w_mem_all (by simp; exact ⟨i, by omega, rfl⟩) n hn)))
      have g := (World.cells?_some e1)
      refine ⟨((nm, kp, ao, ws.length, co), (nm, kp, ws)), ?_, ?_, ?_, rfl, rfl, rfl, V, hl2, hk2, hn2, wf2⟩
      · rw [g.2.2 0 (by omega), hcs]; rfl
      · rw [g.2.2 1 (by omega), hcs]; rfl
      · rw [g.2.2 2 (by omega), hcs]; rfl
    obtain ⟨f, hf⟩ := choose_lt each
    have eg : ∀ j, j < l → ((List.range l).map (fun i => (f i).1)).getD j t00 = (f j).1 := fun j hj => by
      rw [List.getD_eq_getElem?_getD, List.getElem?_map, List.getElem?_range hj]
      rfl
    have eg2 : ∀ j, j < l → ((List.range l).map (fun i => (f i).2)).getD j p00 = (f j).2 := fun j hj => by
      rw [List.getD_eq_getElem?_getD, List.getElem?_map, List.getElem?_range hj]
      rfl
    refine ⟨some x', c, (List.range l).map (fun i => (f i).1), (List.range l).map (fun i => (f i).2), by simpa using hcs', ⟨?_, by simp, ?_⟩, ?_⟩
    · by_cases h0 : l = 0
      · left; subst h0; rfl
      · right
        obtain ⟨b, off, spot⟩ := x'
        have h00 := (hf 0 (by omega)).1
        have hspot : spot = none := by simpa [Addr.add] using World.cell?_spot h00
        subst hspot
        have hlt := World.block_lt_of_cell? _ _ h00
        refine ⟨b, off, rfl, by simpa [Addr.add] using hlt, fun j hj => ?_⟩
        have hj' : j < l := by simpa using hj
        obtain ⟨k0, k1, k2, _⟩ := hf j hj'
        rw [Go.WideShapes.add_plain, Go.WideShapes.add_plain] at k0 k1 k2
        rw [eg j hj']
        exact ⟨by simpa using k0, k1, k2⟩
    · intro j hj
      have hj' : j < l := by simpa using hj
      obtain ⟨_, _, _, k3⟩ := hf j hj'
      rw [eg j hj', eg2 j hj']
      exact k3
    · simp only [List.length_map, List.length_range]
      unfold reachBytes at hl0
      omega
end Go.Proofs.Ythjbhfhdepepmaa
namespace Go.Proofs.Ythjbhfhdepepmaa
open Go.ChangeShapes Go.WideShapes Go.ChangeAt Go.RowKit Go.Deep
variable {H : Type} {enc : TypeId × Value → H} {W : World}
theorem Try.cFile : Try.prog.cellsOf 40 = 3 := by kernel_rfl
theorem Try.bFile : Try.prog.bytesOf 40 = 40 := by kernel_rfl
theorem Try.cStrF : Try.prog.cellsOf 9 = 1 := by kernel_rfl
theorem Try.cU16F : Try.prog.cellsOf 38 = 1 := by kernel_rfl
theorem w_mem_allF {P : Program} {e : TypeId} : ∀ {l : List (DataW H)} {d : DataW H}, d ∈ l → ∀ n ∈ d.weights P e, n ∈ DataW.weightsAll P e l
  | x :: l, d, h, n, hn => by
    simp only [DataW.weightsAll, List.mem_append]
    rcases List.mem_cons.1 h with rfl | h
    · exact Or.inl hn
    · exact Or.inr (w_mem_allF h n hn)
set_option maxRecDepth 40000 in
theorem open_file {fuel : Nat} {cs : List Value} {x : DataW H × List MemPlace} (h : DataW.trod enc Try.prog W 0 (fun _ => true) true fuel 40 cs = some x) (hz : ∀ n ∈ x.1.weights Try.prog 40, n ≤ reachBytes) : ∃ f : ByteArray × ByteArray × Nat, cs = [.string f.1, .string f.2.1, .int .u16 f.2.2] ∧ FlOk f := by
  obtain ⟨xs, n, _, rfl, hlen, hxs, hf⟩ := DataW.trod_struct Try.underlying40 h
  rw [Try.cFile] at hlen
  match xs, hxs with
  | [y0, y1, y2], _ =>
    have k0 : DataW.trod enc Try.prog W 0 (fun _ => true) true n 9 ((cs.drop 0).take (Try.prog.cellsOf 9)) = some y0 := hf 0 _ rfl
    have k1 : DataW.trod enc Try.prog W 0 (fun _ => true) true n 9 ((cs.drop 1).take (Try.prog.cellsOf 9)) = some y1 := hf 1 _ rfl
    have k2 : DataW.trod enc Try.prog W 0 (fun _ => true) true n 38 ((cs.drop 2).take (Try.prog.cellsOf 38)) = some y2 := hf 2 _ rfl
    rw [Try.cStrF] at k0 k1
    rw [Try.cU16F] at k2
    have hz' : ∀ n ∈ DataW.weightsEach Try.prog [9, 9, 38] [y0.1, y1.1, y2.1], n ≤ reachBytes := by
      have e : DataW.weights Try.prog 40 (DataW.agg (H := H) [y0.1, y1.1, y2.1]) = DataW.weightsEach Try.prog [9, 9, 38] [y0.1, y1.1, y2.1] := by
        simp only [DataW.weights, Try.underlying40]
        rfl
      rw [← e]
      exact hz
    obtain ⟨nm, q0, r0, w0⟩ := DataW.trod_string Try.underlying9 k0
    obtain ⟨da, q1, r1, w1⟩ := DataW.trod_string Try.underlying9 k1
    obtain ⟨sf, q2, r2, w2⟩ := DataW.trod_int Try.underlying38 k2
    have hnm := hz' nm.size (DataW.weights_mem_each (j := 0) (t := 9) (d := y0.1) rfl rfl _ (by rw [r0]; simp [DataW.weights]))
    have hda := hz' da.size (DataW.weights_mem_each (j := 1) (t := 9) (d := y1.1) rfl rfl _ (by rw [r1]; simp [DataW.weights]))
    have hb := bounds_u16 w2
    match cs, hlen with
    | [c0, c1, c2], _ =>
      simp at q0 q1 q2
      subst q0 q1 q2
      refine ⟨(nm, da, sf.toNat), ?_, ?_, ?_, ?_⟩
      · simp only
        rw [show ((sf.toNat : Nat) : Int) = sf from by omega]
      · unfold reachBytes at hnm; unfold maxLen; show nm.size ≤ _; omega
      · unfold reachBytes at hda; unfold maxLen; show da.size ≤ _; omega
      · show sf.toNat < 65536; omega
theorem open_files {fuel : Nat} {cs : List Value} {x : DataW H × List MemPlace} (h : DataW.trod enc Try.prog W 0 (fun _ => true) true fuel 31 cs = some x) (hz : ∀ n ∈ x.1.weights Try.prog 31, n ≤ reachBytes) : ∃ (a : Option Addr) (cap : Nat) (fs : List (ByteArray × ByteArray × Nat)), cs = [.slice a fs.length cap] ∧ Fls W a fs ∧ fs.length ≤ 9223372036854775806 ∧ ∀ f ∈ fs, FlOk f := by
  haveI : Inhabited (ByteArray × ByteArray × Nat) := ⟨f00⟩
  rcases open_slice Try.underlying31 h with ⟨hcs', hx⟩ | ⟨x', l, c, m, n, D, Pl, hcs', _, hl', hm, hmm, hx, hel⟩
  · exact ⟨none, 0, [], by simpa using hcs', Or.inl rfl, by simp, by simp⟩
  · simp only [if_true] at hmm
    subst hx
    simp only [DataW.weights, Try.underlying31, List.length_map, List.length_range, Try.bFile, List.mem_cons, List.mem_append] at hz
    have hl0 := hz _ (Or.inl rfl)
    have each : ∀ i, i < l → ∃ o : ByteArray × ByteArray × Nat, W.cell? ((x'.add (i * 3)).add 0) = some (.string o.1) ∧ W.cell? ((x'.add (i * 3)).add 1) = some (.string o.2.1) ∧ W.cell? ((x'.add (i * 3)).add 2) = some (.int .u16 o.2.2) ∧ FlOk o := by
      intro i hi
      obtain ⟨cs', e1, e2⟩ := hel i (by omega)
      rw [Try.cFile] at e1
      obtain ⟨o, hcs, hok⟩ := open_file e2 (fun n hn => hz n (by
        first
        | exact Or.inr (Or.inl (w_mem_allF (by simp; exact ⟨i, by omega, rfl⟩) n hn))
        | exact Or.inr (w_mem_allF (by simp; exact ⟨i, by omega, rfl⟩) n hn)))
      have g := (World.cells?_some e1)
      refine ⟨o, ?_, ?_, ?_, hok⟩
      · rw [g.2.2 0 (by omega), hcs]; rfl
      · rw [g.2.2 1 (by omega), hcs]; rfl
      · rw [g.2.2 2 (by omega), hcs]; rfl
    obtain ⟨f, hf⟩ := choose_lt each
    refine ⟨some x', c, (List.range l).map f, by simpa using hcs', ?_, ?_, ?_⟩
    · by_cases h0 : l = 0
      · left; subst h0; rfl
      · right
        obtain ⟨b, off, spot⟩ := x'
        have h00 := (hf 0 (by omega)).1
        have hspot : spot = none := by simpa [Addr.add] using World.cell?_spot h00
        subst hspot
        have hlt := World.block_lt_of_cell? _ _ h00
        refine ⟨b, off, rfl, by simpa [Addr.add] using hlt, fun j hj => ?_⟩
        have hj' : j < l := by simpa using hj
        obtain ⟨k0, k1, k2, _⟩ := hf j hj'
        rw [Go.WideShapes.add_plain, Go.WideShapes.add_plain] at k0 k1 k2
        have eg : ((List.range l).map f).getD j f00 = f j := by
          rw [List.getD_eq_getElem?_getD, List.getElem?_map, List.getElem?_range hj']
          rfl
        rw [eg]
        exact ⟨by simpa using k0, k1, k2⟩
    · simp only [List.length_map, List.length_range]
      unfold reachBytes at hl0
      omega
    · intro y hy
      simp only [List.mem_map, List.mem_range] at hy
      obtain ⟨i, hi, rfl⟩ := hy
      exact (hf i hi).2.2.2
end Go.Proofs.Ythjbhfhdepepmaa
namespace Go.Proofs.Ythjbhfhdepepmaa
open Go.RowKit
/-- How much of a write lies over what is there. -/
def wrN (L : Nat) (a : Int) (D : ByteArray) : Nat := min D.size (L - a.toNat)
/-- A disk behind one write of a harm. -/
def wrV (rm : Nat) (nm : ByteArray) (x : Int × ByteArray) (V : Vw) : Vw :=
  if x.1 < 0 ∨ (szN (vl nm V) : Int) < x.1 then V else apV nm rm (x.2.extract (wrN (szN (vl nm V)) x.1 x.2) x.2.size) (ovV nm x.1 (x.2.extract 0 (wrN (szN (vl nm V)) x.1 x.2)) V)
theorem SV.wr {rm : Nat} {V : Vw} (nm : ByteArray) (x : Int × ByteArray) (h : SV rm V) : SV rm (wrV rm nm x V) := by
  unfold wrV
  split
  · exact h
  · exact (h.ov nm _ _).ap nm _
theorem SV.szN {rm : Nat} {V : Vw} (nm : ByteArray) (h : SV rm V) : szN (vl nm V) ≤ 1073741824 := by
  cases hv : vl nm V with
  | none => simp [Go.Proofs.Ythjbhfhdepepmaa.szN]
  | some x => exact (h.at hv).1
/-- A disk that has turned since w, and a box of another type beside it. -/
def AfB (w : World) (ft : Nat → Prop) (d : Nat) (rm : Nat) (cl cb : Int) (V : Vw) (F : Nat) (c : Array Value) (T : TypeId) (wx : World) : Prop := Aft w ft d rm cl cb V wx ∧ wx.heap[F]? = some (.cells c T (0, 0))
section
variable {w wx wy : World} {ft : Nat → Prop} {d : Nat} {rm : Nat} {cl cb cl2 cb2 : Int} {V V2 : Vw} {F : Nat} {c : Array Value} {T : TypeId}
theorem AfB.kept (h : AfB w ft d rm cl cb V F c T wx) (hb : Below wx.heap.size wx wy) : AfB w ft d rm cl cb V F c T wy := ⟨h.1.kept hb, (hb.block F (lt_of_heap h.2)).trans h.2⟩
theorem AfB.drew (h : AfB w ft d rm cl cb V F c T wx) : AfB w ft d rm cl cb V F c T wx.drew := h.kept (Below.drew (Below.refl _ _))
theorem AfB.step (h : AfB w ft d rm cl cb V F c T wx) {f : FuncId} {args : Array Value} {v : Value} (hc : ∀ f1, Ds wx d f1 rm cl cb V → Calls Try.prog f args wx fun e w2 => e = .returned v ∧ Aft wx f1 d rm cl2 cb2 V2 w2) (h1 : T ≠ 5) (h2 : T ≠ 107) (h3 : T ≠ 109) :
    Calls Try.prog f args wx fun e w2 => e = .returned v ∧ AfB w ft d rm cl2 cb2 V2 F c T w2 := by
  refine (h.1.step hc).mono ?_
  rintro e w2 ⟨he, k1, k2⟩
  exact ⟨he, k1, k2 F _ _ _ h.2 h1 h2 h3⟩
theorem AfB.look (h : AfB w ft d rm cl cb V F c T wx) {f : FuncId} {args : Array Value} {v : Value} (hc : ∀ f1, Ds wx d f1 rm cl cb V → Calls Try.prog f args wx fun e w2 => e = .returned v ∧ ∃ k, w2 = wx.drewN k) (h1 : T ≠ 5) (h2 : T ≠ 107) (h3 : T ≠ 109) :
    Calls Try.prog f args wx fun e w2 => e = .returned v ∧ AfB w ft d rm cl cb V F c T w2 := by
  refine (h.1.look hc).mono ?_
  rintro e w2 ⟨he, k1, k2⟩
  exact ⟨he, k1, k2 F _ _ _ h.2 h1 h2 h3⟩
end
set_option maxHeartbeats 4000000 in
set_option maxRecDepth 20000 in
theorem hwrite_any (d : Nat) (ft : Nat → Prop) (rm : Nat) (cl cb : Int) (V : Vw) (nm : ByteArray) (a : Int) (D : ByteArray) (w : World) (h : Ds w d ft rm cl cb V) (hs : SV rm V) (hn : nm.size ≤ maxLen) (hok : WrOk (a, D)) :
    Calls Try.prog 79 #[.pointer (some ⟨d, 0, none⟩), .string nm, .agg #[.int .i64 a, .string D]] w fun e w' => e = .returned (.tuple #[]) ∧ Aft w ft d rm cl cb (wrV rm nm (a, D) V) w' := by
  have hL := hs.szN nm
  have SZ : Hid (∀ (wx : World) f1, Ds wx d f1 rm cl cb V → Calls Try.prog 36 #[.pointer (some ⟨d, 0, none⟩), .string nm] wx fun e w' => e = .returned (.tuple #[.int .i64 (szN (vl nm V)), .int .i64 (noE (vl nm V))]) ∧ ∃ k, w' = wx.drewN k) := fun wx f1 h1 => s_size d f1 rm cl cb _ nm wx h1 hn
  have HN := hid hn
  have HWV : Hid (∀ X, (¬ (a < 0 ∨ (szN (vl nm V) : Int) < a) → X = apV nm rm (D.extract (wrN (szN (vl nm V)) a D) D.size) (ovV nm a (D.extract 0 (wrN (szN (vl nm V)) a D)) V)) → (a < 0 ∨ (szN (vl nm V) : Int) < a → X = V) → X = wrV rm nm (a, D) V) := by
    intro X h1 h2
    unfold wrV
    split
    · exact h2 (by assumption)
    · exact h1 (by assumption)
  generalize szN (vl nm V) = L at *
  generalize noE (vl nm V) = E at *
  obtain ⟨o1, o2, o3⟩ := hok
  simp only at o1 o2 o3
  obtain ⟨wA, hwA⟩ : ∃ wA, wA = w.alloc (Obj.cells #[.int .i64 a, .string D] 69) := ⟨_, rfl⟩
  have hA := heap_new w (Obj.cells #[.int .i64 a, .string D] 69)
  rw [← hwA] at hA
  have HAF : Hid (AfB w ft d rm cl cb V w.heap.size #[.int .i64 a, .string D] 69 wA) := ⟨(Aft.start h).kept (by rw [hwA]; exact bel_alloc _ _), hA⟩
  have hwA' := hwA.symm
  clear hwA hA h hs hn
  go_enter Try.func79, Try.ntmps79
  go_wp2_with fail
  refine (HAF.out.look (fun f1 h1 => SZ.out _ f1 h1) (by decide) (by decide) (by decide)).mono ?_
  rintro e w1 ⟨rfl, hf1⟩
  have HF1 := hid hf1
  clear hf1 HAF SZ
  have a0 : w1.cell? ⟨w.heap.size, 0, none⟩ = some (.int .i64 a) := (cell_of HF1.out.2).trans rfl
  have a1 : w1.cell? ⟨w.heap.size, 1, none⟩ = some (.string D) := (cell_of HF1.out.2).trans rfl
  by_cases h0 : a < 0
  · go_wp2_with fail
    refine bodyPost_ret (v := .tuple #[]) (by simp [results, Try.results79, go_sem]) rfl ⟨rfl, ?_⟩
    rw [← HWV.out V (fun hx => absurd (Or.inl h0) hx) (fun _ => rfl)]
    exact HF1.out.1
  · by_cases h1 : (L : Int) < a
    · go_wp2_with fail
      refine bodyPost_ret (v := .tuple #[]) (by simp [results, Try.results79, go_sem]) rfl ⟨rfl, ?_⟩
      rw [← HWV.out V (fun hx => absurd (Or.inr h1) hx) (fun _ => rfl)]
      exact HF1.out.1
    · obtain ⟨p, rfl⟩ : ∃ p : Nat, a = p := ⟨a.toNat, by omega⟩
      obtain ⟨n, hnd⟩ : ∃ n, n = wrN L (p : Int) D := ⟨_, rfl⟩
      have hnle : n ≤ D.size := by rw [hnd]; unfold wrN; omega
      have hnI : min (D.size : Int) ((L : Int) - p) = (n : Int) := by rw [hnd]; unfold wrN; simp only [Int.toNat_natCast]; omega
      have hnW : min (D.size : Int) (wrap64 ((L : Int) - p)) = (n : Int) := by rw [← hnI]; unfold wrap64; omega
      have hwp : wrap64 ((L : Int) - p) = (L : Int) - p := by unfold wrap64; omega
      have hnIle : (n : Int) ≤ D.size := by omega
      have HWV2 : Hid (apV nm rm (D.extract n D.size) (ovV nm p (D.extract 0 n) V) = wrV rm nm ((p : Int), D) V) := HWV.out _ (fun _ => by rw [hnd]) (fun hx => by omega)
      have HNL := hid (And.intro hnd hnle)
      have HP := hid (show (p : Int) ≤ 9223372036854775807 by omega)
      clear HWV hnd hnle
      generalize hV1 : ovV nm p (D.extract 0 n) V = V1 at *
      have HV1 := hid hV1
      clear hV1
      go_wp2_with fail
      go_region_held3 (fun x => x.cell? ⟨w.heap.size, 0, none⟩ = some (.int .i64 p) ∧ x.cell? ⟨w.heap.size, 1, none⟩ = some (.string D)) ((first | assumption | exact ⟨by assumption, by assumption⟩ | go_keep)) ((go_at_call 81; refine ((show AfB w ft d rm cl cb V w.heap.size #[.int .i64 p, .string D] 69 _ from (by first | exact HF1.out | exact HF1.out.drew)).step (fun f1 h1 => s_over d f1 rm cl cb _ nm _ h1 (p : Int) (D.extract 0 n) HN.out HP.out) (by decide) (by decide) (by decide)).mono ?_; rintro e w5 ⟨rfl, hf5⟩; have b0 : w5.cell? ⟨w.heap.size, 0, none⟩ = some (.int .i64 p) := (cell_of hf5.2).trans rfl; have b1 : w5.cell? ⟨w.heap.size, 1, none⟩ = some (.string D) := (cell_of hf5.2).trans rfl))
      rw [HV1.out] at hf5
      have HF5 := hid hf5
      clear hf5 HF1 a0 a1
      go_wp2_with fail
      refine (HF5.out.step (fun f1 h1 => s_append d f1 rm cl cb _ nm _ h1 (D.extract n D.size) HN.out) (by decide) (by decide) (by decide)).mono ?_
      rintro e w6 ⟨rfl, hf6⟩
      have HF6 := hid hf6
      clear hf6 HF5 b0 b1
      go_wp2_with fail
      go_end0
      exact ⟨rfl, by rw [← HWV2.out]; exact HF6.out.1⟩
end Go.Proofs.Ythjbhfhdepepmaa
namespace Go.Proofs.Ythjbhfhdepepmaa
open Go.RowKit
/-- Writes of a harm, one behind the other. -/
def wrs (rm : Nat) (nm : ByteArray) (ws : List (Int × ByteArray)) (V : Vw) : Vw := ws.foldl (fun V x => wrV rm nm x V) V
/-- A disk behind one harm. -/
def hmV (rm : Nat) (f : Ftp) (V : Vw) : Vw := if f.2.1 < 0 then vdel f.1 V else wrs rm f.1 f.2.2 (cuV f.1 f.2.1 (crV f.1 V))
theorem SV.wrs {rm : Nat} (nm : ByteArray) (ws : List (Int × ByteArray)) : ∀ {V : Vw}, SV rm V → SV rm (wrs rm nm ws V) := by
  induction ws with
  | nil => exact fun h => h
  | cons x ws ih => exact fun h => ih (h.wr nm x)
theorem SV.hm {rm : Nat} {V : Vw} (f : Ftp) (h : SV rm V) : SV rm (hmV rm f V) := by
  unfold hmV
  split
  · exact h.del _
  · exact ((h.cr _).cu _ _).wrs _ _
theorem vset_same {rm : Nat} {nm : ByteArray} {V : Vw} {x : List UInt8 × Nat} (h : SV rm V) (hv : vl nm V = some x) : vset nm x V = V := by
  obtain ⟨l, r, rfl, k1, k2⟩ := split_some h.srt hv
  exact vset_mid k1 k2
theorem cu_id {rm : Nat} {nm : ByteArray} {V : Vw} {kp : Int} (h : SV rm V) (hk : (szN (vl nm V) : Int) ≤ kp) : cuV nm kp V = V := by
  unfold cuV
  cases hv : vl nm V with
  | none => rfl
  | some x =>
    rw [hv] at hk
    simp only [szN] at hk
    simp only
    split
    · rename_i h5
      unfold has5 at h5
      have h5' := of_decide_eq_true h5
      have e : kp.toNat = x.1.length := by omega
      rw [e, List.take_length, Nat.min_eq_left (h.at hv).2.1]
      exact vset_same h hv
    · rfl
theorem cr_some {nm : ByteArray} {V : Vw} {x : List UInt8 × Nat} (hv : vl nm V = some x) : crV nm V = V := by
  unfold crV
  rw [if_neg]
  unfold crE
  rw [hv]
  split <;> simp
theorem cr_new {rm : Nat} {nm : ByteArray} {V : Vw} (h : SV rm V) (hv : vl nm V = none) (hE : crE nm V = 0) : vl nm (crV nm V) = some ([], 0) := by
  unfold crV
  rw [if_pos hE]
  obtain ⟨l, r, rfl, k1, k2⟩ := split_none h.srt (vl_none_ne hv)
  rw [vins_mid k1 k2]
  exact vl_mid k1
theorem wr_none {rm : Nat} {nm : ByteArray} {V : Vw} (hv : vl nm V = none) (x : Int × ByteArray) : wrV rm nm x V = V := by
  unfold wrV
  split
  · rfl
  · have : ∀ a s, ovV nm a s V = V := fun a s => by unfold ovV; rw [hv]
    rw [this]
    unfold apV
    rw [hv]
theorem wrs_none {rm : Nat} {nm : ByteArray} {V : Vw} (hv : vl nm V = none) (ws : List (Int × ByteArray)) : wrs rm nm ws V = V := by
  induction ws with
  | nil => rfl
  | cons x ws ih => show wrs rm nm ws (wrV rm nm x V) = V; rw [wr_none hv, ih]
theorem wrs_at {rm : Nat} {nm : ByteArray} {V : Vw} {ws : List (Int × ByteArray)} {j : Nat} (hj : j < ws.length) : wrs rm nm (ws.take (j + 1)) V = wrV rm nm (ws.getD j w00) (wrs rm nm (ws.take j) V) := by
  unfold wrs
  rw [List.take_succ_eq_append_getElem hj, List.foldl_append, List.getD_eq_getElem?_getD, List.getElem?_eq_getElem hj]
  rfl
set_option maxHeartbeats 4000000 in
set_option maxRecDepth 20000 in
theorem harm1_any (d : Nat) (ft : Nat → Prop) (rm : Nat) (cl cb : Int) (V : Vw) (nm : ByteArray) (kp : Int) (a : Option Addr) (cap : Nat) (ws : List (Int × ByteArray)) (w : World) (h : Ds w d ft rm cl cb V) (hs : SV rm V) (hn : nm.size ≤ maxLen)
    (hw : Wrs w a ws) (hwf : ∀ b off, a = some ⟨b, off, none⟩ → ws ≠ [] → ¬ ft b) (hlw : ws.length ≤ 140737488355328) (hok : ∀ x ∈ ws, WrOk x) :
    Calls Try.prog 55 #[.pointer (some ⟨d, 0, none⟩), .agg #[.string nm, .int .i64 kp, .slice a ws.length cap]] w fun e w' => e = .returned (.tuple #[]) ∧ Aft w ft d rm cl cb (hmV rm (nm, kp, ws) V) w' := by
  have HS := hid hs
  have HNm := hid hn
  have HW := hid hw
  have HWF := hid hwf
  have HOK := hid hok
  generalize hN : ws.length = N at *
  have HN := hid hN
  clear hN hs hn hw hwf hok
  obtain ⟨wA, hwA⟩ : ∃ wA, wA = w.alloc (Obj.cells #[.string nm, .int .i64 kp, .slice a N cap] 24) := ⟨_, rfl⟩
  have hA := heap_new w (Obj.cells #[.string nm, .int .i64 kp, .slice a N cap] 24)
  rw [← hwA] at hA
  have HAF : Hid (AfB w ft d rm cl cb V w.heap.size #[.string nm, .int .i64 kp, .slice a N cap] 24 wA) := ⟨(Aft.start h).kept (by rw [hwA]; exact bel_alloc _ _), hA⟩
  have hwA' := hwA.symm
  have a0 : wA.cell? ⟨w.heap.size, 0, none⟩ = some (.string nm) := (cell_of HAF.out.2).trans rfl
  have a1 : wA.cell? ⟨w.heap.size, 1, none⟩ = some (.int .i64 kp) := (cell_of HAF.out.2).trans rfl
  clear hwA hA h
  have SZ : Hid (∀ (wx : World) f1, Ds wx d f1 rm cl cb V → Calls Try.prog 36 #[.pointer (some ⟨d, 0, none⟩), .string nm] wx fun e w' => e = .returned (.tuple #[.int .i64 (szN (vl nm V)), .int .i64 (noE (vl nm V))]) ∧ ∃ k, w' = wx.drewN k) := fun wx f1 h1 => s_size d f1 rm cl cb _ nm wx h1 HNm.out
  by_cases h0 : kp < 0
  · have HM : Hid (hmV rm (nm, kp, ws) V = vdel nm V) := if_pos h0
    go_enter Try.func55, Try.ntmps55
    go_wp2_with fail
    refine (HAF.out.step (fun f1 h1 => s_remove d f1 rm cl cb _ nm _ h1 HNm.out) (by decide) (by decide) (by decide)).mono ?_
    rintro e w1 ⟨rfl, hf1⟩
    have HF1 := hid hf1
    clear hf1 HAF
    go_wp2_with fail
    refine bodyPost_ret (v := .tuple #[]) (by simp [results, Try.results55, go_sem]) rfl ⟨rfl, ?_⟩
    rw [HM.out]
    exact HF1.out.1
  · have HM : Hid (hmV rm (nm, kp, ws) V = wrs rm nm ws (cuV nm kp (crV nm V))) := if_neg h0
    cases hv : vl nm V with
    | some x =>
      have hL := (HS.out.at hv).1
      rw [hv] at SZ
      simp only [szN, noE] at SZ
      have HL : Hid (szN (vl nm V) = x.1.length) := by rw [hv]; rfl
      rw [cr_some hv] at HM
      clear hv
      generalize x.1.length = L at *
      go_enter Try.func55, Try.ntmps55
      go_wp2_with fail
      refine (HAF.out.look (fun f1 h1 => SZ.out _ f1 h1) (by decide) (by decide) (by decide)).mono ?_
      rintro e w1 ⟨rfl, hf1⟩
      have HF1 := hid hf1
      clear hf1 HAF SZ a0 a1
      have a0 : w1.cell? ⟨w.heap.size, 0, none⟩ = some (.string nm) := (cell_of HF1.out.2).trans rfl
      have a1 : w1.cell? ⟨w.heap.size, 1, none⟩ = some (.int .i64 kp) := (cell_of HF1.out.2).trans rfl
      have a2 : w1.cell? ⟨w.heap.size, 2, none⟩ = some (.slice a N cap) := (cell_of HF1.out.2).trans rfl
      by_cases hk : kp < (L : Int)
      · go_wp2_with fail
        refine (HF1.out.step (fun f1 h1 => s_cut d f1 rm cl cb _ nm _ h1 kp HNm.out) (by decide) (by decide) (by decide)).mono ?_
        rintro e w2 ⟨rfl, hf2⟩
        have HF2 := hid hf2
        clear hf2 HF1 a0 a1 a2
        have a0 : w2.cell? ⟨w.heap.size, 0, none⟩ = some (.string nm) := (cell_of HF2.out.2).trans rfl
        have a1 : w2.cell? ⟨w.heap.size, 1, none⟩ = some (.int .i64 kp) := (cell_of HF2.out.2).trans rfl
        have a2 : w2.cell? ⟨w.heap.size, 2, none⟩ = some (.slice a N cap) := (cell_of HF2.out.2).trans rfl
        have HSV2 : Hid (SV rm (cuV nm kp V)) := HS.out.cu _ _
        have hbN : (N : Int) ≤ 140737488355328 := by omega
        go_wp2_with fail
        go_loopg [44] N (fun k i wr => ∃ (j : Nat), j + k = N ∧ i = .int .i64 j ∧ Hid (AfB w ft d rm cl cb (wrs rm nm (ws.take j) (cuV nm kp V)) w.heap.size #[.string nm, .int .i64 kp, .slice a N cap] 24 wr))
        case atStart => exact ⟨0, by omega, rfl, HF2⟩
        case round =>
          clear HF2 a0 a1 a2
          obtain ⟨j, hk, rfl, HQ⟩ := hrel
          by_cases hlt : j < N
          · obtain ⟨k, rfl⟩ : ∃ k, gk = k + 1 := ⟨gk - 1, by omega⟩
            have hltD : decide ((j : Int) < N) = true := by simp; omega
            have hltI : (j : Int) < N := by omega
            have EW : Hid (wrap64 ((j : Int) + 1) = ((j + 1 : Nat) : Int)) := by show _ = _; unfold wrap64; omega
            rcases HW.out with rfl | ⟨bk, off, rfl, hbl', hcl'⟩
            · exact absurd hlt (by rw [← HN.out]; simp)
            obtain ⟨q0, q1⟩ := hcl' j (by rw [HN.out]; exact hlt)
            have hbb : wr.heap[bk]? = w.heap[bk]? := HQ.out.1.blk hbl' (HWF.out bk off rfl (fun e => by have h3 := HN.out; rw [e] at h3; simp at h3; omega))
            have hcc : ∀ o, wr.cell? ⟨bk, o, none⟩ = w.cell? ⟨bk, o, none⟩ := fun o => by simp only [World.cell?, hbb]
            rw [← hcc] at q0 q1
            have hok := HOK.out (ws.getD j w00) (by rw [List.getD_eq_getElem?_getD, List.getElem?_eq_getElem (by rw [HN.out]; exact hlt)]; exact List.getElem_mem _)
            have HE : Hid (_ = _) := wrs_at (rm := rm) (nm := nm) (V := (cuV nm kp V)) (ws := ws) (j := j) (by rw [HN.out]; exact hlt)
            generalize ws.getD j w00 = x at *
            obtain ⟨at', D'⟩ := x
            simp only at q0 q1
            obtain ⟨wa, hwa⟩ : ∃ wa, wa = wr.alloc (Obj.cells #[.int .i64 at', .string D'] 69) := ⟨_, rfl⟩
            have hF := heap_new wr (Obj.cells #[.int .i64 at', .string D'] 69)
            rw [← hwa] at hF
            have f0 : wa.cell? ⟨wr.heap.size, 0, none⟩ = some (.int .i64 at') := (cell_of hF).trans rfl
            have f1 : wa.cell? ⟨wr.heap.size, 1, none⟩ = some (.string D') := (cell_of hF).trans rfl
            have hba : Below wr.heap.size wr wa := by rw [hwa]; exact bel_alloc _ _
            have HQa := hid (HQ.out.kept hba)
            have g0 : wa.cell? ⟨w.heap.size, 0, none⟩ = some (.string nm) := (cell_of HQa.out.2).trans rfl
            have HCA := hid (HQa.out.step (fun f1 h1 => hwrite_any d f1 rm cl cb _ nm at' D' _ h1 (HSV2.out.wrs nm _) HNm.out hok) (by decide) (by decide) (by decide))
            rw [← HE.out] at HCA
            have HJ := hid hk
            have hwa' := hwa.symm
            clear hwa hcl' HQ hF hba hcc hbb hbl' hk hlt HQa hok
            go_wp2_with (go_at_call 79; refine HCA.out.mono ?_; rintro e w4 ⟨rfl, hq4⟩; have HQ4 := hid hq4; clear hq4)
            go_roundg k
            case measure => have := HJ.out; omega
            case rel => exact ⟨j + 1, by have := HJ.out; omega, by first | exact congrArg (Value.int .i64) EW.out | rfl, HQ4⟩
          · have hltD : decide ((j : Int) < N) = false := by simp; omega
            have hltI : ¬ (j : Int) < N := by omega
            have HJ : Hid (ws.take j = ws) := List.take_of_length_le (by rw [HN.out]; omega)
            rw [HJ.out] at HQ
            go_wp2_with fail
            go_end0
            exact ⟨rfl, by rw [HM.out]; exact HQ.out.1⟩
      · have HC : Hid (cuV nm kp V = V) := cu_id HS.out (by rw [HL.out]; omega)
        rw [HC.out] at HM
        have HSV2 : Hid (SV rm V) := HS.out
        have hbN : (N : Int) ≤ 140737488355328 := by omega
        go_wp2_with fail
        go_loopg [44] N (fun k i wr => ∃ (j : Nat), j + k = N ∧ i = .int .i64 j ∧ Hid (AfB w ft d rm cl cb (wrs rm nm (ws.take j) V) w.heap.size #[.string nm, .int .i64 kp, .slice a N cap] 24 wr))
        case atStart => exact ⟨0, by omega, rfl, HF1⟩
        case round =>
          clear HF1 a0 a1 a2
          obtain ⟨j, hk, rfl, HQ⟩ := hrel
          by_cases hlt : j < N
          · obtain ⟨k, rfl⟩ : ∃ k, gk = k + 1 := ⟨gk - 1, by omega⟩
            have hltD : decide ((j : Int) < N) = true := by simp; omega
            have hltI : (j : Int) < N := by omega
            have EW : Hid (wrap64 ((j : Int) + 1) = ((j + 1 : Nat) : Int)) := by show _ = _; unfold wrap64; omega
            rcases HW.out with rfl | ⟨bk, off, rfl, hbl', hcl'⟩
            · exact absurd hlt (by rw [← HN.out]; simp)
            obtain ⟨q0, q1⟩ := hcl' j (by rw [HN.out]; exact hlt)
            have hbb : wr.heap[bk]? = w.heap[bk]? := HQ.out.1.blk hbl' (HWF.out bk off rfl (fun e => by have h3 := HN.out; rw [e] at h3; simp at h3; omega))
            have hcc : ∀ o, wr.cell? ⟨bk, o, none⟩ = w.cell? ⟨bk, o, none⟩ := fun o => by simp only [World.cell?, hbb]
            rw [← hcc] at q0 q1
            have hok := HOK.out (ws.getD j w00) (by rw [List.getD_eq_getElem?_getD, List.getElem?_eq_getElem (by rw [HN.out]; exact hlt)]; exact List.getElem_mem _)
            have HE : Hid (_ = _) := wrs_at (rm := rm) (nm := nm) (V := V) (ws := ws) (j := j) (by rw [HN.out]; exact hlt)
            generalize ws.getD j w00 = x at *
            obtain ⟨at', D'⟩ := x
            simp only at q0 q1
            obtain ⟨wa, hwa⟩ : ∃ wa, wa = wr.alloc (Obj.cells #[.int .i64 at', .string D'] 69) := ⟨_, rfl⟩
            have hF := heap_new wr (Obj.cells #[.int .i64 at', .string D'] 69)
            rw [← hwa] at hF
            have f0 : wa.cell? ⟨wr.heap.size, 0, none⟩ = some (.int .i64 at') := (cell_of hF).trans rfl
            have f1 : wa.cell? ⟨wr.heap.size, 1, none⟩ = some (.string D') := (cell_of hF).trans rfl
            have hba : Below wr.heap.size wr wa := by rw [hwa]; exact bel_alloc _ _
            have HQa := hid (HQ.out.kept hba)
            have g0 : wa.cell? ⟨w.heap.size, 0, none⟩ = some (.string nm) := (cell_of HQa.out.2).trans rfl
            have HCA := hid (HQa.out.step (fun f1 h1 => hwrite_any d f1 rm cl cb _ nm at' D' _ h1 (HSV2.out.wrs nm _) HNm.out hok) (by decide) (by decide) (by decide))
            rw [← HE.out] at HCA
            have HJ := hid hk
            have hwa' := hwa.symm
            clear hwa hcl' HQ hF hba hcc hbb hbl' hk hlt HQa hok
            go_wp2_with (go_at_call 79; refine HCA.out.mono ?_; rintro e w4 ⟨rfl, hq4⟩; have HQ4 := hid hq4; clear hq4)
            go_roundg k
            case measure => have := HJ.out; omega
            case rel => exact ⟨j + 1, by have := HJ.out; omega, by first | exact congrArg (Value.int .i64) EW.out | rfl, HQ4⟩
          · have hltD : decide ((j : Int) < N) = false := by simp; omega
            have hltI : ¬ (j : Int) < N := by omega
            have HJ : Hid (ws.take j = ws) := List.take_of_length_le (by rw [HN.out]; omega)
            rw [HJ.out] at HQ
            go_wp2_with fail
            go_end0
            exact ⟨rfl, by rw [HM.out]; exact HQ.out.1⟩
    | none =>
      rw [hv] at SZ
      simp only [szN, noE] at SZ
      cases hE : crE nm V with
      | zero =>
        have hn := cr_new HS.out hv hE
        have HC : Hid (cuV nm kp (crV nm V) = crV nm V) := cu_id (HS.out.cr nm) (by rw [hn]; simp only [szN, List.length_nil]; omega)
        rw [HC.out] at HM
        have HCr : Hid (∀ (wx : World) f1, Ds wx d f1 rm cl cb V → Calls Try.prog 28 #[.pointer (some ⟨d, 0, none⟩), .string nm] wx fun e w' => e = .returned (.int .i64 0) ∧ Aft wx f1 d rm cl cb (crV nm V) w') := fun wx f1 h1 => by
          have h2 := s_create d f1 rm cl cb V nm wx h1 HNm.out
          rw [hE] at h2
          exact h2
        clear hv hE hn HC
        go_enter Try.func55, Try.ntmps55
        go_wp2_with fail
        refine (HAF.out.look (fun f1 h1 => SZ.out _ f1 h1) (by decide) (by decide) (by decide)).mono ?_
        rintro e w1 ⟨rfl, hf1⟩
        have HF1 := hid hf1
        clear hf1 HAF SZ a0 a1
        have a0 : w1.cell? ⟨w.heap.size, 0, none⟩ = some (.string nm) := (cell_of HF1.out.2).trans rfl
        have a1 : w1.cell? ⟨w.heap.size, 1, none⟩ = some (.int .i64 kp) := (cell_of HF1.out.2).trans rfl
        go_wp2_with fail
        refine (HF1.out.step (fun f1 h1 => HCr.out _ f1 h1) (by decide) (by decide) (by decide)).mono ?_
        rintro e w2 ⟨rfl, hf2⟩
        have HF2 := hid hf2
        clear hf2 HF1 HCr a0 a1
        have a0 : w2.cell? ⟨w.heap.size, 0, none⟩ = some (.string nm) := (cell_of HF2.out.2).trans rfl
        have a1 : w2.cell? ⟨w.heap.size, 1, none⟩ = some (.int .i64 kp) := (cell_of HF2.out.2).trans rfl
        have a2 : w2.cell? ⟨w.heap.size, 2, none⟩ = some (.slice a N cap) := (cell_of HF2.out.2).trans rfl
        have HSV2 : Hid (SV rm (crV nm V)) := HS.out.cr _
        have hbN : (N : Int) ≤ 140737488355328 := by omega
        go_wp2_with fail
        go_loopg [44] N (fun k i wr => ∃ (j : Nat), j + k = N ∧ i = .int .i64 j ∧ Hid (AfB w ft d rm cl cb (wrs rm nm (ws.take j) (crV nm V)) w.heap.size #[.string nm, .int .i64 kp, .slice a N cap] 24 wr))
        case atStart => exact ⟨0, by omega, rfl, HF2⟩
        case round =>
          clear HF2 a0 a1 a2
          obtain ⟨j, hk, rfl, HQ⟩ := hrel
          by_cases hlt : j < N
          · obtain ⟨k, rfl⟩ : ∃ k, gk = k + 1 := ⟨gk - 1, by omega⟩
            have hltD : decide ((j : Int) < N) = true := by simp; omega
            have hltI : (j : Int) < N := by omega
            have EW : Hid (wrap64 ((j : Int) + 1) = ((j + 1 : Nat) : Int)) := by show _ = _; unfold wrap64; omega
            rcases HW.out with rfl | ⟨bk, off, rfl, hbl', hcl'⟩
            · exact absurd hlt (by rw [← HN.out]; simp)
            obtain ⟨q0, q1⟩ := hcl' j (by rw [HN.out]; exact hlt)
            have hbb : wr.heap[bk]? = w.heap[bk]? := HQ.out.1.blk hbl' (HWF.out bk off rfl (fun e => by have h3 := HN.out; rw [e] at h3; simp at h3; omega))
            have hcc : ∀ o, wr.cell? ⟨bk, o, none⟩ = w.cell? ⟨bk, o, none⟩ := fun o => by simp only [World.cell?, hbb]
            rw [← hcc] at q0 q1
            have hok := HOK.out (ws.getD j w00) (by rw [List.getD_eq_getElem?_getD, List.getElem?_eq_getElem (by rw [HN.out]; exact hlt)]; exact List.getElem_mem _)
            have HE : Hid (_ = _) := wrs_at (rm := rm) (nm := nm) (V := (crV nm V)) (ws := ws) (j := j) (by rw [HN.out]; exact hlt)
            generalize ws.getD j w00 = x at *
            obtain ⟨at', D'⟩ := x
            simp only at q0 q1
            obtain ⟨wa, hwa⟩ : ∃ wa, wa = wr.alloc (Obj.cells #[.int .i64 at', .string D'] 69) := ⟨_, rfl⟩
            have hF := heap_new wr (Obj.cells #[.int .i64 at', .string D'] 69)
            rw [← hwa] at hF
            have f0 : wa.cell? ⟨wr.heap.size, 0, none⟩ = some (.int .i64 at') := (cell_of hF).trans rfl
            have f1 : wa.cell? ⟨wr.heap.size, 1, none⟩ = some (.string D') := (cell_of hF).trans rfl
            have hba : Below wr.heap.size wr wa := by rw [hwa]; exact bel_alloc _ _
            have HQa := hid (HQ.out.kept hba)
            have g0 : wa.cell? ⟨w.heap.size, 0, none⟩ = some (.string nm) := (cell_of HQa.out.2).trans rfl
            have HCA := hid (HQa.out.step (fun f1 h1 => hwrite_any d f1 rm cl cb _ nm at' D' _ h1 (HSV2.out.wrs nm _) HNm.out hok) (by decide) (by decide) (by decide))
            rw [← HE.out] at HCA
            have HJ := hid hk
            have hwa' := hwa.symm
            clear hwa hcl' HQ hF hba hcc hbb hbl' hk hlt HQa hok
            go_wp2_with (go_at_call 79; refine HCA.out.mono ?_; rintro e w4 ⟨rfl, hq4⟩; have HQ4 := hid hq4; clear hq4)
            go_roundg k
            case measure => have := HJ.out; omega
            case rel => exact ⟨j + 1, by have := HJ.out; omega, by first | exact congrArg (Value.int .i64) EW.out | rfl, HQ4⟩
          · have hltD : decide ((j : Int) < N) = false := by simp; omega
            have hltI : ¬ (j : Int) < N := by omega
            have HJ : Hid (ws.take j = ws) := List.take_of_length_le (by rw [HN.out]; omega)
            rw [HJ.out] at HQ
            go_wp2_with fail
            go_end0
            exact ⟨rfl, by rw [HM.out]; exact HQ.out.1⟩
      | succ m =>
        have hc : crV nm V = V := by unfold crV; rw [if_neg]; omega
        have hcu : cuV nm kp V = V := by unfold cuV; rw [hv]
        rw [hc, hcu, wrs_none hv] at HM
        have HCr : Hid (∀ (wx : World) f1, Ds wx d f1 rm cl cb V → Calls Try.prog 28 #[.pointer (some ⟨d, 0, none⟩), .string nm] wx fun e w' => e = .returned (.int .i64 ((m + 1 : Nat) : Int)) ∧ Aft wx f1 d rm cl cb V w') := fun wx f1 h1 => by
          have h2 := s_create d f1 rm cl cb V nm wx h1 HNm.out
          rw [hE, hc] at h2
          exact h2
        have hm0 : ¬ ((m + 1 : Nat) : Int) = 0 := by omega
        generalize ((m + 1 : Nat) : Int) = E at *
        clear hv hE hc hcu
        go_enter Try.func55, Try.ntmps55
        go_wp2_with fail
        refine (HAF.out.look (fun f1 h1 => SZ.out _ f1 h1) (by decide) (by decide) (by decide)).mono ?_
        rintro e w1 ⟨rfl, hf1⟩
        have HF1 := hid hf1
        clear hf1 HAF SZ a0 a1
        have a0 : w1.cell? ⟨w.heap.size, 0, none⟩ = some (.string nm) := (cell_of HF1.out.2).trans rfl
        have a1 : w1.cell? ⟨w.heap.size, 1, none⟩ = some (.int .i64 kp) := (cell_of HF1.out.2).trans rfl
        go_wp2_with fail
        refine (HF1.out.step (fun f1 h1 => HCr.out _ f1 h1) (by decide) (by decide) (by decide)).mono ?_
        rintro e w2 ⟨rfl, hf2⟩
        have HF2 := hid hf2
        clear hf2 HF1 HCr a0 a1
        go_wp2_with fail
        refine bodyPost_ret (v := .tuple #[]) (by simp [results, Try.results55, go_sem]) rfl ⟨rfl, ?_⟩
        rw [HM.out]
        exact HF2.out.1
end Go.Proofs.Ythjbhfhdepepmaa
namespace Go.Proofs.Ythjbhfhdepepmaa
open Go.RowKit
/-- A disk behind one fate of a harm, whatever its name is. -/
def hm1 (rm : Nat) (V : Vw) (f : Ftp) : Vw := if 1 ≤ f.1.size ∧ f.1.size ≤ 255 then hmV rm f V else V
def hms (rm : Nat) (fs : List Ftp) (V : Vw) : Vw := fs.foldl (hm1 rm) V
theorem SV.hm1 {rm : Nat} {V : Vw} (f : Ftp) (h : SV rm V) : SV rm (hm1 rm V f) := by
  unfold Go.Proofs.Ythjbhfhdepepmaa.hm1
  split
  · exact h.hm f
  · exact h
theorem SV.hms {rm : Nat} (fs : List Ftp) : ∀ {V : Vw}, SV rm V → SV rm (hms rm fs V) := by
  induction fs with
  | nil => exact fun h => h
  | cons f fs ih => exact fun h => ih (h.hm1 f)
theorem hms_at {rm : Nat} {V : Vw} {fs : List Ftp} {j : Nat} (hj : j < fs.length) : hms rm (fs.take (j + 1)) V = hm1 rm (hms rm (fs.take j) V) (fs.getD j p00) := by
  unfold hms
  rw [List.take_succ_eq_append_getElem hj, List.foldl_append, List.getD_eq_getElem?_getD, List.getElem?_eq_getElem hj]
  rfl
/-- Fates where they lie, apart from what ft names (but for lists without writes). -/
def Ftw (w : World) (ft : Nat → Prop) (ms : List Ft3) (fs : List Ftp) : Prop := ms.length = fs.length ∧ ∀ j, j < fs.length → (ms.getD j t00).1 = (fs.getD j p00).1 ∧ (ms.getD j t00).2.1 = (fs.getD j p00).2.1 ∧ (ms.getD j t00).2.2.2.1 = (fs.getD j p00).2.2.length ∧ Wrs w (ms.getD j t00).2.2.1 (fs.getD j p00).2.2 ∧ (∀ b off, (ms.getD j t00).2.2.1 = some ⟨b, off, none⟩ → (fs.getD j p00).2.2 ≠ [] → ¬ ft b) ∧ (fs.getD j p00).1.size ≤ maxLen ∧ (fs.getD j p00).2.2.length ≤ 140737488355328 ∧ ∀ x ∈ (fs.getD j p00).2.2, WrOk x
set_option maxHeartbeats 4000000 in
set_option maxRecDepth 20000 in
theorem harmall_any (d : Nat) (ft : Nat → Prop) (rm : Nat) (cl cb : Int) (V : Vw) (a : Option Addr) (cap : Nat) (ms : List Ft3) (fs : List Ftp) (w : World) (h : Ds w d ft rm cl cb V) (hs : SV rm V) (hF : Fts w a ms) (hR : Ftw w ft ms fs) (haf : ∀ b off, a = some ⟨b, off, none⟩ → ms ≠ [] → ¬ ft b) (hl : ms.length ≤ 140737488355328) :
    Calls Try.prog 23 #[.pointer (some ⟨d, 0, none⟩), .slice a ms.length cap] w fun e w' => e = .returned (.tuple #[]) ∧ Aft w ft d rm cl cb (hms rm fs V) w' := by
  have HS := hid hs
  have HF := hid hF
  have HR := hid hR
  have HAF := hid haf
  have HD := hid (Aft.start h)
  generalize hN : ms.length = N at *
  have HN := hid hN
  clear hN h hs hF hR haf
  go_enter Try.func23, Try.ntmps23
  go_wp2_with fail
  go_loopg [8] N (fun k i wr => ∃ j : Nat, j + k = N ∧ i = .int .i64 j ∧ Hid (Aft w ft d rm cl cb (hms rm (fs.take j) V) wr))
  case atStart => exact ⟨0, by omega, rfl, HD⟩
  case round =>
    clear HD
    obtain ⟨j, hj, rfl, HQ⟩ := hrel
    by_cases hlt : j < N
    · obtain ⟨k', rfl⟩ : ∃ k', gk = k' + 1 := ⟨gk - 1, by omega⟩
      have hltI : (j : Int) < N := by omega
      have hjf : j < fs.length := by rw [← HR.out.1, HN.out]; exact hlt
      obtain ⟨r1, r2, r3, r4, r5, r6, r7, r8⟩ := HR.out.2 j hjf
      rcases HF.out with rfl | ⟨b, off, rfl, hbl, hc⟩
      · exact absurd hlt (by rw [← HN.out]; simp)
      obtain ⟨q0, q1, q2⟩ := hc j (by rw [HN.out]; exact hlt)
      have hbe : wr.heap[b]? = w.heap[b]? := HQ.out.blk hbl (HAF.out b off rfl (fun e => by rw [e] at HN; have := HN.out; simp at this; omega))
      have hce : ∀ o, wr.cell? ⟨b, o, none⟩ = w.cell? ⟨b, o, none⟩ := fun o => by simp only [World.cell?, hbe]
      rw [← hce] at q0 q1 q2
      have hsz : w.heap.size ≤ wr.heap.size := by obtain ⟨_, _, m2, _⟩ := HQ.out; exact m2.size
      have hwrs : Wrs wr (ms.getD j t00).2.2.1 (fs.getD j p00).2.2 := by
        rcases r4 with e | ⟨bb, oo, e1, e2, e3⟩
        · exact Or.inl e
        · by_cases hne : (fs.getD j p00).2.2 = []
          · exact Or.inl hne
          have he : wr.heap[bb]? = w.heap[bb]? := HQ.out.blk e2 (r5 bb oo e1 hne)
          refine Or.inr ⟨bb, oo, e1, Nat.lt_of_lt_of_le e2 hsz, fun k hk => ?_⟩
          obtain ⟨z1, z2⟩ := e3 k hk
          exact ⟨by simp only [World.cell?, he] at z1 ⊢; exact z1, by simp only [World.cell?, he] at z2 ⊢; exact z2⟩
      have hwf : ∀ f1 : Nat → Prop, (∀ i, f1 i → ft i ∨ w.heap.size ≤ i) → ∀ bb oo, (ms.getD j t00).2.2.1 = some ⟨bb, oo, none⟩ → (fs.getD j p00).2.2 ≠ [] → ¬ f1 bb := by
        intro f1 hf1 bb oo e1 hne hb1
        rcases r4 with e | ⟨b', o', e2, e3, _⟩
        · exact hne e
        · rw [e1] at e2
          injection e2 with e2
          injection e2 with e2 _
          subst e2
          rcases hf1 bb hb1 with a | a
          · exact r5 bb oo e1 hne a
          · omega
      have HE := hid (hms_at (rm := rm) (V := V) hjf)
      generalize fs.getD j p00 = P at *
      generalize ms.getD j t00 = T at *
      obtain ⟨pn, pk, pw⟩ := P
      obtain ⟨tn, tk, oa, on, oc⟩ := T
      simp only [ovS] at r1 r2 r3 r6 r7 r8 q0 q1 q2 hwrs hwf
      subst r1 r2 r3
      have HG := hid (fun wx => pgood_any tn wx)
      have HJ := hid hj
      obtain ⟨wa, hwa⟩ : ∃ wa, wa = wr.alloc (Obj.cells #[.string tn, .int .i64 tk, .slice oa pw.length oc] 24) := ⟨_, rfl⟩
      have hFn := heap_new wr (Obj.cells #[.string tn, .int .i64 tk, .slice oa pw.length oc] 24)
      rw [← hwa] at hFn
      have hba : Below wr.heap.size wr wa := by rw [hwa]; exact bel_alloc _ _
      have f0 : wa.cell? ⟨wr.heap.size, 0, none⟩ = some (.string tn) := (cell_of hFn).trans rfl
      have f1 : wa.cell? ⟨wr.heap.size, 1, none⟩ = some (.int .i64 tk) := (cell_of hFn).trans rfl
      have f2 : wa.cell? ⟨wr.heap.size, 2, none⟩ = some (.slice oa pw.length oc) := (cell_of hFn).trans rfl
      have HQa := hid (HQ.out.kept hba)
      have HCA := hid (HQa.out.stepF (fun f1 h1 hf1 => harm1_any d f1 rm cl cb _ tn tk oa oc pw wa h1 (HS.out.hms _) r6 (hwrs.kept hba) (fun bb oo e1 hne => hwf f1 hf1 bb oo e1 hne) r7 r8))
      have hwa' := hwa.symm
      clear hc hbl hj HQ hbe hce hsz hwrs hwf r4 r5 r6 r7 r8 hba hFn hwa hjf hlt
      by_cases hg : 1 ≤ tn.size ∧ tn.size ≤ 255
      · have HE2 : Hid (hmV rm (tn, tk, pw) (hms rm (fs.take j) V) = hms rm (fs.take (j + 1)) V) := by show _ = _; rw [HE.out]; unfold hm1; rw [if_pos hg]
        rw [HE2.out] at HCA
        rw [decide_eq_true hg] at HG
        clear hg HE HE2
        go_wp2_with (first | (go_at_call 48; refine (HG.out _).mono ?_; rintro e w2 ⟨rfl, rfl⟩) | (go_at_call 55; refine HCA.out.mono ?_; rintro e w3 ⟨rfl, hb3, _⟩; have HB3 := hid hb3; clear hb3))
        go_roundg k'
        case measure => omega
        case rel => exact ⟨j + 1, by have := HJ.out; omega, congrArg (Value.int .i64) (by omega), HB3.out⟩
      · have HE2 : Hid (hms rm (fs.take j) V = hms rm (fs.take (j + 1)) V) := by show _ = _; rw [HE.out]; unfold hm1; rw [if_neg hg]
        rw [HE2.out] at HQa
        rw [decide_eq_false hg] at HG
        clear hg HE HE2 HCA
        go_wp2_with (go_at_call 48; refine (HG.out _).mono ?_; rintro e w2 ⟨rfl, rfl⟩)
        go_roundg k'
        case measure => omega
        case rel => exact ⟨j + 1, by have := HJ.out; omega, congrArg (Value.int .i64) (by omega), HQa.out⟩
    · have hltI : ¬ (j : Int) < N := by omega
      have HJ : Hid (fs.take j = fs) := List.take_of_length_le (by rw [← HR.out.1, HN.out]; omega)
      rw [HJ.out] at HQ
      go_wp2_with fail
      go_end0
      exact ⟨rfl, HQ.out⟩
end Go.Proofs.Ythjbhfhdepepmaa
namespace Go.Proofs.Ythjbhfhdepepmaa
open Go.RowKit
theorem vl_cons (n : ByteArray) (y : ByteArray × List UInt8 × Nat) (V : Vw) : vl n (y :: V) = if y.1 = n then some y.2 else vl n V := by
  unfold vl
  by_cases h : y.1 = n
  · rw [if_pos h, List.find?_cons_of_pos (by simpa using h)]; rfl
  · rw [if_neg h, List.find?_cons_of_neg (by simpa using h)]
theorem vl_vset_ne {n nm : ByteArray} (h : n ≠ nm) (x : List UInt8 × Nat) : ∀ V : Vw, vl n (vset nm x V) = vl n V
  | [] => rfl
  | y :: V => by
    have ih := vl_vset_ne h x V
    show vl n ((if y.1 = nm then (nm, x) else y) :: vset nm x V) = vl n (y :: V)
    rw [vl_cons, vl_cons, ih]
    by_cases e : y.1 = nm
    · rw [if_pos e, if_neg (fun k => h k.symm), if_neg (fun k => h (k.symm.trans e))]
    · rw [if_neg e]
theorem vl_vdel_ne {n nm : ByteArray} (h : n ≠ nm) : ∀ V : Vw, vl n (vdel nm V) = vl n V
  | [] => rfl
  | y :: V => by
    have ih := vl_vdel_ne h V
    by_cases e : y.1 = nm
    · have : vdel nm (y :: V) = vdel nm V := List.filter_cons_of_neg (by simpa using e)
      rw [this, vl_cons, ih, if_neg (fun k => h (k.symm.trans e))]
    · have : vdel nm (y :: V) = y :: vdel nm V := List.filter_cons_of_pos (by simpa using e)
      rw [this, vl_cons, vl_cons, ih]
theorem vl_vins_ne {n nm : ByteArray} (h : n ≠ nm) : ∀ V : Vw, vl n (vins nm V) = vl n V
  | [] => by show vl n [(nm, [], 0)] = vl n []; rw [vl_cons, if_neg (fun k => h k.symm)]
  | y :: V => by
    have ih := vl_vins_ne h V
    unfold vins
    split
    · rw [vl_cons, if_neg (fun k => h k.symm)]
    · rw [vl_cons, vl_cons, ih]
theorem vl_cr_ne {n nm : ByteArray} (h : n ≠ nm) (V : Vw) : vl n (crV nm V) = vl n V := by
  unfold crV
  split
  · exact vl_vins_ne h V
  · rfl
theorem vl_cu_ne {n nm : ByteArray} (h : n ≠ nm) (k : Int) (V : Vw) : vl n (cuV nm k V) = vl n V := by
  unfold cuV
  split
  · rfl
  · split
    · exact vl_vset_ne h _ V
    · rfl
theorem vl_ov_ne {n nm : ByteArray} (h : n ≠ nm) (k : Int) (s : ByteArray) (V : Vw) : vl n (ovV nm k s V) = vl n V := by
  unfold ovV
  split
  · rfl
  · split
    · exact vl_vset_ne h _ V
    · rfl
theorem vl_ap_ne {n nm : ByteArray} (h : n ≠ nm) (rm : Nat) (s : ByteArray) (V : Vw) : vl n (apV nm rm s V) = vl n V := by
  unfold apV
  split
  · rfl
  · exact vl_vset_ne h _ V
theorem vl_wr_ne {n nm : ByteArray} (h : n ≠ nm) (rm : Nat) (x : Int × ByteArray) (V : Vw) : vl n (wrV rm nm x V) = vl n V := by
  unfold wrV
  split
  · rfl
  · rw [vl_ap_ne h, vl_ov_ne h]
theorem vl_wrs_ne {n nm : ByteArray} (h : n ≠ nm) (rm : Nat) (ws : List (Int × ByteArray)) : ∀ V : Vw, vl n (wrs rm nm ws V) = vl n V := by
  induction ws with
  | nil => exact fun _ => rfl
  | cons x ws ih => exact fun V => (ih _).trans (vl_wr_ne h rm x V)
theorem vl_hm1_ne {n : ByteArray} {f : Ftp} (h : n ≠ f.1) (rm : Nat) (V : Vw) : vl n (hm1 rm V f) = vl n V := by
  unfold hm1
  split
  · unfold hmV
    split
    · exact vl_vdel_ne h V
    · rw [vl_wrs_ne h, vl_cu_ne h, vl_cr_ne h]
  · rfl
/-- A file that no fate names is as it was. -/
theorem vl_hms_ne {n : ByteArray} (rm : Nat) (fs : List Ftp) : ∀ V : Vw, (∀ f ∈ fs, n ≠ f.1) → vl n (hms rm fs V) = vl n V := by
  induction fs with
  | nil => exact fun _ _ => rfl
  | cons f fs ih => exact fun V h => (ih _ (fun g hg => h g (by simp [hg]))).trans (vl_hm1_ne (h f (by simp)) rm V)
section
variable {rm : Nat} {nm : ByteArray} {X : List UInt8} {sy : Nat} {R : Vw}
theorem hd_bf (h : SV rm ((nm, X, sy) :: R)) : ∀ y ∈ R, Bf nm y.1 := (List.pairwise_cons.1 h.srt).1
theorem vset_hd (h : SV rm ((nm, X, sy) :: R)) (x : List UInt8 × Nat) : vset nm x ((nm, X, sy) :: R) = (nm, x) :: R := vset_mid (l := []) (by simp) (hd_bf h)
theorem vl_hd (x : List UInt8 × Nat) (R : Vw) : vl nm ((nm, x) :: R) = some x := by rw [vl_cons, if_pos rfl]
theorem vdel_hd (h : SV rm ((nm, X, sy) :: R)) : vdel nm ((nm, X, sy) :: R) = R := vdel_mid (l := []) (by simp) (hd_bf h)
theorem cu_hd (h : SV rm ((nm, X, sy) :: R)) (kp : Nat) : ∃ s2, cuV nm kp ((nm, X, sy) :: R) = (nm, X.take (min kp X.length), s2) :: R := by
  unfold cuV
  rw [vl_hd]
  simp only
  split
  · rename_i h5
    unfold has5 at h5
    have h5' := of_decide_eq_true h5
    have e : min kp X.length = kp := by omega
    rw [vset_hd h, e]
    exact ⟨_, rfl⟩
  · rename_i h5
    have e : min kp X.length = X.length := by
      unfold has5 at h5
      simp at h5
      omega
    rw [e, List.take_length]
    exact ⟨_, rfl⟩
/-- A file that is cut and laid upon, where there is room. -/
theorem harm_put (h : SV rm ((nm, X, sy) :: R)) (kp : Nat) (D : ByteArray) (hr : vt ((nm, X, sy) :: R) + D.size ≤ rm) (hm : rm ≤ 1073741824) : ∃ s2, hms rm [(nm, (kp : Int), [((min kp X.length : Nat), D)])] ((nm, X, sy) :: R) = (nm, X.take (min kp X.length) ++ D.data.toList, s2) :: R := by
  have hg := (h.lng (nm, X, sy) (by simp)).1
  obtain ⟨s2, hc⟩ := cu_hd h kp
  have hcs : SV rm ((nm, X.take (min kp X.length), s2) :: R) := by rw [← hc]; exact h.cu _ _
  have hle : (X.take (min kp X.length)).length = min kp X.length := by rw [List.length_take]; omega
  show ∃ s2, hm1 rm _ _ = _
  unfold hm1
  rw [if_pos hg]
  unfold hmV
  rw [if_neg (by simp only; omega)]
  simp only
  rw [cr_some (vl_hd (X, sy) R), hc]
  show ∃ s3, wrV rm nm _ _ = _
  unfold wrV
  rw [vl_hd]
  simp only [szN, hle]
  rw [if_neg (by omega)]
  have en : wrN (min kp X.length) ((min kp X.length : Nat) : Int) D = 0 := by unfold wrN; simp
  rw [en]
  have eo : ovV nm ((min kp X.length : Nat) : Int) (D.extract 0 0) ((nm, X.take (min kp X.length), s2) :: R) = (nm, X.take (min kp X.length), s2) :: R := by
    unfold ovV
    rw [vl_hd]
    simp only
    split
    · have e0 : (D.extract 0 0).data.toList = [] := by rw [ext_ba]; rfl
      have e1 : ovr (X.take (min kp X.length)) ((min kp X.length : Nat) : Int).toNat (D.extract 0 0).data.toList = X.take (min kp X.length) := by
        rw [e0]
        unfold ovr
        rw [List.append_nil, List.length_nil, Nat.add_zero, Int.toNat_natCast]
        exact List.take_append_drop _ _
      rw [e1, vset_hd hcs]
    · rfl
  rw [eo]
  unfold apV
  rw [vl_hd]
  simp only
  have ed : D.extract 0 D.size = D := by
    apply ByteArray.ext
    rw [ByteArray.data_extract]
    exact Array.extract_size
  rw [ed, vset_hd hcs]
  refine ⟨s2, ?_⟩
  have hv : vt ((nm, X.take (min kp X.length), s2) :: R) + D.size ≤ rm := by
    unfold vt at hr ⊢
    simp only [List.map_cons, List.sum_cons] at hr ⊢
    rw [hle]
    omega
  have ea : apN (some (X.take (min kp X.length), s2)) rm (vt ((nm, X.take (min kp X.length), s2) :: R)) D = D.size := by
    unfold apN
    simp only
    have h2 : (X.take (min kp X.length)).length ≤ vt ((nm, X.take (min kp X.length), s2) :: R) := by unfold vt; simp only [List.map_cons, List.sum_cons]; omega
    omega
  have ed2 : D.data.toList.take D.size = D.data.toList := List.take_of_length_le (by rw [← Lib.size_eq]; exact Nat.le_refl _)
  rw [ea, ed2]
/-- A file that is removed. -/
theorem harm_del (h : SV rm ((nm, X, sy) :: R)) : hms rm [(nm, -1, [])] ((nm, X, sy) :: R) = R := by
  have hg := (h.lng (nm, X, sy) (by simp)).1
  show hm1 rm _ _ = _
  unfold hm1
  rw [if_pos hg]
  unfold hmV
  rw [if_pos (by simp only; omega)]
  exact vdel_hd h
end
end Go.Proofs.Ythjbhfhdepepmaa
namespace Go.Proofs.Ythjbhfhdepepmaa
open Go.RowKit
/-- A file as 'whole' tells it. -/
def ffc (x : ByteArray × List UInt8 × Nat) : List Value := [.string x.1, .string (ba x.2.1), .int .u16 0]
def ffcs (V : Vw) : List Value := V.flatMap ffc
theorem ffcs_len (V : Vw) : (ffcs V).length = V.length * 3 := by
  induction V with
  | nil => rfl
  | cons r rs ih => simp only [ffcs, List.flatMap_cons, List.length_append] at *; rw [ih]; simp [ffc]; omega
theorem ffcs_snoc (a : Vw) (e : ByteArray × List UInt8 × Nat) : ffcs (a ++ [e]) = ffcs a ++ ffc e := by simp [ffcs]
theorem own_blk8 {w : World} {B n size : Nat} {T : TypeId} {v : Value} {l : List Value} (h : w.ownsRow B T size v n l) {i : Nat} (hi : v.ownBlock = some i) : ∃ cur, w.heap[i]? = some (.cells cur T (0, 0)) := by
  rcases h.2 with ⟨rfl, _⟩ | ⟨g, cap, cur, rfl, _, h4, _⟩
  · cases hi
  · have e : g = i := Option.some.inj hi
    subst e
    exact ⟨cur, h4⟩
theorem Rdg.grown {w : World} {C B : Nat} {rm : Nat} {V : Vw} {aL : Option Addr} {N capL : Nat} {wr wx : World} (h : Rdg w C B rm V aL N capL wr) {T : TypeId} {v : Value} {n size : Nat} {xs : List Value} (hr : wr.ownsRow w.heap.size T size v n xs) (h1 : T ≠ 5) (h2 : T ≠ 107) (h3 : T ≠ 109) (h9 : T ≠ 9) (hg : wr.grownBy wx v.ownBlock) : Rdg w C B rm V aL N capL wx := by
  obtain ⟨fc, clj, cbj, k1, k2, k3, k4⟩ := h
  have hch : Ch (fun i => v.ownBlock = some i) wr wx := ⟨hg.os, hg.tape, hg.output, hg.size, fun k hk hs => hg.block k hk (fun e => hs e.symm)⟩
  refine ⟨fc, clj, cbj, k1.ch hch (fun i hf hi => ?_), k2, k3.trans (hch.below k3.size (fun i hi e => by have := (hr.lt i e).1; omega)), ?_⟩
  · obtain ⟨cur, hc⟩ := own_blk8 hr hi
    exact k1.out hc h1 h2 h3 hf
  · refine k4.kept hg ?_
    cases hb : (Value.slice aL N capL).ownBlock with
    | none => exact Or.inl rfl
    | some i =>
      refine Or.inr fun e => ?_
      obtain ⟨c1, hc1⟩ := own_blk8 k4 hb
      obtain ⟨c2, hc2⟩ := own_blk8 hr e.symm
      rw [hc1] at hc2
      injection hc2 with hc2
      injection hc2 with _ e2 _
      exact h9 e2.symm
theorem Try.infoLf : (Try.prog.info? 40).map (fun i => (i.zero, i.size, i.bytes)) = some (some (.agg #[.string ⟨#[]⟩, .string ⟨#[]⟩, .int .u16 0]), 3, 40) := by kernel_rfl
theorem own_othF {w w' : World} {B n : Nat} {v : Value} {l : List Value} (h : w.ownsRow B 40 3 v n l) (ho : Oth w w') : w'.ownsRow B 40 3 v n l := by
  refine ⟨h.1, ?_⟩
  rcases h.2 with h2 | ⟨g, cap, cur, e, hb, hg, r⟩
  · exact Or.inl h2
  · exact Or.inr ⟨g, cap, cur, e, hb, ho g _ _ _ hg (by decide) (by decide) (by decide), r⟩
set_option maxHeartbeats 4000000 in
set_option maxRecDepth 20000 in
theorem whole_any (d : Nat) (ft : Nat → Prop) (rm : Nat) (cl cb : Int) (V : Vw) (w : World) (h : Ds w d ft rm cl cb V) (hs : SV rm V) :
    Calls Try.prog 32 #[.pointer (some ⟨d, 0, none⟩)] w fun e w' => ∃ v, e = .returned v ∧ w'.ownsRow w.heap.size 40 3 v V.length (ffcs V) ∧ Below w.heap.size w w' := by
  have HS := hid hs
  have hc := hs.cnt
  have HD : Hid (∀ wx, Below w.heap.size w wx → Ds wx d ft rm cl cb V) := fun wx hb => h.kept hb
  have HCl := hid (s_clone d ft rm cl cb V w h hc)
  have HLi : Hid (∀ wx, Below w.heap.size w wx → Calls Try.prog 39 #[.pointer (some ⟨d, 0, none⟩)] wx fun e w' => ∃ v, e = .returned v ∧ Lsd w' wx.heap.size v (V.map (·.1)) ∧ Below wx.heap.size wx w') := fun wx hb => s_listV d ft rm cl cb V wx (HD.out wx hb) hs.cnt
  clear h hs
  generalize hN : V.length = N at *
  have HN := hid hN
  clear hN
  go_enter Try.func32, Try.ntmps32
  go_wp2_with (first | (go_at_call 33; refine HCl.out.mono ?_; rintro e w1 ⟨rfl, ⟨fc, hC1, hfc⟩, hb1⟩; have HC1 := hid hC1; have HB1 := hid hb1; have HFc := hid hfc; clear hC1 hb1 hfc) | (go_at_call 39; refine (HLi.out _ HB1.out).mono ?_; rintro e w2 ⟨v2, rfl, hL2, hb2⟩; obtain ⟨aL, capL, rfl⟩ := own_form hL2.1; rw [List.length_map, HN.out]))
  have HG : Hid (Rdg w w.heap.size w1.heap.size rm V aL N capL w2) := ⟨fc, _, _, HC1.out.kept hb2, HFc.out, HB1.out.trans (hb2.mono HB1.out.size), by have := hL2.1; rw [List.length_map, HN.out, List.map_map] at this; exact this⟩
  have HR0 : Hid (w2.ownsRow w.heap.size 40 3 (.slice none 0 0) 0 (ffcs (V.take 0))) := ⟨rfl, Or.inl ⟨rfl, rfl⟩⟩
  clear hL2 hb2 HC1 HFc HLi HCl HB1
  obtain ⟨i0, hi, hz0, hz1, hz2⟩ := info_parts Try.infoLf
  generalize w1.heap.size = B5 at *
  go_loopg [3, 16] N (fun k vo vi wr => ∃ (j : Nat), j + k = N ∧ vi = .int .i64 j ∧ Hid (Rdg w w.heap.size B5 rm V aL N capL wr) ∧ Hid (wr.ownsRow w.heap.size 40 3 vo j (ffcs (V.take j))))
  case atStart => exact ⟨0, by omega, rfl, HG, HR0⟩
  case round =>
    clear HG HR0
    obtain ⟨j, hk, rfl, HG, HR⟩ := hrel
    by_cases hlt : j < N
    · obtain ⟨k, rfl⟩ : ∃ k, gk = k + 1 := ⟨gk - 1, by omega⟩
      have hltI : (j : Int) < N := by omega
      have hjV : j < V.length := by rw [HN.out]; exact hlt
      obtain ⟨x, hx⟩ : ∃ x, x = V[j] := ⟨_, rfl⟩
      have HTk : Hid (V.take (j + 1) = V.take j ++ [x]) := by show _ = _; rw [hx, List.take_succ_eq_append_getElem hjV]
      have hxV : x ∈ V := by rw [hx]; exact List.getElem_mem _
      have hnx : (V.map (fun x => Value.string x.1))[j]? = some (.string x.1) := by rw [List.getElem?_map, List.getElem?_eq_getElem hjV, ← hx]; rfl
      obtain ⟨_, _, _, _, _, hbr, hrow⟩ := HG.out
      obtain ⟨gl, rfl, qn⟩ := nm_cell hrow hnx
      have hx255 := (HS.out.lng x hxV).1
      have hv : vl x.1 V = some x.2 := vl_at8 HS.out.srt hxV
      have hn' : x.1.size ≤ maxLen := by unfold maxLen; omega
      have Sz : Hid (Calls Try.prog 36 #[.pointer (some ⟨d, 0, none⟩), .string x.1] wr fun e w' => e = .returned (.tuple #[.int .i64 x.2.1.length, .int .i64 0]) ∧ ∃ k, w' = wr.drewN k) := by
        have := s_size d ft rm cl cb V x.1 wr (HD.out wr hbr) hn'
        rw [hv] at this
        exact this
      have RD : Hid (∀ wx, Rdg w w.heap.size B5 rm V (some ⟨gl, 0, none⟩) N capL wx → Calls Try.prog 37 #[.pointer (some ⟨w.heap.size, 0, none⟩), .string x.1, .int .i64 0, .int .i64 x.2.1.length] wx fun e w' => e = .returned (.tuple #[.string (ba x.2.1), .int .i64 0]) ∧ Rdg w w.heap.size B5 rm V (some ⟨gl, 0, none⟩) N capL w' ∧ Oth wx w') := fun wx hx => hx.read x.1 x.2 hv hn'
      have HFc : Hid (ffc x = [.string x.1, .string (ba x.2.1), .int .u16 0]) := rfl
      have HJ := hid hk
      clear hxV hnx hv hx255 hrow hn' hx hbr hk hjV
      generalize x.2.1.length = XN at *
      generalize ba x.2.1 = X at *
      generalize x.1 = nm at *
      go_wp2_with (first | (go_at_call 36; refine Sz.out.mono ?_; rintro e w3 ⟨rfl, k3, rfl⟩) | (go_at_call 37; refine (RD.out _ (HG.out.kept (bel_drewN wr k3))).mono ?_; rintro e w4 ⟨rfl, hg4, ho4⟩; have HG4 := hid hg4; have HO4 := hid (own_othF HR.out (Oth.trans (Oth.below (bel_drewN wr k3)) ho4)); clear hg4 ho4 HR HG Sz RD) | (at_builtin; refine wpList_append_lies _ rfl _ _ 31 rfl w.heap.size 40 i0 (.agg #[.string ⟨#[]⟩, .string ⟨#[]⟩, .int .u16 0]) 3 40 Try.underlying31 hi hz0 hz1 hz2 rfl (by decide) _ j (ffcs (V.take j)) rfl ?c0 ⟨w4.heap.size, 0, none⟩ 1 1 [.string nm, .string X, .int .u16 0] rfl rfl ?c1 ?c2 ?c3 ?c4 ?c5 ?c6 _ rfl ?_))
      case c0 => exact own_othF HO4.out (Oth.below (bel_alloc _ _))
      case c1 => exact cells_newN w4 [.string nm, .string X, .int .u16 0] 40 _ rfl
      case c3 => decide
      case c2 => intro u hu; simp only [List.mem_cons, List.not_mem_nil, or_false] at hu; rcases hu with rfl | rfl | rfl <;> rfl
      case c4 => unfold maxLen; omega
      case c5 => omega
      case c6 => obtain ⟨_, _, _, _, _, hb, _⟩ := HG4.out; have := hb.size; simp; omega
      intro g5 cap5 w5 hown5 hgrow5 hat5 hlt5
      have HBc : Hid (Below w4.heap.size w4 (w4.alloc (.cells #[.string nm, .string X, .int .u16 0] 40))) := bel_alloc _ _
      have HGc := hid (HG4.out.kept HBc.out)
      have HOc := hid (own_othF HO4.out (Oth.below HBc.out))
      have HG5 := hid (HGc.out.grown HOc.out (by decide) (by decide) (by decide) (by decide) hgrow5)
      rw [← HFc.out, ← ffcs_snoc, ← HTk.out] at hown5
      have HO5 := hid hown5
      clear hown5 hgrow5 hat5 hlt5 HBc HGc HOc HO4 HG4
      go_wp2_with fail
      go_roundg k
      case measure => omega
      case rel => exact ⟨j + 1, by have := HJ.out; omega, congrArg (Value.int .i64) (by omega), HG5, HO5⟩
    · have hltI : ¬ (j : Int) < N := by omega
      have hjN : j = N := by omega
      have e : V.take j = V := List.take_of_length_le (by rw [HN.out]; omega)
      rw [e] at HR
      have HB : Hid (Below w.heap.size w wr) := by obtain ⟨_, _, _, _, _, hb, _⟩ := HG.out; exact hb
      subst hjN
      clear e
      go_wp2_with fail
      go_ret
      exact ⟨_, rfl, HR.out, HB.out⟩
end Go.Proofs.Ythjbhfhdepepmaa
namespace Go.Proofs.Ythjbhfhdepepmaa
open Go.RowKit
def x0p : ByteArray × List UInt8 × Nat := (⟨#[]⟩, [], 0)
theorem ffcs_app (a b : Vw) : ffcs (a ++ b) = ffcs a ++ ffcs b := by simp [ffcs]
theorem ffcs_at {l : Vw} {j k : Nat} (hj : j < l.length) (hk : k < 3) : (ffcs l)[j * 3 + k]? = (ffc (l.getD j x0p))[k]? := by
  have e : l = l.take j ++ l.getD j x0p :: l.drop (j + 1) := by
    rw [List.getD_eq_getElem?_getD, List.getElem?_eq_getElem hj]
    simp
  have hl : (ffcs (l.take j)).length = j * 3 := by rw [ffcs_len, List.length_take]; congr 1; omega
  have e2 : ffcs l = ffcs (l.take j) ++ (ffc (l.getD j x0p) ++ ffcs (l.drop (j + 1))) := by
    conv => lhs; rw [e, ffcs_app]
    rfl
  rw [e2, List.getElem?_append_right (by omega), hl, show j * 3 + k - j * 3 = k from by omega, List.getElem?_append_left (by show k < 3; exact hk)]
/-- What a row of files holds at a place. -/
theorem file_at {w : World} {B : Nat} {v : Value} {V : Vw} (h : w.ownsRow B 40 3 v V.length (ffcs V)) {j : Nat} (hj : j < V.length) : ∃ g c, v = .slice (some ⟨g, 0, none⟩) V.length c ∧ g < w.heap.size ∧ w.cell? ⟨g, j * 3, none⟩ = some (.string (V.getD j x0p).1) ∧ w.cell? ⟨g, j * 3 + 1, none⟩ = some (.string (ba (V.getD j x0p).2.1)) ∧ w.cell? ⟨g, j * 3 + 2, none⟩ = some (.int .u16 0) := by
  rcases h.2 with ⟨_, h⟩ | ⟨g2, c2, cur, rfl, _⟩
  · omega
  have b : ∀ k, k < 3 → w.cell? ⟨g2, j * 3 + k, none⟩ = (ffc (V.getD j x0p))[k]? := fun k hk => (h.cellAt (j * 3 + k) (by omega)).trans (ffcs_at hj hk)
  have b0 := b 0 (by omega)
  exact ⟨g2, c2, rfl, World.block_lt_of_cell? _ _ b0, b0, b 1 (by omega), b 2 (by omega)⟩
set_option maxRecDepth 20000 in
set_option maxHeartbeats 4000000 in
theorem alike_yes (V : Vw) (B B2 : Nat) (v1 v2 : Value) (w : World) (h1 : w.ownsRow B 40 3 v1 V.length (ffcs V)) (h2 : w.ownsRow B2 40 3 v2 V.length (ffcs V)) (hl : V.length ≤ 65536) :
    Calls Try.prog 34 #[v1, v2] w fun e w' => e = .returned (.bool true) ∧ Below w.heap.size w w' := by
  have HA := hid (fun (j : Nat) hj => file_at (j := j) h1 hj)
  have HA2 := hid (fun (j : Nat) hj => file_at (j := j) h2 hj)
  obtain ⟨a1, c1, rfl⟩ := row_form8 h1
  obtain ⟨a2, c2, rfl⟩ := row_form8 h2
  clear h1 h2
  generalize hN : V.length = N at *
  clear hN
  go_enter Try.func34, Try.ntmps34
  go_wp2_with fail
  go_loopg [13] N (fun k vi wr => ∃ j : Nat, j + k = N ∧ vi = .int .i64 j ∧ Hid (Below w.heap.size w wr))
  case atStart => exact ⟨0, by omega, rfl, Below.refl _ _⟩
  case round =>
    obtain ⟨j, hj, rfl, HD⟩ := hrel
    by_cases hlt : j < N
    · obtain ⟨k', rfl⟩ : ∃ k', gk = k' + 1 := ⟨gk - 1, by omega⟩
      have hltI : (j : Int) < N := by omega
      obtain ⟨g1, c1', e1, hg1, y0, y1, _⟩ := HA.out j hlt
      obtain ⟨g2, c2', e2, hg2, y3, y4, _⟩ := HA2.out j hlt
      cases e1
      cases e2
      have z0 := (HD.out.cell (p := ⟨g1, j * 3, none⟩) hg1).trans y0
      have z1 := (HD.out.cell (p := ⟨g1, j * 3 + 1, none⟩) hg1).trans y1
      have z3 := (HD.out.cell (p := ⟨g2, j * 3, none⟩) hg2).trans y3
      have z4 := (HD.out.cell (p := ⟨g2, j * 3 + 1, none⟩) hg2).trans y4
      generalize (V.getD j x0p).1 = nm at *
      generalize ba (V.getD j x0p).2.1 = X at *
      have te := tq_eq nm
      have te2 := tq_eq X
      have HJ := hid hj
      have hNb : (N : Int) ≤ 65536 := by omega
      clear y0 y1 y3 y4 hj hg1 hg2
      go_wp2_with fail
      go_big_quiet (fail)
      go_wp2_with fail
      have HDq : Hid (Below w.heap.size w (wr.drewN nq)) := HD.out.trans ⟨rfl, rfl, rfl, Nat.le_refl _, fun _ _ => rfl⟩
      go_roundg k'
      case measure => omega
      case rel => exact ⟨j + 1, by have := HJ.out; omega, congrArg (Value.int .i64) (by omega), HDq.out⟩
    · have hltI : ¬ (j : Int) < N := by omega
      go_wp2_with fail
      go_ret
      exact ⟨rfl, HD.out⟩
end Go.Proofs.Ythjbhfhdepepmaa
namespace Go.Proofs.Ythjbhfhdepepmaa
open Go.RowKit
theorem harm_one (d : Nat) (ft : Nat → Prop) (rm : Nat) (cl cb : Int) (V : Vw) (tn : ByteArray) (tk : Int) (oa : Option Addr) (oc : Nat) (pw : List (Int × ByteArray)) (w : World) (h : Ds w d ft rm cl cb V) (hs : SV rm V) (g : Nat) (hg : w.heap[g]? = some (.cells #[.string tn, .int .i64 tk, .slice oa pw.length oc] 24 (0, 0)))
    (hw : Wrs w oa pw) (hwf : ∀ b off, oa = some ⟨b, off, none⟩ → pw ≠ [] → ¬ ft b) (hn : tn.size ≤ maxLen) (hlw : pw.length ≤ 140737488355328) (hok : ∀ x ∈ pw, WrOk x) :
    Calls Try.prog 23 #[.pointer (some ⟨d, 0, none⟩), .slice (some ⟨g, 0, none⟩) 1 1] w fun e w' => e = .returned (.tuple #[]) ∧ Aft w ft d rm cl cb (hms rm [(tn, tk, pw)] V) w' := by
  have c0 : w.cell? ⟨g, 0, none⟩ = some (.string tn) := (cell_of hg).trans rfl
  have c1 : w.cell? ⟨g, 1, none⟩ = some (.int .i64 tk) := (cell_of hg).trans rfl
  have c2 : w.cell? ⟨g, 2, none⟩ = some (.slice oa pw.length oc) := (cell_of hg).trans rfl
  refine harmall_any d ft rm cl cb V (some ⟨g, 0, none⟩) 1 [(tn, tk, oa, pw.length, oc)] [(tn, tk, pw)] w h hs (Or.inr ⟨g, 0, rfl, lt_of_heap hg, fun j hj => ?_⟩) ⟨rfl, fun j hj => ?_⟩ (fun b off e _ => ?_) (by simp)
  · have e : j = 0 := by simp at hj; omega
    subst e
    exact ⟨c0, c1, c2⟩
  · have e : j = 0 := by simp at hj; omega
    subst e
    exact ⟨rfl, rfl, rfl, hw, hwf, hn, hlw, hok⟩
  · injection e with e
    injection e with e _
    subst e
    exact h.out hg (by decide) (by decide) (by decide)
/-- Three disks, apart from one another, all of whose blocks lie from H on. -/
def D3 (w0 : World) (H : Nat) (w : World) (a b c : Nat) (rm : Nat) (cla cba : Int) (Va : Vw) (clb cbb : Int) (Vb : Vw) (clc cbc : Int) (Vc : Vw) : Prop :=
  ∃ fa fb fc, Ds w a fa rm cla cba Va ∧ Ds w b fb rm clb cbb Vb ∧ Ds w c fc rm clc cbc Vc ∧ (∀ i, fa i → ¬ fb i) ∧ (∀ i, fb i → ¬ fc i) ∧ (∀ i, fc i → ¬ fa i) ∧ (∀ i, fa i → H ≤ i) ∧ (∀ i, fb i → H ≤ i) ∧ (∀ i, fc i → H ≤ i) ∧ H ≤ w.heap.size ∧ Below H w0 w
section
variable {w0 : World} {H : Nat} {w w' : World} {a b c : Nat} {rm : Nat} {cla cba : Int} {Va : Vw} {clb cbb : Int} {Vb : Vw} {clc cbc : Int} {Vc : Vw}
theorem D3.below (h : D3 w0 H w a b c rm cla cba Va clb cbb Vb clc cbc Vc) : Below H w0 w := let ⟨_, _, _, _, _, _, _, _, _, _, _, _, _, k⟩ := h; k
theorem D3.le (h : D3 w0 H w a b c rm cla cba Va clb cbb Vb clc cbc Vc) : H ≤ w.heap.size := let ⟨_, _, _, _, _, _, _, _, _, _, _, _, k, _⟩ := h; k
theorem D3.rot (h : D3 w0 H w a b c rm cla cba Va clb cbb Vb clc cbc Vc) : D3 w0 H w b c a rm clb cbb Vb clc cbc Vc cla cba Va := by
  obtain ⟨fa, fb, fc, h1, h2, h3, h4, h5, h6, h7, h8, h9, h10⟩ := h
  exact ⟨fb, fc, fa, h2, h3, h1, h5, h6, h4, h8, h9, h7, h10⟩
theorem D3.ch {S : Nat → Prop} (h : D3 w0 H w a b c rm cla cba Va clb cbb Vb clc cbc Vc) (hc : Ch S w w') (hS : ∀ i, S i → w.heap.size ≤ i ∨ (H ≤ i ∧ ∃ cu T fz, w.heap[i]? = some (.cells cu T fz) ∧ T ≠ 5 ∧ T ≠ 107 ∧ T ≠ 109)) : D3 w0 H w' a b c rm cla cba Va clb cbb Vb clc cbc Vc := by
  obtain ⟨fa, fb, fc, h1, h2, h3, h4, h5, h6, h7, h8, h9, h10, h11⟩ := h
  have k : ∀ {d : Nat} {ft : Nat → Prop} {cl cb : Int} {V : Vw}, Ds w d ft rm cl cb V → ∀ i, ft i → ¬ S i := fun hd i hi hs => by
    rcases hS i hs with h | ⟨_, cu, T, fz, e, t1, t2, t3⟩
    · have := hd.lt hi; omega
    · exact hd.out e t1 t2 t3 hi
  refine ⟨fa, fb, fc, h1.ch hc (k h1), h2.ch hc (k h2), h3.ch hc (k h3), h4, h5, h6, h7, h8, h9, Nat.le_trans h10 hc.size, h11.trans (hc.below h10 (fun i hi hs => ?_))⟩
  rcases hS i hs with h | ⟨h, _⟩ <;> omega
theorem D3.kept (h : D3 w0 H w a b c rm cla cba Va clb cbb Vb clc cbc Vc) (hb : Below w.heap.size w w') : D3 w0 H w' a b c rm cla cba Va clb cbb Vb clc cbc Vc := h.ch (Ch.of_below (S := fun _ => False) hb) (fun _ h => h.elim)
theorem D3.first (h : D3 w0 H w a b c rm cla cba Va clb cbb Vb clc cbc Vc) {Q : Ending → World → Prop} {cl' cb' : Int} {V' : Vw} {f : FuncId} {args : Array Value} {v : Value}
    (hc : ∀ fa, Ds w a fa rm cla cba Va → Calls Try.prog f args w fun e w' => e = .returned v ∧ Aft w fa a rm cl' cb' V' w') (hQ : ∀ w', D3 w0 H w' a b c rm cl' cb' V' clb cbb Vb clc cbc Vc → Oth w w' → w.heap.size ≤ w'.heap.size → Q (.returned v) w') : Calls Try.prog f args w Q := by
  obtain ⟨fa, fb, fc, h1, h2, h3, h4, h5, h6, h7, h8, h9, h10, h11⟩ := h
  refine (hc fa h1).mono ?_
  rintro e w' ⟨rfl, fa', k1, k2, k3⟩
  refine hQ w' ⟨fa', fb, fc, k1, h2.ch k2 (fun i hb ha => h4 i ha hb), h3.ch k2 (fun i hc ha => h6 i hc ha), fun i ha hb => ?_, h5, fun i hc ha => ?_, fun i ha => ?_, h8, h9, Nat.le_trans h10 k2.size, h11.trans (k2.below h10 (fun i hi hf => by have := h7 i hf; omega))⟩ (h1.oth k2) k2.size
  · rcases k3 i ha with k | k
    · exact h4 i k hb
    · have := h2.lt hb; omega
  · rcases k3 i ha with k | k
    · exact h6 i hc k
    · have := h3.lt hc; omega
  · rcases k3 i ha with k | k
    · exact h7 i k
    · omega
end
theorem FtIn.fts {w wx : World} {a : Option Addr} {ms : List Ft3} {fs : List Ftp} (h : FtIn w a ms fs) (hb : Below w.heap.size w wx) : Fts wx a ms := by
  rcases h.F with e | ⟨b, off, h1, h2, h3⟩
  · exact Or.inl e
  · refine Or.inr ⟨b, off, h1, Nat.lt_of_lt_of_le h2 hb.size, fun j hj => ?_⟩
    have hh : ∀ o, wx.cell? ⟨b, o, none⟩ = w.cell? ⟨b, o, none⟩ := fun o => by simp only [World.cell?, hb.block b h2]
    rw [hh, hh, hh]
    exact h3 j hj
theorem FtIn.ftw {w wx : World} {a : Option Addr} {ms : List Ft3} {fs : List Ftp} {ft : Nat → Prop} (h : FtIn w a ms fs) (hb : Below w.heap.size w wx) (hf : ∀ i, ft i → w.heap.size ≤ i) : Ftw wx ft ms fs := by
  refine ⟨h.len, fun j hj => ?_⟩
  obtain ⟨k1, k2, k3, k4, k5, k6, k7, _⟩ := h.at1 j hj
  refine ⟨k1, k2, k3, k4.kept hb, fun b off e hne hfb => ?_, by unfold maxLen; omega, k5, k6⟩
  rcases k4 with e0 | ⟨b', o', e1, e2, _⟩
  · exact hne e0
  · rw [e] at e1
    injection e1 with e1
    injection e1 with e1 _
    subst e1
    have := hf b hfb
    omega
theorem FtIn.haf {w : World} {a : Option Addr} {ms : List Ft3} {fs : List Ftp} {ft : Nat → Prop} (h : FtIn w a ms fs) (hf : ∀ i, ft i → w.heap.size ≤ i) : ∀ b off, a = some ⟨b, off, none⟩ → ms ≠ [] → ¬ ft b := fun b off e hne hfb => by
  rcases h.F with e0 | ⟨b', o', e1, e2, _⟩
  · exact hne e0
  · rw [e] at e1
    injection e1 with e1
    injection e1 with e1 _
    subst e1
    have := hf b hfb
    omega
/-- The first disk's contract needs to know where its blocks lie. -/
theorem D3.firstF {w0 : World} {H : Nat} {w : World} {a b c : Nat} {rm : Nat} {cla cba : Int} {Va : Vw} {clb cbb : Int} {Vb : Vw} {clc cbc : Int} {Vc : Vw} (h : D3 w0 H w a b c rm cla cba Va clb cbb Vb clc cbc Vc) {cl' cb' : Int} {V' : Vw} {f : FuncId} {args : Array Value} {v : Value}
    (hc : ∀ fa, Ds w a fa rm cla cba Va → (∀ i, fa i → H ≤ i) → Calls Try.prog f args w fun e w' => e = .returned v ∧ Aft w fa a rm cl' cb' V' w') : Calls Try.prog f args w fun e w' => e = .returned v ∧ D3 w0 H w' a b c rm cl' cb' V' clb cbb Vb clc cbc Vc ∧ Oth w w' := by
  obtain ⟨fa, fb, fc, h1, h2, h3, h4, h5, h6, h7, h8, h9, h10, h11⟩ := h
  refine (hc fa h1 h7).mono ?_
  rintro e w' ⟨rfl, fa', k1, k2, k3⟩
  refine ⟨rfl, ⟨fa', fb, fc, k1, h2.ch k2 (fun i hb ha => h4 i ha hb), h3.ch k2 (fun i hc ha => h6 i hc ha), fun i ha hb => ?_, h5, fun i hc ha => ?_, fun i ha => ?_, h8, h9, Nat.le_trans h10 k2.size, h11.trans (k2.below h10 (fun i hi hf => by have := h7 i hf; omega))⟩, h1.oth k2⟩
  · rcases k3 i ha with k | k
    · exact h4 i k hb
    · have := h2.lt hb; omega
  · rcases k3 i ha with k | k
    · exact h6 i hc k
    · have := h3.lt hc; omega
  · rcases k3 i ha with k | k
    · exact h7 i k
    · omega
theorem hms_one (rm : Nat) (f : Ftp) (V : Vw) : hms rm [f] V = hm1 rm V f := rfl
end Go.Proofs.Ythjbhfhdepepmaa
