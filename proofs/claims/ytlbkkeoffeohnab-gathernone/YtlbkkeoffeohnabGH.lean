/- Texts of the proof, put together: Gop. -/
import Derived.Test.YtlbkkeoffeohnabGF
import Derived.ProofKit
import Derived.OpenShut
import Derived.ShutString
import Derived.ChangeOld
import Derived.JoinedCond
import Derived.ChangeSame
import Derived.SizedLaws
import Derived.Deep.Slices
import Derived.Deep.Strs
namespace Go.Proofs.Ytlbkkeoffeohnab
open Go.ChangeShapes Go.WideShapes Go.ChangeAt Go.RowKit Go.Deep
theorem Try.cOpt : Try.prog.cellsOf 37 = 2 := by kernel_rfl
theorem Try.cHdr : Try.prog.cellsOf 72 = 3 := by kernel_rfl
theorem Try.cRec : Try.prog.cellsOf 40 = 6 := by kernel_rfl
theorem Try.cStr : Try.prog.cellsOf 9 = 1 := by kernel_rfl
theorem Try.cBool : Try.prog.cellsOf 4 = 1 := by kernel_rfl
theorem Try.cI64 : Try.prog.cellsOf 2 = 1 := by kernel_rfl
theorem Try.cHds : Try.prog.cellsOf 38 = 1 := by kernel_rfl
theorem Try.bHdr : Try.prog.bytesOf 72 = 40 := by kernel_rfl
variable {H : Type} {enc : TypeId × Value → H} {W : World}
theorem w_memG {P : Program} {e : TypeId} : ∀ {l : List (DataW H)} {d : DataW H}, d ∈ l → ∀ n ∈ d.weights P e, n ∈ DataW.weightsAll P e l
  | x :: l, d, h, n, hn => by
    simp only [DataW.weightsAll, List.mem_append]
    rcases List.mem_cons.1 h with rfl | h
    · exact Or.inl hn
    · exact Or.inr (w_memG h n hn)
/-- As long as a text may be. -/
def LL : Nat := 140737488351232
theorem open_optS {fuel : Nat} {cs : List Value} {x : DataW H × List MemPlace} (h : DataW.trod enc Try.prog W 0 (fun _ => true) true fuel 37 cs = some x) (hz : ∀ n ∈ x.1.weights Try.prog 37, n ≤ reachBytes) : ∃ (b : Bool) (d : ByteArray), cs = [.bool b, .string d] ∧ d.size ≤ LL := by
  obtain ⟨y0, y1, n, rfl, hlen, k0, k1⟩ := trod_struct2 Try.underlying37 h
  rw [Try.cOpt] at hlen
  simp only [Try.cBool, Try.cStr] at k0 k1
  have hz' : ∀ n ∈ DataW.weightsEach Try.prog [4, 9] [y0.1, y1.1], n ≤ reachBytes := by
    have e : DataW.weights Try.prog 37 (DataW.agg (H := H) [y0.1, y1.1]) = DataW.weightsEach Try.prog [4, 9] [y0.1, y1.1] := by
      simp only [DataW.weights, Try.underlying37]
      rfl
    rw [← e]
    exact hz
  obtain ⟨b, q0, r0⟩ := DataW.trod_bool Try.underlying4 k0
  obtain ⟨d, q1, r1, w1⟩ := DataW.trod_string Try.underlying9 k1
  have hd := hz' d.size (DataW.weights_mem_each (j := 1) (t := 9) (d := y1.1) rfl rfl _ (by rw [r1]; simp [DataW.weights]))
  match cs, hlen with
  | [u, v], _ =>
    simp at q0 q1
    subst q0 q1
    exact ⟨b, d, rfl, by unfold reachBytes at hd; unfold LL; omega⟩
theorem open_hdrS {fuel : Nat} {cs : List Value} {x : DataW H × List MemPlace} (h : DataW.trod enc Try.prog W 0 (fun _ => true) true fuel 72 cs = some x) (hz : ∀ n ∈ x.1.weights Try.prog 72, n ≤ reachBytes) : ∃ y : Hdr, cs = hc1 y ∧ y.1.size ≤ LL ∧ y.2.2.size ≤ LL := by
  obtain ⟨y0, y1, n, rfl, hlen, k0, k1⟩ := trod_struct2 Try.underlying72 h
  rw [Try.cHdr] at hlen
  simp only [Try.cOpt, Try.cStr] at k0 k1
  have hz' : ∀ n ∈ DataW.weightsEach Try.prog [9, 37] [y0.1, y1.1], n ≤ reachBytes := by
    have e : DataW.weights Try.prog 72 (DataW.agg (H := H) [y0.1, y1.1]) = DataW.weightsEach Try.prog [9, 37] [y0.1, y1.1] := by
      simp only [DataW.weights, Try.underlying72]
      rfl
    rw [← e]
    exact hz
  obtain ⟨d, q0, r0, _⟩ := DataW.trod_string Try.underlying9 k0
  obtain ⟨b, e, q1, w1⟩ := open_optS k1 (fun n hn => hz' n (DataW.weights_mem_each (j := 1) (t := 37) (d := y1.1) rfl rfl _ hn))
  have hd := hz' d.size (DataW.weights_mem_each (j := 0) (t := 9) (d := y0.1) rfl rfl _ (by rw [r0]; simp [DataW.weights]))
  match cs, hlen with
  | [u, v, z], _ =>
    simp at q0 q1
    obtain ⟨q1, q2⟩ := q1
    subst q0 q1 q2
    exact ⟨(d, b, e), rfl, by unfold reachBytes at hd; show d.size ≤ LL; unfold LL; omega, w1⟩
theorem open_hdsS {fuel : Nat} {cs : List Value} {x : DataW H × List MemPlace} (h : DataW.trod enc Try.prog W 0 (fun _ => true) true fuel 38 cs = some x) (hz : ∀ n ∈ x.1.weights Try.prog 38, n ≤ reachBytes) : ∃ (a : Option Addr) (cap : Nat) (hs : List Hdr), cs = [.slice a hs.length cap] ∧ Hds W a hs ∧ hs.length * 40 ≤ LL ∧ (∀ y ∈ hs, y.1.size ≤ LL ∧ y.2.2.size ≤ LL) ∧ (a = none → cap = 0) := by
  haveI : Inhabited Hdr := ⟨df⟩
  rcases open_slice Try.underlying38 h with ⟨hcs', hx⟩ | ⟨x', l, c, m, n, D, Pl, hcs', _, hl', hm, hmm, hx, hel⟩
  · exact ⟨none, 0, [], by simpa using hcs', Or.inl rfl, Nat.zero_le _, (fun y hy => by cases hy), fun _ => rfl⟩
  · simp only [if_true] at hmm
    subst hx
    simp only [DataW.weights, Try.underlying38, List.length_map, List.length_range, Try.bHdr, List.mem_cons, List.mem_append] at hz
    have hl0 := hz _ (Or.inl rfl)
    have each : ∀ i, i < l → ∃ o : Hdr, W.cell? ((x'.add (i * 3)).add 0) = some (.string o.1) ∧ W.cell? ((x'.add (i * 3)).add 1) = some (.bool o.2.1) ∧ W.cell? ((x'.add (i * 3)).add 2) = some (.string o.2.2) ∧ o.1.size ≤ LL ∧ o.2.2.size ≤ LL := by
      intro i hi
      obtain ⟨cs', e1, e2⟩ := hel i (by omega)
      rw [Try.cHdr] at e1
      obtain ⟨y, hy, hb⟩ := open_hdrS e2 (fun n hn => hz n (by
        first
        | exact Or.inr (Or.inl (w_memG (by simp; exact ⟨i, by omega, rfl⟩) n hn))
        | exact Or.inr (w_memG (by simp; exact ⟨i, by omega, rfl⟩) n hn)))
      have g := (World.cells?_some e1)
      refine ⟨y, ?_, ?_, ?_, hb⟩
      · rw [g.2.2 0 (by omega), hy]; rfl
      · rw [g.2.2 1 (by omega), hy]; rfl
      · rw [g.2.2 2 (by omega), hy]; rfl
    obtain ⟨f, hf⟩ := choose_lt each
    refine ⟨some x', c, (List.range l).map f, by simpa using hcs', ?_, ?_, ?_, fun h => by cases h⟩
    · by_cases h0 : l = 0
      · left; subst h0; rfl
      · right
        obtain ⟨b, off, spot⟩ := x'
        have h00 := (hf 0 (by omega)).1
        have hspot : spot = none := by simpa [Addr.add] using World.cell?_spot h00
        subst hspot
        have hlt := World.block_lt_of_cell? _ _ h00
        refine ⟨b, off, rfl, by simpa [Addr.add] using hlt, fun j hj => ?_⟩
        have hj' : j < l := by simpa using hj
        obtain ⟨k0, k1, k2, _⟩ := hf j hj'
        rw [Go.WideShapes.add_plain, Go.WideShapes.add_plain] at k0 k1 k2
        have eg : ((List.range l).map f).getD j df = f j := by
          rw [List.getD_eq_getElem?_getD, List.getElem?_map, List.getElem?_range hj']
          rfl
        rw [eg]
        exact ⟨by simpa using k0, k1, k2⟩
    · simp only [List.length_map, List.length_range]
      unfold reachBytes at hl0
      unfold LL
      omega
    · intro y hy
      simp only [List.mem_map, List.mem_range] at hy
      obtain ⟨i, hi, rfl⟩ := hy
      exact (hf i hi).2.2.2
theorem ol_leG (h : Bool) (d : ByteArray) : (ol h d).length ≤ 10 + d.size := by
  unfold ol
  split
  · rw [List.length_append, bl_len]; have := M.form_le (2 * d.size); omega
  · simp; omega
theorem hl_leG : ∀ (hs : List Hdr), (∀ y ∈ hs, y.1.size ≤ LL ∧ y.2.2.size ≤ LL) → (hl hs).length ≤ hs.length * (20 + LL + LL)
  | [], _ => by simp [hl]
  | x :: l, h => by
    have ih := hl_leG l (fun y hy => h y (List.mem_cons_of_mem _ hy))
    obtain ⟨h3, h4⟩ := h x (List.mem_cons_self ..)
    have h1 := ol_leG x.2.1 x.2.2
    have h2 : (tx x.1).length ≤ 10 + x.1.size := by unfold tx; rw [List.length_append, bl_len]; have := M.form_le x.1.size; omega
    have e : hl (x :: l) = hl1 x ++ hl l := by simp [hl]
    have e1 : (hl1 x).length = (tx x.1).length + (ol x.2.1 x.2.2).length := by unfold hl1; rw [List.length_append]
    rw [e, List.length_append, e1, List.length_cons, Nat.succ_mul]
    omega
theorem mod_ofG {r : Rec} (hk : r.kd.size ≤ LL) (hv : r.vd.size ≤ LL) (hl : r.hs.length * 40 ≤ LL) (hh : ∀ y ∈ r.hs, y.1.size ≤ LL ∧ y.2.2.size ≤ LL) : Mod r := by
  have h1 := ol_leG r.kh r.kd
  have h2 := ol_leG r.vh r.vd
  have h3 := hl_leG r.hs hh
  unfold LL at *
  refine ⟨by omega, by omega, fun x hx => by have := (hh x hx).2; omega, by omega, fun h => ?_⟩
  have h4 : r.hs.length * (20 + 140737488351232 + 140737488351232) ≤ 1024 * (20 + 140737488351232 + 140737488351232) := Nat.mul_le_mul_right _ h
  omega
set_option maxRecDepth 20000 in
theorem open_recS {fuel : Nat} {cs : List Value} {x : DataW H × List MemPlace} (h : DataW.trod enc Try.prog W 0 (fun _ => true) true fuel 40 cs = some x) (hz : ∀ n ∈ x.1.weights Try.prog 40, n ≤ reachBytes) : ∃ (r : Rec) (a : Option Addr) (cap : Nat), cs = [.int .i64 r.t, .bool r.kh, .string r.kd, .bool r.vh, .string r.vd, .slice a r.hs.length cap] ∧ Hds W a r.hs ∧ Mod r ∧ r.hs.length * 40 ≤ LL ∧ I64 r.t ∧ (a = none → cap = 0) := by
  obtain ⟨xs, n, _, rfl, hlen, hxs, hf⟩ := DataW.trod_struct Try.underlying40 h
  rw [Try.cRec] at hlen
  match xs, hxs with
  | [y0, y1, y2, y3], _ =>
    have k0 : DataW.trod enc Try.prog W 0 (fun _ => true) true n 2 ((cs.drop 0).take (Try.prog.cellsOf 2)) = some y0 := hf 0 _ rfl
    have k1 : DataW.trod enc Try.prog W 0 (fun _ => true) true n 37 ((cs.drop 1).take (Try.prog.cellsOf 37)) = some y1 := hf 1 _ rfl
    have k2 : DataW.trod enc Try.prog W 0 (fun _ => true) true n 37 ((cs.drop 3).take (Try.prog.cellsOf 37)) = some y2 := hf 2 _ rfl
    have k3 : DataW.trod enc Try.prog W 0 (fun _ => true) true n 38 ((cs.drop 5).take (Try.prog.cellsOf 38)) = some y3 := hf 3 _ rfl
    rw [Try.cI64] at k0
    rw [Try.cOpt] at k1 k2
    rw [Try.cHds] at k3
    have hz' : ∀ n ∈ DataW.weightsEach Try.prog [2, 37, 37, 38] [y0.1, y1.1, y2.1, y3.1], n ≤ reachBytes := by
      have e : DataW.weights Try.prog 40 (DataW.agg (H := H) [y0.1, y1.1, y2.1, y3.1]) = DataW.weightsEach Try.prog [2, 37, 37, 38] [y0.1, y1.1, y2.1, y3.1] := by
        simp only [DataW.weights, Try.underlying40]
        rfl
      rw [← e]
      exact hz
    obtain ⟨t, q0, r0, w0⟩ := DataW.trod_int Try.underlying2 k0
    obtain ⟨kh, kd, q1, r1⟩ := open_optS k1 (fun n hn => hz' n (DataW.weights_mem_each (j := 1) (t := 37) (d := y1.1) rfl rfl _ hn))
    obtain ⟨vh, vd, q2, r2⟩ := open_optS k2 (fun n hn => hz' n (DataW.weights_mem_each (j := 2) (t := 37) (d := y2.1) rfl rfl _ hn))
    obtain ⟨a, cap, hs, q3, V, r3, hl3, hn3⟩ := open_hdsS k3 (fun n hn => hz' n (DataW.weights_mem_each (j := 3) (t := 38) (d := y3.1) rfl rfl _ hn))
    match cs, hlen with
    | [c0, c1, c2, c3, c4, c5], _ =>
      simp at q0 q1 q2 q3
      obtain ⟨q1, q1'⟩ := q1
      obtain ⟨q2, q2'⟩ := q2
      subst q0 q1 q1' q2 q2' q3
      exact ⟨⟨t, kh, kd, vh, vd, hs⟩, a, cap, rfl, V, mod_ofG r1 r2 r3 hl3, r3, ⟨(bounds_i64 w0).1, (bounds_i64 w0).2⟩, hn3⟩
theorem Try.cGop : Try.prog.cellsOf 42 = 7 := by kernel_rfl
theorem Try.bGop : Try.prog.bytesOf 42 = 88 := by kernel_rfl
theorem Try.cInt : Try.prog.cellsOf 3 = 1 := by kernel_rfl
/-- What a call that came in is. -/
structure GopOk (W : World) (o : GOp) : Prop where
  k : I64 o.k
  v : Hds W o.x.a o.x.r.hs
  m : Mod o.x.r
  l : o.x.r.hs.length * 40 ≤ LL
  t : I64 o.x.r.t
  n : o.x.a = none → o.x.cap = 0
set_option maxRecDepth 20000 in
theorem open_gop {fuel : Nat} {cs : List Value} {x : DataW H × List MemPlace} (h : DataW.trod enc Try.prog W 0 (fun _ => true) true fuel 42 cs = some x) (hz : ∀ n ∈ x.1.weights Try.prog 42, n ≤ reachBytes) : ∃ o : GOp, cs = .int .i64 o.k :: rc1 o.x ∧ GopOk W o := by
  obtain ⟨y0, y1, n, rfl, hlen, k0, k1⟩ := trod_struct2 Try.underlying42 h
  rw [Try.cGop] at hlen
  simp only [Try.cInt, Try.cRec] at k0 k1
  have hz' : ∀ n ∈ DataW.weightsEach Try.prog [3, 40] [y0.1, y1.1], n ≤ reachBytes := by
    have e : DataW.weights Try.prog 42 (DataW.agg (H := H) [y0.1, y1.1]) = DataW.weightsEach Try.prog [3, 40] [y0.1, y1.1] := by
      simp only [DataW.weights, Try.underlying42]
      rfl
    rw [← e]
    exact hz
  obtain ⟨k, q0, r0, w0⟩ := DataW.trod_int Try.underlying3 k0
  obtain ⟨r, a, cap, q1, V, hm, hl, ht, hn⟩ := open_recS k1 (fun n hn => hz' n (DataW.weights_mem_each (j := 1) (t := 40) (d := y1.1) rfl rfl _ hn))
  match cs, hlen with
  | [c0, c1, c2, c3, c4, c5, c6], _ =>
    simp at q0 q1
    obtain ⟨e1, e2, e3, e4, e5, e6⟩ := q1
    subst q0 e1 e2 e3 e4 e5 e6
    exact ⟨⟨k, ⟨r, a, cap⟩⟩, rfl, ⟨(bounds_i64 w0).1, (bounds_i64 w0).2⟩, V, hm, hl, ht, hn⟩
set_option maxRecDepth 20000 in
theorem open_gops {fuel : Nat} {cs : List Value} {x : DataW H × List MemPlace} (h : DataW.trod enc Try.prog W 0 (fun _ => true) true fuel 22 cs = some x) (hz : ∀ n ∈ x.1.weights Try.prog 22, n ≤ reachBytes) : ∃ (a : Option Addr) (cap : Nat) (os : List GOp), cs = [.slice a os.length cap] ∧ Gops W a os ∧ os.length * 88 ≤ LL ∧ ∀ o ∈ os, GopOk W o := by
  haveI : Inhabited GOp := ⟨dgo⟩
  rcases open_slice Try.underlying22 h with ⟨hcs', hx⟩ | ⟨x', l, c, m, n, D, Pl, hcs', _, hl', hm, hmm, hx, hel⟩
  · exact ⟨none, 0, [], by simpa using hcs', ⟨(fun y hy => by cases hy), Or.inl rfl⟩, Nat.zero_le _, fun y hy => by cases hy⟩
  · simp only [if_true] at hmm
    subst hx
    simp only [DataW.weights, Try.underlying22, List.length_map, List.length_range, Try.bGop, List.mem_cons, List.mem_append] at hz
    have hl0 := hz _ (Or.inl rfl)
    have each : ∀ i, i < l → ∃ o : GOp, (∀ q v, (Value.int .i64 o.k :: rc1 o.x)[q]? = some v → W.cell? ((x'.add (i * 7)).add q) = some v) ∧ GopOk W o := by
      intro i hi
      obtain ⟨cs', e1, e2⟩ := hel i (by omega)
      rw [Try.cGop] at e1
      obtain ⟨y, hy, hb⟩ := open_gop e2 (fun n hn => hz n (by
        first
        | exact Or.inr (Or.inl (w_memG (by simp; exact ⟨i, by omega, rfl⟩) n hn))
        | exact Or.inr (w_memG (by simp; exact ⟨i, by omega, rfl⟩) n hn)))
      have g := (World.cells?_some e1)
      refine ⟨y, fun q v hq => ?_, hb⟩
      have hq7 : q < 7 := by have := (List.getElem?_eq_some_iff.1 hq).1; simpa [rc1] using this
      rw [g.2.2 q hq7, hy]; exact hq
    obtain ⟨f, hf⟩ := choose_lt each
    refine ⟨some x', c, (List.range l).map f, by simpa using hcs', ⟨?_, ?_⟩, ?_, ?_⟩
    · intro y hy
      simp only [List.mem_map, List.mem_range] at hy
      obtain ⟨i, hi, rfl⟩ := hy
      exact (hf i hi).2.v
    · by_cases h0 : l = 0
      · left; subst h0; rfl
      · right
        obtain ⟨b, off, spot⟩ := x'
        have h00 := (hf 0 (by omega)).1 0 _ rfl
        have hspot : spot = none := by simpa [Addr.add] using World.cell?_spot h00
        subst hspot
        have hlt := World.block_lt_of_cell? _ _ h00
        refine ⟨b, off, rfl, by simpa [Addr.add] using hlt, fun j hj => ?_⟩
        have hj' : j < l := by simpa using hj
        have k := (hf j hj').1
        have eg : ((List.range l).map f).getD j dgo = f j := by
          rw [List.getD_eq_getElem?_getD, List.getElem?_map, List.getElem?_range hj']
          rfl
        rw [eg]
        have kk : ∀ q v, (Value.int .i64 (f j).k :: rc1 (f j).x)[q]? = some v → W.cell? ⟨b, off + j * 7 + q, none⟩ = some v := fun q v hq => by
          have := k q v hq
          rw [Go.WideShapes.add_plain, Go.WideShapes.add_plain] at this
          exact this
        exact ⟨kk 0 _ rfl, kk 1 _ rfl, kk 2 _ rfl, kk 3 _ rfl, kk 4 _ rfl, kk 5 _ rfl, kk 6 _ rfl⟩
    · simp only [List.length_map, List.length_range]
      unfold reachBytes at hl0
      unfold LL
      omega
    · intro y hy
      simp only [List.mem_map, List.mem_range] at hy
      obtain ⟨i, hi, rfl⟩ := hy
      exact (hf i hi).2
theorem Try.cBnd : Try.prog.cellsOf 35 = 7 := by kernel_rfl
theorem Try.cI32 : Try.prog.cellsOf 21 = 1 := by kernel_rfl
set_option maxRecDepth 20000 in
theorem open_bnd {fuel : Nat} {cs : List Value} {x : DataW H × List MemPlace} (h : DataW.trod enc Try.prog W 0 (fun _ => true) true fuel 35 cs = some x) : ∃ b : Bnd, cs = bndC b ∧ BndIn b := by
  obtain ⟨xs, n, _, rfl, hlen, hxs, hf⟩ := DataW.trod_struct Try.underlying35 h
  rw [Try.cBnd] at hlen
  match xs, hxs with
  | [y0, y1, y2, y3, y4, y5, y6], _ =>
    have k0 : DataW.trod enc Try.prog W 0 (fun _ => true) true n 3 ((cs.drop 0).take (Try.prog.cellsOf 3)) = some y0 := hf 0 _ rfl
    have k1 : DataW.trod enc Try.prog W 0 (fun _ => true) true n 3 ((cs.drop 1).take (Try.prog.cellsOf 3)) = some y1 := hf 1 _ rfl
    have k2 : DataW.trod enc Try.prog W 0 (fun _ => true) true n 3 ((cs.drop 2).take (Try.prog.cellsOf 3)) = some y2 := hf 2 _ rfl
    have k3 : DataW.trod enc Try.prog W 0 (fun _ => true) true n 2 ((cs.drop 3).take (Try.prog.cellsOf 2)) = some y3 := hf 3 _ rfl
    have k4 : DataW.trod enc Try.prog W 0 (fun _ => true) true n 4 ((cs.drop 4).take (Try.prog.cellsOf 4)) = some y4 := hf 4 _ rfl
    have k5 : DataW.trod enc Try.prog W 0 (fun _ => true) true n 2 ((cs.drop 5).take (Try.prog.cellsOf 2)) = some y5 := hf 5 _ rfl
    have k6 : DataW.trod enc Try.prog W 0 (fun _ => true) true n 21 ((cs.drop 6).take (Try.prog.cellsOf 21)) = some y6 := hf 6 _ rfl
    rw [Try.cInt] at k0 k1 k2
    rw [Try.cI64] at k3 k5
    rw [Try.cBool] at k4
    rw [Try.cI32] at k6
    obtain ⟨R, q0, r0, w0⟩ := DataW.trod_int Try.underlying3 k0
    obtain ⟨P, q1, r1, w1⟩ := DataW.trod_int Try.underlying3 k1
    obtain ⟨F, q2, r2, w2⟩ := DataW.trod_int Try.underlying3 k2
    obtain ⟨sp, q3, r3, w3⟩ := DataW.trod_int Try.underlying2 k3
    obtain ⟨pk, q4, r4⟩ := DataW.trod_bool Try.underlying4 k4
    obtain ⟨pr, q5, r5, w5⟩ := DataW.trod_int Try.underlying2 k5
    obtain ⟨sq, q6, r6, w6⟩ := DataW.trod_int Try.underlying21 k6
    match cs, hlen with
    | [c0, c1, c2, c3, c4, c5, c6], _ =>
      simp at q0 q1 q2 q3 q4 q5 q6
      subst q0 q1 q2 q3 q4 q5 q6
      exact ⟨⟨R, P, F, sp, pk, pr, sq⟩, rfl, ⟨(bounds_i64 w3).1, (bounds_i64 w3).2⟩, ⟨(bounds_i64 w5).1, (bounds_i64 w5).2⟩, ⟨(bounds_i32 w6).1, (bounds_i32 w6).2⟩⟩
end Go.Proofs.Ytlbkkeoffeohnab
