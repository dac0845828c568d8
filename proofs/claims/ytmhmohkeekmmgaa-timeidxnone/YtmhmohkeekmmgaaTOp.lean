/- Scripts of calls: where they lie; an index and the document's beside a call's box; what a script that came in is. -/
import Derived.Test.YtmhmohkeekmmgaaTEo
import Derived.Test.YtmhmohkeekmmgaaTpt
import Derived.Test.YtmhmohkeekmmgaaTag
namespace Go.Proofs.Ytmhmohkeekmmgaa
open Go.ChangeShapes Go.WideShapes Go.ChangeAt Go.RowKit Go.Deep
/-- A call of the script: its kind, its entry, its number. -/
structure Op4 where
  k : Int
  e : En
  n : Int
def op0 : Op4 := ⟨0, en0, 0⟩
def Ops (w : World) (a : Option Addr) (l : List Op4) : Prop := l = [] ∨ ∃ b off, a = some ⟨b, off, none⟩ ∧ b < w.heap.size ∧ ∀ j, j < l.length → w.cell? ⟨b, off + j * 4, none⟩ = some (.int .u8 (l.getD j op0).k) ∧ w.cell? ⟨b, off + j * 4 + 1, none⟩ = some (.int .i64 (l.getD j op0).e.k) ∧ w.cell? ⟨b, off + j * 4 + 2, none⟩ = some (.int .i64 (l.getD j op0).e.a) ∧ w.cell? ⟨b, off + j * 4 + 3, none⟩ = some (.int .i64 (l.getD j op0).n)
/-- What is read of it in a later world. -/
theorem Ops.read {w : World} {a : Option Addr} {l : List Op4} (h : Ops w a l) {j : Nat} (hj : j < l.length) : ∃ b off, a = some ⟨b, off, none⟩ ∧ b < w.heap.size ∧ ∀ wx, Below w.heap.size w wx → ∀ k ek ea n, l.getD j op0 = ⟨k, ⟨ek, ea⟩, n⟩ → wx.cell? ⟨b, off + j * 4, none⟩ = some (.int .u8 k) ∧ wx.cell? ⟨b, off + j * 4 + 1, none⟩ = some (.int .i64 ek) ∧ wx.cell? ⟨b, off + j * 4 + 2, none⟩ = some (.int .i64 ea) ∧ wx.cell? ⟨b, off + j * 4 + 3, none⟩ = some (.int .i64 n) := by
  rcases h with e | ⟨b, off, rfl, hb, hc⟩
  · rw [e] at hj; cases hj
  · refine ⟨b, off, rfl, hb, fun wx hx k ek ea n he => ?_⟩
    obtain ⟨h0, h1, h2, h3⟩ := hc j hj
    rw [he] at h0 h1 h2 h3
    exact ⟨(hx.cell (p := ⟨b, off + j * 4, none⟩) hb).trans h0, (hx.cell (p := ⟨b, off + j * 4 + 1, none⟩) hb).trans h1, (hx.cell (p := ⟨b, off + j * 4 + 2, none⟩) hb).trans h2, (hx.cell (p := ⟨b, off + j * 4 + 3, none⟩) hb).trans h3⟩
theorem box4 {w : World} {b : Nat} {k ek ea n : Int} {T : TypeId} (h : w.heap[b]? = some (.cells #[.int .u8 k, .int .i64 ek, .int .i64 ea, .int .i64 n] T (0, 0))) : w.cell? ⟨b, 0, none⟩ = some (.int .u8 k) ∧ w.cell? ⟨b, 1, none⟩ = some (.int .i64 ek) ∧ w.cell? ⟨b, 2, none⟩ = some (.int .i64 ea) ∧ w.cell? ⟨b, 3, none⟩ = some (.int .i64 n) ∧ b < w.heap.size := ⟨(cell_of h).trans rfl, (cell_of h).trans rfl, (cell_of h).trans rfl, (cell_of h).trans rfl, lt_of_heap h⟩
theorem Ix.no {T T' : TypeId} {w : World} {x b : Nat} {v : Value} {l : List En} {c : Array Value} {fz : Nat × Nat} (h : Ix T w x v l) (hb : w.heap[b]? = some (.cells c T' fz)) (h1 : T' ≠ T) (h2 : T' ≠ 29) : ¬ IS x v b := by
  rintro (rfl | hi)
  · have := h.blk
    rw [hb] at this
    injection this with this
    injection this with _ this _
    exact h1 this
  · obtain ⟨cur, hc⟩ := h.row.at hi
    rw [hb] at hc
    injection hc with hc
    injection hc with _ hc _
    exact h2 hc
/-- The box of a call. -/
def OB (k ek ea n : Int) : Obj := .cells #[.int .u8 k, .int .i64 ek, .int .i64 ea, .int .i64 n] 31 (0, 0)
structure Pb (w wr : World) (B x y bx : Nat) (k ek ea n : Int) (v v' : Value) (l l' : List En) : Prop where
  pt : Pt w wr B x y v v' l l'
  bo : wr.heap[bx]? = some (OB k ek ea n)
theorem Pb.later {w wr wx : World} {B x y bx : Nat} {k ek ea n : Int} {v v' : Value} {l l' : List En} (h : Pb w wr B x y bx k ek ea n v v' l l') (hb : Below wr.heap.size wr wx) : Pb w wx B x y bx k ek ea n v v' l l' := ⟨h.pt.later hb, (hb.block _ (lt_of_heap h.bo)).trans h.bo⟩
theorem Pb.b4 {w wr : World} {B x y bx : Nat} {k ek ea n : Int} {v v' : Value} {l l' : List En} (h : Pb w wr B x y bx k ek ea n v v' l l') : wr.cell? ⟨bx, 0, none⟩ = some (.int .u8 k) ∧ wr.cell? ⟨bx, 1, none⟩ = some (.int .i64 ek) ∧ wr.cell? ⟨bx, 2, none⟩ = some (.int .i64 ea) ∧ wr.cell? ⟨bx, 3, none⟩ = some (.int .i64 n) ∧ bx < wr.heap.size := box4 h.bo
theorem pb_app {w wx : World} {B x y bx : Nat} {k ek ea n : Int} {v v' : Value} {l l' : List En} (e : En) (h : Pb w wx B x y bx k ek ea n v v' l l') (hn : l.length ≤ 8796093022207) : Calls Try.prog 12 #[.pointer (some ⟨x, 0, none⟩), enV e] wx fun r w' => r = .returned (.int .i64 (addC l e)) ∧ ∃ v1, Pb w w' B x y bx k ek ea n v1 v' (addE l e) l' :=
  (pt_app w wx B x y v v' l l' e h.pt hn).mono fun _ _ ⟨h1, v1, h2, h3⟩ => ⟨h1, v1, h2, (h3.block _ (lt_of_heap h.bo) (h.pt.ix.no h.bo (by decide) (by decide))).trans h.bo⟩
theorem pb_rapp {w wx : World} {B x y bx : Nat} {k ek ea n : Int} {v v' : Value} {l l' : List En} (e : En) (h : Pb w wx B x y bx k ek ea n v v' l l') (hn : l'.length ≤ 8796093022207) : Calls Try.prog 13 #[.pointer (some ⟨y, 0, none⟩), enV e] wx fun r w' => r = .returned (.int .i64 (addC l' e)) ∧ ∃ v1, Pb w w' B x y bx k ek ea n v v1 l (addE l' e) :=
  (pt_rapp w wx B x y v v' l l' e h.pt hn).mono fun _ _ ⟨h1, v1, h2, h3⟩ => ⟨h1, v1, h2, (h3.block _ (lt_of_heap h.bo) (h.pt.iy.no h.bo (by decide) (by decide))).trans h.bo⟩
theorem pb_cut {w wx : World} {B x y bx : Nat} {k ek ea n : Int} {v v' : Value} {l l' : List En} (m : Int) (h : Pb w wx B x y bx k ek ea n v v' l l') : Calls Try.prog 14 #[.pointer (some ⟨x, 0, none⟩), .int .i64 m] wx fun r w' => r = .returned (.int .i64 (cutC l m)) ∧ ∃ v1, Pb w w' B x y bx k ek ea n v1 v' (cutE l m) l' :=
  (pt_cut w wx B x y m v v' l l' h.pt).mono fun _ _ ⟨h1, v1, h2, h3⟩ => ⟨h1, v1, h2, (h3.block _ (lt_of_heap h.bo) (h.pt.ix.no h.bo (by decide) (by decide))).trans h.bo⟩
theorem pb_rcut {w wx : World} {B x y bx : Nat} {k ek ea n : Int} {v v' : Value} {l l' : List En} (m : Int) (h : Pb w wx B x y bx k ek ea n v v' l l') (hn : l'.length ≤ 8796093022208) : Calls Try.prog 15 #[.pointer (some ⟨y, 0, none⟩), .int .i64 m] wx fun r w' => r = .returned (.int .i64 (cutC l' m)) ∧ ∃ v1, Pb w w' B x y bx k ek ea n v v1 l (cutE l' m) :=
  (pt_rcut w wx B x y m v v' l l' h.pt hn).mono fun _ _ ⟨h1, v1, h2, h3⟩ => ⟨h1, v1, h2, (h3.block _ (lt_of_heap h.bo) (h.pt.iy.no h.bo (by decide) (by decide))).trans h.bo⟩
theorem pb_found {w wx : World} {B x y bx : Nat} {k ek ea n : Int} {v v' : Value} {l : List En} (t : Int) (h : Pb w wx B x y bx k ek ea n v v' l l) (hO : Ord l) (hn : l.length ≤ 8796093022208) : Calls Try.prog 16 #[.pointer (some ⟨x, 0, none⟩), .pointer (some ⟨y, 0, none⟩), .int .i64 t] wx fun r w' => r = .returned (.bool true) ∧ Pb w w' B x y bx k ek ea n v v' l l :=
  (found_yes _ y t v v' l wx h.pt.ip h.pt.iy hO hn).mono fun _ _ ⟨h1, h2⟩ => ⟨h1, h.later h2⟩
theorem pb_agree {w wx : World} {B x y bx : Nat} {k ek ea n : Int} {v v' : Value} {l : List En} (h : Pb w wx B x y bx k ek ea n v v' l l) (hn : l.length ≤ 8796093022000) : Calls Try.prog 18 #[.pointer (some ⟨x, 0, none⟩), .pointer (some ⟨y, 0, none⟩)] wx fun r w' => r = .returned (.bool true) ∧ Pb w w' B x y bx k ek ea n v v' l l :=
  (agree_yes x y v v' l wx h.pt.ix h.pt.iy hn).mono fun _ _ ⟨h1, h2⟩ => ⟨h1, h.later h2⟩
theorem addE_len9 (l : List En) (e : En) : (addE l e).length ≤ l.length + 1 := by
  unfold addE
  split <;> simp
theorem cutE_len (l : List En) (n : Int) : (cutE l n).length ≤ l.length := by
  unfold cutE
  split
  · rw [List.length_take]; omega
  · exact Nat.le_refl _
theorem Try.cOp3 : Try.prog.cellsOf 31 = 4 := by kernel_rfl
theorem Try.cU8o : Try.prog.cellsOf 5 = 1 := by kernel_rfl
variable {H : Type} {enc : TypeId × Value → H} {W : World}
theorem list4 {α : Type} : ∀ {l : List α}, l.length = 4 → ∃ a b c d, l = [a, b, c, d]
  | [a, b, c, d], _ => ⟨a, b, c, d, rfl⟩
def OpOk (o : Op4) : Prop := EnOk o.e ∧ 0 ≤ o.k ∧ o.k ≤ 255
theorem open_op {fuel : Nat} {cs : List Value} {x : DataW H × List MemPlace} (h : DataW.trod enc Try.prog W 0 (fun _ => true) true fuel 31 cs = some x) : ∃ o : Op4, cs = [.int .u8 o.k, .int .i64 o.e.k, .int .i64 o.e.a, .int .i64 o.n] ∧ OpOk o := by
  obtain ⟨xs, n', _, _, hlen, hxs, hf'⟩ := DataW.trod_struct Try.underlying31 h
  rw [Try.cOp3] at hlen
  match xs, hxs with
  | [y0, y1, y2], _ =>
    have k0 : DataW.trod enc Try.prog W 0 (fun _ => true) true n' 5 ((cs.drop 0).take (Try.prog.cellsOf 5)) = some y0 := hf' 0 _ rfl
    have k1 : DataW.trod enc Try.prog W 0 (fun _ => true) true n' 29 ((cs.drop 1).take (Try.prog.cellsOf 29)) = some y1 := hf' 1 _ rfl
    have k2 : DataW.trod enc Try.prog W 0 (fun _ => true) true n' 3 ((cs.drop 3).take (Try.prog.cellsOf 3)) = some y2 := hf' 2 _ rfl
    rw [Try.cU8o] at k0
    rw [Try.cI3] at k2
    rw [Try.cEn] at k1
    obtain ⟨z0, q0, r0, wf0⟩ := DataW.trod_int Try.underlying5 k0
    obtain ⟨z2, q2, r2, wf2⟩ := DataW.trod_int Try.underlying3 k2
    obtain ⟨e1, q1, ok1⟩ := open_en k1
    obtain ⟨u0, u1, u2, u3, rfl⟩ := list4 hlen
    simp at q0 q1 q2
    exact ⟨⟨z0, e1, z2⟩, by simp [q0, q1.1, q1.2, q2], ok1, (bounds_u8 wf0).1, (bounds_u8 wf0).2⟩
theorem open_ops {fuel : Nat} {cs : List Value} {x : DataW H × List MemPlace} (h : DataW.trod enc Try.prog W 0 (fun _ => true) true fuel 22 cs = some x) (hz : ∀ n ∈ x.1.weights Try.prog 22, n ≤ reachBytes) : ∃ (a : Option Addr) (cap : Nat) (l : List Op4), cs = [.slice a l.length cap] ∧ Ops W a l ∧ l.length ≤ 4398046511104 ∧ ∀ o ∈ l, OpOk o := by
  haveI : Inhabited Op4 := ⟨op0⟩
  rcases open_slice Try.underlying22 h with ⟨hcs', hx⟩ | ⟨x', l, c, m, n, D, Pl, hcs', _, hl', hm, hmm, hx, hel⟩
  · exact ⟨none, 0, [], by simpa using hcs', Or.inl rfl, by simp, by simp⟩
  · simp only [if_true] at hmm
    subst hx
    simp only [DataW.weights, Try.underlying22, List.length_map, List.length_range, Try.bOp, List.mem_cons, List.mem_append] at hz
    have hl0 := hz _ (Or.inl rfl)
    have each : ∀ i, i < l → ∃ o : Op4, W.cell? ((x'.add (i * 4)).add 0) = some (.int .u8 o.k) ∧ W.cell? ((x'.add (i * 4)).add 1) = some (.int .i64 o.e.k) ∧ W.cell? ((x'.add (i * 4)).add 2) = some (.int .i64 o.e.a) ∧ W.cell? ((x'.add (i * 4)).add 3) = some (.int .i64 o.n) ∧ OpOk o := by
      intro i hi
      obtain ⟨cs', e1, e2⟩ := hel i (by omega)
      rw [Try.cOp3] at e1
      obtain ⟨y, hy, hok⟩ := open_op e2
      have g := (World.cells?_some e1)
      refine ⟨y, ?_, ?_, ?_, ?_, hok⟩
      · rw [g.2.2 0 (by omega), hy]; rfl
      · rw [g.2.2 1 (by omega), hy]; rfl
      · rw [g.2.2 2 (by omega), hy]; rfl
      · rw [g.2.2 3 (by omega), hy]; rfl
    obtain ⟨f, hf⟩ := choose_lt each
    refine ⟨some x', c, (List.range l).map f, by simpa using hcs', ?_, ?_, ?_⟩
    · by_cases h0 : l = 0
      · left; subst h0; rfl
      · right
        obtain ⟨b, off, spot⟩ := x'
        have h00 := (hf 0 (by omega)).1
        have hspot : spot = none := by simpa [Addr.add] using World.cell?_spot h00
        subst hspot
        have hlt := World.block_lt_of_cell? _ _ h00
        refine ⟨b, off, rfl, by simpa [Addr.add] using hlt, fun j hj => ?_⟩
        have hj' : j < l := by simpa using hj
        obtain ⟨k0, k1, k2, k3, _⟩ := hf j hj'
        rw [Go.WideShapes.add_plain, Go.WideShapes.add_plain] at k0 k1 k2 k3
        have eg : ((List.range l).map f).getD j op0 = f j := by
          rw [List.getD_eq_getElem?_getD, List.getElem?_map, List.getElem?_range hj']
          rfl
        rw [eg]
        exact ⟨by simpa using k0, k1, k2, k3⟩
    · simp only [List.length_map, List.length_range]
      unfold reachBytes at hl0
      omega
    · intro y hy
      simp only [List.mem_map, List.mem_range] at hy
      obtain ⟨i, hi, rfl⟩ := hy
      exact (hf i hi).2.2.2.2
end Go.Proofs.Ytmhmohkeekmmgaa
