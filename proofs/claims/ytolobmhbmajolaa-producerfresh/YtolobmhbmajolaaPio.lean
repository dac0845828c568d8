/- What came in: rows of calls, where they lie. -/
import Derived.Test.YtolobmhbmajolaaPfo
import Derived.Test.YtolobmhbmajolaaPi5
namespace Go.Proofs.Ytolobmhbmajolaa
open Go.ChangeShapes Go.WideShapes Go.ChangeAt Go.RowKit Go.Deep
variable {H : Type} {enc : TypeId × Value → H} {W : World}
def oq0 : Oq := ⟨0, hd0, 0⟩
/-- The ten cells of a call. -/
def Ten (w : World) (b o : Nat) (x : Oq) : Prop := w.cell? ⟨b, o, none⟩ = some (.int .u8 x.k) ∧ w.cell? ⟨b, o + 1, none⟩ = some (.int .i64 x.h.b) ∧ w.cell? ⟨b, o + 2, none⟩ = some (.int .i64 x.h.l) ∧ w.cell? ⟨b, o + 3, none⟩ = some (.bool x.h.pk) ∧ w.cell? ⟨b, o + 4, none⟩ = some (.int .i64 x.h.c) ∧ w.cell? ⟨b, o + 5, none⟩ = some (.int .i64 x.h.f) ∧ w.cell? ⟨b, o + 6, none⟩ = some (.int .i64 x.h.g) ∧ w.cell? ⟨b, o + 7, none⟩ = some (.int .i64 x.h.p) ∧ w.cell? ⟨b, o + 8, none⟩ = some (.int .i32 x.h.s) ∧ w.cell? ⟨b, o + 9, none⟩ = some (.int .i64 x.n)
theorem Ten.keep {w w' : World} {b o : Nat} {x : Oq} (h : Ten w b o x) (k : w'.heap[b]? = w.heap[b]?) : Ten w' b o x := by
  have hc : ∀ o, w'.cell? ⟨b, o, none⟩ = w.cell? ⟨b, o, none⟩ := fun o => by simp [World.cell?, k]
  unfold Ten at *
  simp only [hc]
  exact h
/-- A row of calls where it lies. -/
def Ops (w : World) (a : Option Addr) (l : List Oq) : Prop := l = [] ∨ ∃ b off, a = some ⟨b, off, none⟩ ∧ b < w.heap.size ∧ ∀ j, j < l.length → Ten w b (off + j * 10) (l.getD j oq0)
theorem Ops.keep {w w' : World} {a : Option Addr} {l : List Oq} (h : Ops w a l) (hs : w.heap.size ≤ w'.heap.size) (hb : ∀ ad, a = some ad → ad.block < w.heap.size → w'.heap[ad.block]? = w.heap[ad.block]?) : Ops w' a l := by
  rcases h with h | ⟨b, off, rfl, h2, h3⟩
  · exact Or.inl h
  · exact Or.inr ⟨b, off, rfl, Nat.lt_of_lt_of_le h2 hs, fun j hj => (h3 j hj).keep (hb _ rfl h2)⟩
theorem Ops.below {w w' : World} {a : Option Addr} {l : List Oq} (h : Ops w a l) (hb : Below w.heap.size w w') : Ops w' a l := h.keep hb.size fun _ _ hlt => hb.block _ hlt
theorem Try.cOp : Try.prog.cellsOf 31 = 10 := by kernel_rfl
theorem Try.bOp : Try.prog.bytesOf 31 = 80 := by kernel_rfl
theorem Try.cU8 : Try.prog.cellsOf 5 = 1 := by kernel_rfl
theorem list10 {α : Type} : ∀ {l : List α}, l.length = 10 → ∃ a b c d e f g h i j, l = [a, b, c, d, e, f, g, h, i, j]
  | [a, b, c, d, e, f, g, h, i, j], _ => ⟨a, b, c, d, e, f, g, h, i, j, rfl⟩
theorem open_op {fuel : Nat} {cs : List Value} {x : DataW H × List MemPlace} (h : DataW.trod enc Try.prog W 0 (fun _ => true) true fuel 31 cs = some x) : ∃ o : Oq, cs = (ov o).toList ∧ OqOk o := by
  obtain ⟨xs, n', _, _, hlen, hxs, hf'⟩ := DataW.trod_struct Try.underlying31 h
  rw [Try.cOp] at hlen
  match xs, hxs with
  | [y0, y1, y2], _ =>
    have k0 : DataW.trod enc Try.prog W 0 (fun _ => true) true n' 5 ((cs.drop 0).take (Try.prog.cellsOf 5)) = some y0 := hf' 0 _ rfl
    have k1 : DataW.trod enc Try.prog W 0 (fun _ => true) true n' 29 ((cs.drop 1).take (Try.prog.cellsOf 29)) = some y1 := hf' 1 _ rfl
    have k2 : DataW.trod enc Try.prog W 0 (fun _ => true) true n' 2 ((cs.drop 9).take (Try.prog.cellsOf 2)) = some y2 := hf' 2 _ rfl
    rw [Try.cU8] at k0
    rw [Try.cHd] at k1
    rw [Try.cI64] at k2
    obtain ⟨z0, q0, r0, wf0⟩ := DataW.trod_int Try.underlying5 k0
    obtain ⟨z2, q2, r2, wf2⟩ := DataW.trod_int Try.underlying2 k2
    obtain ⟨hh, q1, hok⟩ := open_hd k1
    obtain ⟨u0, u1, u2, u3, u4, u5, u6, u7, u8, u9, rfl⟩ := list10 hlen
    have b0 := bounds_u8 wf0
    simp [hv] at q0 q1 q2
    obtain ⟨e1, e2, e3, e4, e5, e6, e7, e8⟩ := q1
    refine ⟨⟨z0.toNat, hh, z2⟩, ?_, ⟨by show z0.toNat < 256; omega, hok⟩⟩
    have ez : ((z0.toNat : Nat) : Int) = z0 := by omega
    simp [ov, q0, q2, e1, e2, e3, e4, e5, e6, e7, e8]
    omega
theorem open_ops {fuel : Nat} {cs : List Value} {x : DataW H × List MemPlace} (h : DataW.trod enc Try.prog W 0 (fun _ => true) true fuel 22 cs = some x) (hz : ∀ n ∈ x.1.weights Try.prog 22, n ≤ reachBytes) : ∃ (a : Option Addr) (cap : Nat) (l : List Oq), cs = [.slice a l.length cap] ∧ Ops W a l ∧ (l.length * 80 ≤ reachBytes ∧ l.length ≤ cap ∧ cap ≤ maxLen) ∧ ∀ o ∈ l, OqOk o := by
  haveI : Inhabited Oq := ⟨oq0⟩
  rcases open_slice Try.underlying22 h with ⟨hcs', hx⟩ | ⟨x', l, c, m, n, D, Pl, hcs', _, hl', hm, hmm, hx, hel⟩
  · exact ⟨none, 0, [], by simpa using hcs', Or.inl rfl, ⟨by simp, by simp, by unfold maxLen; omega⟩, by simp⟩
  · simp only [if_true] at hmm
    subst hx
    simp only [DataW.weights, Try.underlying22, List.length_map, List.length_range, Try.bOp, List.mem_cons, List.mem_append] at hz
    have hl0 := hz _ (Or.inl rfl)
    have each : ∀ i, i < l → ∃ o : Oq, (∀ k, k < 10 → W.cell? ((x'.add (i * 10)).add k) = ((ov o).toList)[k]?) ∧ OqOk o := by
      intro i hi
      obtain ⟨cs', e1, e2⟩ := hel i (by omega)
      rw [Try.cOp] at e1
      obtain ⟨o, rfl, ho⟩ := open_op e2
      have g := World.cells?_some e1
      exact ⟨o, fun k hk => g.2.2 k hk, ho⟩
    obtain ⟨f, hf⟩ := choose_lt each
    refine ⟨some x', c, (List.range l).map f, by simpa using hcs', ?_, ⟨?_, by simpa using hl', hm⟩, ?_⟩
    · by_cases h0 : l = 0
      · left; subst h0; rfl
      · right
        obtain ⟨b, off, spot⟩ := x'
        have h00 : W.cell? (((⟨b, off, spot⟩ : Addr).add (0 * 10)).add 0) = some (.int .u8 (f 0).k) := (hf 0 (by omega)).1 0 (by omega)
        have hspot : spot = none := by simpa [Addr.add] using World.cell?_spot h00
        subst hspot
        have hlt := World.block_lt_of_cell? _ _ h00
        refine ⟨b, off, rfl, by simpa [Addr.add] using hlt, fun j hj => ?_⟩
        have hj' : j < l := by simpa using hj
        have k := (hf j hj').1
        have eg : ((List.range l).map f).getD j oq0 = f j := by
          rw [List.getD_eq_getElem?_getD, List.getElem?_map, List.getElem?_range hj']
          rfl
        rw [eg]
        have kk : ∀ i, i < 10 → W.cell? ⟨b, off + j * 10 + i, none⟩ = ((ov (f j)).toList)[i]? := fun i hi => by
          have := k i hi
          rw [Go.WideShapes.add_plain, Go.WideShapes.add_plain] at this
          exact this
        exact ⟨kk 0 (by omega), kk 1 (by omega), kk 2 (by omega), kk 3 (by omega), kk 4 (by omega), kk 5 (by omega), kk 6 (by omega), kk 7 (by omega), kk 8 (by omega), kk 9 (by omega)⟩
    · simp only [List.length_map, List.length_range]
      unfold reachBytes at *
      omega
    · intro o ho
      simp only [List.mem_map, List.mem_range] at ho
      obtain ⟨i, hi, rfl⟩ := ho
      exact (hf i hi).2
end Go.Proofs.Ytolobmhbmajolaa
