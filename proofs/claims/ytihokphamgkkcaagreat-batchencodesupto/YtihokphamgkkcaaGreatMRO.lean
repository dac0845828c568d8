/- Texts of the proof, put together: RecsOpen, Bbo. -/
import Derived.Test.YtihokphamgkkcaaGreatMR
import Derived.Test.YtihokphamgkkcaaGreatMB5
namespace Go.Proofs.YtihokphamgkkcaaGreat
open Go.ChangeShapes Go.WideShapes Go.ChangeAt Go.RowKit Go.Deep
variable {H : Type} {enc : TypeId × Value → H} {W : World}
instance : Inhabited RI := ⟨dri⟩
def rbk (l : List RI) : Nat := (l.map fun x => x.r.kd.size + x.r.vd.size + hbk x.r.hs + 1).sum
theorem rbk_mem {l : List RI} {x : RI} (h : x ∈ l) : x.r.kd.size + x.r.vd.size + hbk x.r.hs + 1 ≤ rbk l := by
  unfold rbk
  induction l with
  | nil => simp at h
  | cons y l ih =>
    rw [List.map_cons, List.sum_cons]
    rcases List.mem_cons.1 h with rfl | h
    · omega
    · have := ih h; omega
theorem rbk_len (l : List RI) : l.length ≤ rbk l := by
  unfold rbk
  induction l with
  | nil => simp
  | cons y l ih => rw [List.map_cons, List.sum_cons, List.length_cons]; omega
theorem sum_ler {H : Type} (f : Nat → RI) (D : Nat → DataW H) : ∀ (l : List Nat), (∀ i ∈ l, (f i).r.kd.size + (f i).r.vd.size + hbk (f i).r.hs + 1 ≤ Rows.uptoBulk (D i)) → rbk (l.map f) ≤ Rows.uptoBulkAll (l.map D)
  | [], _ => by simp [rbk, Rows.uptoBulkAll]
  | i :: l, h => by
    have ih := sum_ler f D l (fun j hj => h j (List.mem_cons_of_mem _ hj))
    have h0 := h i (List.mem_cons_self ..)
    simp only [rbk, List.map_cons, List.sum_cons, Rows.uptoBulkAll] at ih ⊢
    omega
set_option maxRecDepth 20000 in
theorem open_recs {fuel : Nat} {cs : List Value} {x : DataW H × List MemPlace} (h : DataW.trod enc Tryz.prog W 0 (fun _ => true) true fuel 22 cs = some x) : ∃ (a : Option Addr) (cap : Nat) (l : List RI), cs = [.slice a l.length cap] ∧ Rcs W a l ∧ rbk l ≤ Rows.uptoBulk x.1 ∧ (∀ y ∈ l, (Lit.int .i64 y.r.t).wf = true) ∧ (∀ y ∈ l, y.a = none → y.cap = 0) := by
  rcases open_slice Tryz.underlying22 h with ⟨hcs', hx⟩ | ⟨x', l, c, m, n, D, Pl, hcs', _, hl', hm, hmm, hx, hel⟩
  · exact ⟨none, 0, [], by simpa using hcs', ⟨fun x hx => by simp at hx, Or.inl rfl⟩, Nat.zero_le _, fun y hy => by simp at hy, fun y hy => by simp at hy⟩
  · simp only [if_true] at hmm
    subst hx
    have each : ∀ i, i < l → ∃ o : RI, (W.cell? ((x'.add (i * 6)).add 0) = some (.int .i64 o.r.t) ∧ W.cell? ((x'.add (i * 6)).add 1) = some (.bool o.r.kh) ∧ W.cell? ((x'.add (i * 6)).add 2) = some (.string o.r.kd) ∧ W.cell? ((x'.add (i * 6)).add 3) = some (.bool o.r.vh) ∧ W.cell? ((x'.add (i * 6)).add 4) = some (.string o.r.vd) ∧ W.cell? ((x'.add (i * 6)).add 5) = some (.slice o.a o.r.hs.length o.cap)) ∧ Hds W o.a o.r.hs ∧ o.r.kd.size + o.r.vd.size + hbk o.r.hs + 1 ≤ Rows.uptoBulk (D i) ∧ (Lit.int .i64 o.r.t).wf = true ∧ (o.a = none → o.cap = 0) := by
      intro i hi
      obtain ⟨cs', e1, e2⟩ := hel i (by omega)
      rw [Tryz.cRec] at e1
      obtain ⟨r, a, cap, hy, V, hb, _, wf, hn⟩ := open_rec e2
      have g := (World.cells?_some e1)
      refine ⟨⟨r, a, cap⟩, ⟨?_, ?_, ?_, ?_, ?_, ?_⟩, V, hb, wf, hn⟩
      · rw [g.2.2 0 (by omega), hy]; rfl
      · rw [g.2.2 1 (by omega), hy]; rfl
      · rw [g.2.2 2 (by omega), hy]; rfl
      · rw [g.2.2 3 (by omega), hy]; rfl
      · rw [g.2.2 4 (by omega), hy]; rfl
      · rw [g.2.2 5 (by omega), hy]; rfl
    obtain ⟨f, hf⟩ := choose_lt each
    refine ⟨some x', c, (List.range l).map f, by simpa using hcs', ⟨?_, ?_⟩, ?_, ?_, ?_⟩
    · intro y hy
      obtain ⟨i, hi, rfl⟩ := List.mem_map.1 hy
      exact (hf i (by simpa using hi)).2.1
    · by_cases h0 : l = 0
      · left; subst h0; rfl
      · right
        obtain ⟨b, off, spot⟩ := x'
        have h00 := (hf 0 (by omega)).1.1
        have hspot : spot = none := by simpa [Addr.add] using World.cell?_spot h00
        subst hspot
        have hlt := World.block_lt_of_cell? _ _ h00
        refine ⟨b, off, rfl, by simpa [Addr.add] using hlt, fun j hj => ?_⟩
        have hj' : j < l := by simpa using hj
        obtain ⟨⟨k0, k1, k2, k3, k4, k5⟩, _⟩ := hf j hj'
        rw [Go.WideShapes.add_plain, Go.WideShapes.add_plain] at k0 k1 k2 k3 k4 k5
        have eg : ((List.range l).map f).getD j dri = f j := by
          rw [List.getD_eq_getElem?_getD, List.getElem?_map, List.getElem?_range hj']
          rfl
        rw [eg]
        exact ⟨by simpa using k0, k1, k2, k3, k4, k5⟩
    · have := sum_ler f D (List.range l) (fun i hi => (hf i (by simpa using hi)).2.2.1)
      simp only [Rows.uptoBulk]
      have := this
      subst hmm
      omega
    · intro y hy
      obtain ⟨i, hi, rfl⟩ := List.mem_map.1 hy
      exact (hf i (by simpa using hi)).2.2.2.1
    · intro y hy
      obtain ⟨i, hi, rfl⟩ := List.mem_map.1 hy
      exact (hf i (by simpa using hi)).2.2.2.2
end Go.Proofs.YtihokphamgkkcaaGreat
namespace Go.Proofs.YtihokphamgkkcaaGreat
open Go.ChangeShapes Go.WideShapes Go.ChangeAt Go.RowKit Go.Deep
theorem Tryz.cBat : Tryz.prog.cellsOf 24 = 5 := by kernel_rfl
theorem Tryz.cI32 : Tryz.prog.cellsOf 21 = 1 := by kernel_rfl
theorem Tryz.cRcs : Tryz.prog.cellsOf 22 = 1 := by kernel_rfl
set_option maxRecDepth 20000 in
theorem open_bat {H : Type} {enc : TypeId × Value → H} {W : World} {fuel : Nat} {cs : List Value} {x : DataW H × List MemPlace} (h : DataW.trod enc Tryz.prog W 0 (fun _ => true) true fuel 24 cs = some x) :
    ∃ b : Bt, cs = [.int .i64 b.base, .bool b.pk, .int .i64 b.prod, .int .i32 b.seq, .slice b.a b.l.length b.cap] ∧ Rcs W b.a b.l ∧ rbk b.l ≤ Rows.uptoBulk x.1 ∧ (∀ y ∈ b.l, (Lit.int .i64 y.r.t).wf = true) ∧ (Lit.int .i64 b.base).wf = true ∧ (Lit.int .i64 b.prod).wf = true ∧ (Lit.int .i32 b.seq).wf = true := by
  obtain ⟨xs, n, _, rfl, hlen, hxs, hf⟩ := DataW.trod_struct Tryz.underlying24 h
  rw [Tryz.cBat] at hlen
  match xs, hxs with
  | [y0, y1, y2, y3, y4], _ =>
    have k0 : DataW.trod enc Tryz.prog W 0 (fun _ => true) true n 2 ((cs.drop 0).take (Tryz.prog.cellsOf 2)) = some y0 := hf 0 _ rfl
    have k1 : DataW.trod enc Tryz.prog W 0 (fun _ => true) true n 4 ((cs.drop 1).take (Tryz.prog.cellsOf 4)) = some y1 := hf 1 _ rfl
    have k2 : DataW.trod enc Tryz.prog W 0 (fun _ => true) true n 2 ((cs.drop 2).take (Tryz.prog.cellsOf 2)) = some y2 := hf 2 _ rfl
    have k3 : DataW.trod enc Tryz.prog W 0 (fun _ => true) true n 21 ((cs.drop 3).take (Tryz.prog.cellsOf 21)) = some y3 := hf 3 _ rfl
    have k4 : DataW.trod enc Tryz.prog W 0 (fun _ => true) true n 22 ((cs.drop 4).take (Tryz.prog.cellsOf 22)) = some y4 := hf 4 _ rfl
    rw [Tryz.cI64] at k0 k2
    rw [Tryz.cBool] at k1
    rw [Tryz.cI32] at k3
    rw [Tryz.cRcs] at k4
    obtain ⟨base, q0, r0, w0⟩ := DataW.trod_int Tryz.underlying2 k0
    obtain ⟨pk, q1, r1⟩ := DataW.trod_bool Tryz.underlying4 k1
    obtain ⟨prod, q2, r2, w2⟩ := DataW.trod_int Tryz.underlying2 k2
    obtain ⟨seq, q3, r3, w3⟩ := DataW.trod_int Tryz.underlying21 k3
    obtain ⟨a, cap, l, q4, V, r4, w4, _⟩ := open_recs k4
    match cs, hlen with
    | [c0, c1, c2, c3, c4], _ =>
      simp at q0 q1 q2 q3 q4
      subst q0 q1 q2 q3 q4
      refine ⟨⟨base, pk, prod, seq, l, a, cap⟩, rfl, V, ?_, w4, w0, w2, w3⟩
      simp [Rows.uptoBulk, Rows.uptoBulkAll]
      omega
theorem btok_of {b : Bt} (h : rbk b.l ≤ 1048576) (w4 : ∀ y ∈ b.l, (Lit.int .i64 y.r.t).wf = true) (w2 : (Lit.int .i64 b.prod).wf = true) (w3 : (Lit.int .i32 b.seq).wf = true) : BtOk b := by
  have hl := rbk_len b.l
  refine ⟨fun x hx => bounds_i64 (w4 x hx), fun x hx => mod_of (by have := rbk_mem hx; omega), by omega, (bounds_i64 w2).1, (bounds_i64 w2).2, (bounds_i32 w3).1, (bounds_i32 w3).2⟩
end Go.Proofs.YtihokphamgkkcaaGreat
