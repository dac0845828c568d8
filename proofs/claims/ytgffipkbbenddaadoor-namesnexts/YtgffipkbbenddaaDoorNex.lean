/- NamesNexts: every Next, of segments in any order. -/
import Derived.Test.YtgffipkbbenddaaDoorSgm
import Derived.Test.YtgffipkbbenddaaDoorSam
import Derived.Test.YtgffipkbbenddaaDoorNxp
import Derived.Laws.IdiomArrays
namespace Go.Proofs.YtgffipkbbenddaaDoor
open Go.ChangeShapes Go.WideShapes Go.ChangeAt Go.RowKit Go.Deep Go.Lib
theorem Tryd.cSeg : Tryd.prog.cellsOf 65 = 4 := by kernel_rfl
theorem Tryd.bSeg : Tryd.prog.bytesOf 65 = 16 := by kernel_rfl
theorem Tryd.cI : Tryd.prog.cellsOf 2 = 1 := by kernel_rfl
theorem Tryd.c3b : Tryd.prog.cellsOf 43 = 3 := by kernel_rfl
theorem Tryd.cB : Tryd.prog.cellsOf 4 = 1 := by kernel_rfl
theorem open_seg {H : Type} {enc : TypeId × Value → H} {W : World} {fuel : Nat} {cs : List Value} {x : DataW H × List MemPlace} (h : DataW.trod enc Tryd.prog W 0 (fun _ => true) true fuel 65 cs = some x) : ∃ s : Sg, cs = sgc s := by
  obtain ⟨y0, y1, n, rfl, hlen, k0, k1⟩ := trod_struct2 Tryd.underlying65 h
  rw [Tryd.cSeg] at hlen
  simp only [Tryd.cI, Tryd.c3b] at k0 k1
  obtain ⟨b, q0, r0, w0⟩ := DataW.trod_int Tryd.underlying2 k0
  match cs, hlen with
  | [u, v0, v1, v2], _ =>
    simp at q0
    subst q0
    have k1' : DataW.trod enc Tryd.prog W 0 (fun _ => true) true n 43 [v0, v1, v2] = some y1 := k1
    obtain ⟨z0, z1, z2, m, _, g0, g1, g2⟩ := trod_array3 Tryd.underlying43 Tryd.cB k1'
    obtain ⟨b0, e0, _⟩ := DataW.trod_bool Tryd.underlying4 g0
    obtain ⟨b1, e1, _⟩ := DataW.trod_bool Tryd.underlying4 g1
    obtain ⟨b2, e2, _⟩ := DataW.trod_bool Tryd.underlying4 g2
    simp only [List.cons.injEq, and_true] at e0 e1 e2
    subst e0 e1 e2
    exact ⟨⟨b, b0, b1, b2⟩, rfl⟩
theorem open_segs {H : Type} {enc : TypeId × Value → H} {W : World} {fuel : Nat} {cs : List Value} {x : DataW H × List MemPlace} (h : DataW.trod enc Tryd.prog W 0 (fun _ => true) true fuel 35 cs = some x) (hz : ∀ n ∈ x.1.weights Tryd.prog 35, n ≤ reachBytes) : ∃ (a : Option Addr) (cap : Nat) (l : List Sg), cs = [.slice a l.length cap] ∧ Sgs W a l ∧ l.length ≤ 8796093022208 ∧ True := by
  rcases open_slice Tryd.underlying35 h with ⟨hcs', hx⟩ | ⟨x', l, c, m, n, D, Pl, hcs', _, hl', hm, hmm, hx, hel⟩
  · exact ⟨none, 0, [], by simpa using hcs', Or.inl rfl, by simp, trivial⟩
  · simp only [if_true] at hmm
    subst hx
    simp only [DataW.weights, Tryd.underlying35, List.length_map, List.length_range, Tryd.bSeg, List.mem_cons, List.mem_append] at hz
    have hl0 := hz _ (Or.inl rfl)
    have each : ∀ i, i < l → ∃ o : Sg, W.cell? ((x'.add (i * 4)).add 0) = some (.int .i64 o.b) ∧ W.cell? ((x'.add (i * 4)).add 1) = some (.bool o.x) ∧ W.cell? ((x'.add (i * 4)).add 2) = some (.bool o.y) ∧ W.cell? ((x'.add (i * 4)).add 3) = some (.bool o.z) := by
      intro i hi
      obtain ⟨cs', e1, e2⟩ := hel i (by omega)
      rw [Tryd.cSeg] at e1
      obtain ⟨y, hy⟩ := open_seg e2
      have g := (World.cells?_some e1)
      refine ⟨y, ?_, ?_, ?_, ?_⟩
      · rw [g.2.2 0 (by omega), hy]; rfl
      · rw [g.2.2 1 (by omega), hy]; rfl
      · rw [g.2.2 2 (by omega), hy]; rfl
      · rw [g.2.2 3 (by omega), hy]; rfl
    haveI : Inhabited Sg := ⟨sg0⟩
    obtain ⟨f, hf⟩ := choose_lt each
    refine ⟨some x', c, (List.range l).map f, by simpa using hcs', ?_, ?_, trivial⟩
    · by_cases h0 : l = 0
      · left; subst h0; rfl
      · right
        obtain ⟨b, off, spot⟩ := x'
        have h00 := (hf 0 (by omega)).1
        have hspot : spot = none := by simpa [Addr.add] using World.cell?_spot h00
        subst hspot
        have hlt := World.block_lt_of_cell? _ _ h00
        refine ⟨b, off, rfl, by simpa [Addr.add] using hlt, fun j hj => ?_⟩
        have hj' : j < l := by simpa using hj
        obtain ⟨k0, k1, k2, k3⟩ := hf j hj'
        rw [Go.WideShapes.add_plain, Go.WideShapes.add_plain] at k0 k1 k2 k3
        have eg : ((List.range l).map f).getD j sg0 = f j := by
          rw [List.getD_eq_getElem?_getD, List.getElem?_map, List.getElem?_range hj']
          rfl
        rw [eg]
        exact ⟨by simpa using k0, k1, k2, k3⟩
    · simp only [List.length_map, List.length_range]
      unfold reachBytes at hl0
      omega
set_option maxRecDepth 20000 in
set_option maxHeartbeats 1000000 in
theorem nexts_walk (base : Int) (l : List Sg) (a : Option Addr) (cap : Nat) (w : World) (G : Gd w) (hv : Sgs w a l) (hn : l.length ≤ 8796093022208) (_ : True) :
    Calls Tryd.prog 6 #[.int .i64 base, .slice a l.length cap] w fun e w' => e = .returned (.bool true) ∧ Below w.heap.size w w' := by
  have HA := hid (awake_any w G)
  have HS : Hid (∀ wx, Below w.heap.size w wx → Calls Tryd.prog 18 #[.slice a l.length cap] wx fun e w' => (∃ a2 c2, e = .returned (.slice a2 l.length c2) ∧ Sgs w' a2 l) ∧ Below w.heap.size w w') := fun wx hx => by
    refine (segments_any l a cap wx (hv.kept hx (Nat.le_refl _)) hn).mono ?_
    rintro e w' ⟨⟨v, rfl, ho⟩, hb⟩
    obtain ⟨a2, c2, rfl, hs⟩ := ho.sgs
    exact ⟨⟨a2, c2, rfl, hs⟩, hx.trans (hb.mono hx.size)⟩
  have HNX : Hid (∀ a2 c2 wx, Sgs wx a2 l → Below w.heap.size w wx → Calls Tryd.prog 19 #[.int .i64 base, .slice a2 l.length c2] wx fun e w' => e = .returned (.tuple #[.int .i64 (nxs base l).1, .bool (nxs base l).2]) ∧ Sgs w' a2 l ∧ Below w.heap.size w w') := fun a2 c2 wx hs hx => by
    refine (next_any base l a2 c2 wx hs (by omega)).mono ?_
    rintro e w' ⟨rfl, hb⟩
    exact ⟨rfl, hs.kept hb (Nat.le_refl _), hx.trans (hb.mono hx.size)⟩
  have HRX : Hid (∀ a2 wx, Sgs wx a2 l → Below w.heap.size w wx → Calls Tryd.prog 20 #[.int .i64 base, .slice a l.length cap] wx fun e w' => e = .returned (.tuple #[.int .i64 (nxs base l).1, .bool (nxs base l).2]) ∧ Sgs w' a2 l ∧ Below w.heap.size w w') := fun a2 wx hs hx => by
    refine (rnext_any base l a cap wx (hv.kept hx (Nat.le_refl _)) (by omega)).mono ?_
    rintro e w' ⟨rfl, hb⟩
    exact ⟨rfl, hs.kept hb (Nat.le_refl _), hx.trans (hb.mono hx.size)⟩
  have HM : Hid (∀ a2 c2 wx, Sgs wx a2 l → Below w.heap.size w wx → Calls Tryd.prog 16 #[.slice a2 l.length c2, .slice a l.length cap] wx fun e w' => e = .returned (.bool true) ∧ Below w.heap.size w w') := fun a2 c2 wx hs hx => by
    refine (same_yes l a2 a c2 cap wx hs (hv.kept hx (Nat.le_refl _)) (by omega)).mono ?_
    rintro e w' ⟨rfl, hb⟩
    exact ⟨rfl, hx.trans (hb.mono hx.size)⟩
  generalize (nxs base l).1 = X at *
  generalize (nxs base l).2 = Y at *
  generalize l.length = N at *
  clear G hv hn
  go_enter Tryd.func6, Tryd.ntmps6
  go_wp2_with (first | (go_at_call 9; refine HA.out.mono ?_; rintro e w1 ⟨rfl, hb1⟩) | (go_at_call 18; refine (HS.out _ hb1).mono ?_; rintro e w2 ⟨⟨a2, c2, rfl, hs2⟩, hb2⟩; have H2 := hid (And.intro hs2 hb2); clear hs2) | (go_at_call 19; refine (HNX.out _ _ _ H2.out.1 hb2).mono ?_; rintro e w3 ⟨rfl, hs3, hb3⟩; have H3 := hid hs3; clear hs3) | (go_at_call 20; refine (HRX.out a2 _ H3.out hb3).mono ?_; rintro e w4 ⟨rfl, hs4, hb4⟩; have H4 := hid hs4; clear hs4) | (go_at_call 16; refine (HM.out a2 _ _ H4.out hb4).mono ?_; rintro e w5 ⟨rfl, hb5⟩))

  go_ret
  exact ⟨rfl, hb5⟩
end Go.Proofs.YtgffipkbbenddaaDoor
