/- Texts of the proof, put together: Gb6. -/
import Derived.Test.YtlbkkeoffeohnaaGF
import Derived.Deep.LoopGhost
namespace Go.Proofs.Ytlbkkeoffeohnaa
open Go.RowKit
/-- A gatherer and the law's own list. -/
structure Fl0 (w : World) (g jb bb : Nat) (s : Gs) (vw : Value) (lw : List RI) (os : List GOp) (wr : World) (S : Nat → Prop) : Prop where
  gq : Gq g jb bb s (Wt vw lw) wr S
  hS : ∀ i, S i → w.heap.size ≤ i
  bel : Below w.heap.size w wr
  ok : GsO s
  mem : ∀ x ∈ lw, ∃ o ∈ os, x = o.x
theorem Fl0.turn {w : World} {g jb bb : Nat} {s s' : Gs} {vw vw' : Value} {lw lw' : List RI} {os : List GOp} {wr x : World} {S S' : Nat → Prop} (h : Fl0 w g jb bb s vw lw os wr S) (hT : Turns S wr (Gq g jb bb s' (Wt vw' lw')) x S') (ok : GsO s') (mem : ∀ x ∈ lw', ∃ o ∈ os, x = o.x) : Fl0 w g jb bb s' vw' lw' os x S' := by
  obtain ⟨h1, h2, _⟩ := hT.base h.hS h.bel h.bel.size
  exact ⟨hT.1, h1, h2, ok, mem⟩
theorem Fl0.al {w : World} {g jb bb : Nat} {s : Gs} {vw : Value} {lw : List RI} {os : List GOp} {wr : World} {S : Nat → Prop} (h : Fl0 w g jb bb s vw lw os wr S) (o : Obj) : Fl0 w g jb bb s vw lw os (wr.alloc o) S :=
  ⟨h.gq.al (Wt.stab vw lw) o, h.hS, h.bel.alloc h.bel.size o, h.ok, h.mem⟩
theorem Fl0.dr {w : World} {g jb bb : Nat} {s : Gs} {vw : Value} {lw : List RI} {os : List GOp} {wr : World} {S : Nat → Prop} (h : Fl0 w g jb bb s vw lw os wr S) (n : Nat) : Fl0 w g jb bb s vw lw os (wr.drewN n) S :=
  ⟨h.gq.dr (Wt.stab vw lw) n, h.hS, belN h.bel, h.ok, h.mem⟩
theorem Fl0.new {w : World} {g jb bb : Nat} {s : Gs} {vw : Value} {lw : List RI} {os : List GOp} {wr x : World} {S : Nat → Prop} (h : Fl0 w g jb bb s vw lw os wr S) (k : Below wr.heap.size wr x) : Fl0 w g jb bb s vw lw os x S :=
  ⟨(Gq.stab (Wt.stab vw lw)).keep h.gq (Ch.of_below k : Ch (fun _ => False) wr x) (fun _ _ e => e), h.hS, h.bel.trans (k.mono h.bel.size), h.ok, h.mem⟩
theorem Fl0.no {w : World} {g jb bb : Nat} {s : Gs} {vw : Value} {lw : List RI} {os : List GOp} {wr : World} {S : Nat → Prop} (h : Fl0 w g jb bb s vw lw os wr S) : ¬ S wr.heap.size := fun e => Nat.lt_irrefl _ ((Gq.stab (Wt.stab vw lw)).lt h.gq _ e)
theorem Fl0.rcs {w : World} {g jb bb : Nat} {s : Gs} {vw : Value} {lw : List RI} {os : List GOp} {wr : World} {S : Nat → Prop} (h : Fl0 w g jb bb s vw lw os wr S) (V : ∀ o ∈ os, Hds w o.x.a o.x.r.hs) : ∃ a cap, vw = .slice a lw.length cap ∧ Rcs wr a lw := by
  obtain ⟨T, hT, _⟩ := h.gq.last
  exact row_rcs hT.1 (fun x hx => by
    obtain ⟨o, ho, rfl⟩ := h.mem x hx
    exact (V o ho).below h.bel)
theorem wpList_append_twoH {P : Program} (w : World) {ops : Array Oper} {rest : List Oper} {o : Oper} {a : Act} {Q : Exit → Act → World → Prop} (hgd : o.guard = none) (s x : Operand) (t : TypeId)
    (ho : o.op = .call { callee := .builtin .append, args := #[s, x], argTypes := #[t, t] })
    (base : Nat) (e : TypeId) (i : TypeInfo) (z : Value) (size bytes : Nat) (ht : P.underlying t = some (.slice e)) (hi : P.info? e = some i) (hz : i.zero = some z)
    (hsize : i.size = size) (hby : i.bytes = bytes) (hzs : z.cells.size = size) (hsz : 0 < size)
    (v : Value) (n : Nat) (xs : List Value) (hs : a.eval s = v) (hown : w.ownsRow base e size v n xs)
    (ad : Addr) (m c : Nat) (news : List Value) (hx : a.eval x = .slice (some ad) m c) (hl : news.length = m * size) (hnews : ∀ j u, news[j]? = some u → w.cell? (ad.add j) = some u) (h1 : ∀ u ∈ news, u.oneCell' = true)
    (hm : 0 < m) (h63 : n + m ≤ maxLen) (hbytes : (n + m) * bytes ≤ 140737488355328) (hbase : base ≤ w.heap.size)
    (h : ∀ g cap w', Hid (w'.ownsRow base e size (.slice (some ⟨g, 0, none⟩) (n + m) cap) (n + m) (xs ++ news)) → Hid ((v = .slice (some ⟨g, 0, none⟩) n cap ∧ w.grownBy w' (some g)) ∨ (g = w.heap.size ∧ Below w.heap.size w w')) → wpList P ops Q rest (a.put o.dst (.slice (some ⟨g, 0, none⟩) (n + m) cap)) w') : wpList P ops Q (o :: rest) a w :=
  wpList_append_two w hgd s x t ho base e i z size bytes ht hi hz hsize hby hzs hsz v n xs hs hown ad m c news hx hl hnews h1 hm h63 hbytes hbase (fun g cap w' k1 k2 => h g cap w' k1 k2)
theorem flLen {s : Gs} {lw : List RI} (h : s.l = lw.map (fun x => cln x.r)) : s.l.length = lw.length := by rw [h, List.length_map]
theorem flZero {s : Gs} {lw : List RI} (h : s.l = lw.map (fun x => cln x.r)) (ok : GsO s) : (!(((lw.length : Int) == 0) == ((s.k : Int) == 0))) = false := by
  have h1 := flLen h
  by_cases h0 : s.l = []
  · rw [h0] at h1
    rw [← h1, ok.z h0]; rfl
  · have h2 := ok.y h0
    have h3 : 0 < s.l.length := List.length_pos_iff.2 h0
    rw [show ((lw.length : Int) == 0) = false from beq_eq_false_iff_ne.2 (by omega), show ((s.k : Int) == 0) = false from beq_eq_false_iff_ne.2 (by omega)]; rfl
theorem flZ2 {s : Gs} {lw : List RI} (h : s.l = lw.map (fun x => cln x.r)) (ok : GsO s) : (lw.length < 1 ∧ s.k < 1) ∨ (0 < lw.length ∧ 0 < s.k) := by
  have h1 := flLen h
  by_cases h0 : s.l = []
  · rw [h0] at h1
    have h1' : 0 = lw.length := h1
    have := ok.z h0
    exact Or.inl ⟨by omega, by omega⟩
  · have h2 := ok.y h0
    have h3 : 0 < s.l.length := List.length_pos_iff.2 h0
    exact Or.inr ⟨by omega, h2⟩
theorem flPos {s : Gs} {lw : List RI} {r : Rec} (h : s.l = lw.map (fun x => cln x.r)) (ok : GsO s) (h1 : tkB s.b (ofr [] 0 r) = true) (h2 : ¬ tkB s.b (ofr s.l s.k r) = true) : 0 < lw.length := by
  rw [← flLen h]
  exact add_len ok.z h1 (by simpa using h2)
theorem Fl0.row {w : World} {g jb bb : Nat} {s : Gs} {vw : Value} {lw : List RI} {os : List GOp} {wr : World} {S : Nat → Prop} (h : Fl0 w g jb bb s vw lw os wr S) : wr.ownsRow 0 39 6 vw lw.length (Go.Proofs.Ytlbkkeoffeohnaa.rcs lw) := by
  obtain ⟨T, hT, _⟩ := h.gq.last
  exact hT.1
theorem fl_same {w : World} {g jb bb : Nat} {s s' : Gs} {aw : Option Addr} {cw : Nat} {lw : List RI} {os : List GOp} {x : World} {S : Nat → Prop} {av : Option Addr} {cv : Nat} (h : Fl0 w g jb bb s' (.slice aw lw.length cw) lw os x S) (V : ∀ o ∈ os, Hds w o.x.a o.x.r.hs) (_hz : ∀ o ∈ os, o.x.r.hs.length ≤ 9223372036854775807) (hsl : s.l = lw.map (fun x => cln x.r)) (hn : s.l.length ≤ 65536) (hr : ∃ rs, rs.map RI.r = s.l ∧ Rcs x av rs) :
    Calls Try.prog 24 #[.slice av s.l.length cv, .slice aw lw.length cw] x fun e x' => e = .returned (.bool true) ∧ Below x.heap.size x x' := by
  obtain ⟨rs, h1, h2⟩ := hr
  obtain ⟨a, c, e, h3⟩ := h.rcs V
  injection e with e1 e2 e3
  subst e1
  have hl : rs.length = s.l.length := by have := congrArg List.length h1; rwa [List.length_map] at this
  have := xsr_any rs lw av aw cv cw x h2 h3 (by omega) (fun y hy => by
    have hy2 : y.r ∈ s.l := by rw [← h1]; exact List.mem_map_of_mem hy
    rw [hsl] at hy2
    obtain ⟨z, hz1, hz2⟩ := List.mem_map.1 hy2
    obtain ⟨o, ho, rfl⟩ := h.mem z hz1
    have := _hz o ho
    rw [← hz2]
    simpa [cln] using this)
  rw [hl, sam_wait (h1.trans hsl)] at this
  exact this
/-- What a call leaves that may turn S: blocks elsewhere. -/
def Far (S : Nat → Prop) (x x' : World) (S' : Nat → Prop) : Prop := ∀ p o, x.heap[p]? = some o → ¬ S p → x'.heap[p]? = some o ∧ ¬ S' p
theorem fl_add_no {w : World} {g jb bb : Nat} {s : Gs} {vw : Value} {lw : List RI} {os : List GOp} {x : World} {S : Nat → Prop} (h : Fl0 w g jb bb s vw lw os x S) (r : Rec) (a : Option Addr) (cap : Nat) (V : Hds w a r.hs) (ht : I64 r.t) (hm : Mod r) (h1 : ¬ tkB s.b (ofr [] 0 r) = true) :
    Calls Try.prog 23 #[.pointer (some ⟨g, 0, none⟩), recV r a cap] x fun e x' => ∃ pk pr q av cv S', e = .returned (.tuple #[.agg #[.int .i64 0, .bool pk, .int .i64 pr, .int .i32 q, .slice av 0 cv], .bool false, .int .i64 (refE (sze r r.t 0))]) ∧ Fl0 w g jb bb s vw lw os x' S' ∧ Far S x x' S' := by
  refine (gq_add (Wt.stab vw lw) r a cap x S h.gq h.ok (V.below h.bel) ht hm).mono fun e x' hh => ?_
  obtain ⟨pk, pr, q, av, cv, he, _, _, S', hT⟩ := hh
  have eS : addS s r = s := by unfold addS; rw [if_neg h1]
  have eL : addL s r = [] := by unfold addL; rw [if_neg (fun e => h1 e.1)]
  have eO : addO s r = false := by unfold addO; rw [show tkB s.b (ofr [] 0 r) = false by simpa using h1]; rfl
  have eE : addE s r = refE (sze r r.t 0) := by unfold addE; rw [if_neg h1]
  rw [eL, eO, eE] at he
  rw [eS] at hT
  exact ⟨pk, pr, q, av, cv, S', he, h.turn hT h.ok h.mem, fun p o hp hn => hT.far hp hn⟩
theorem fl_add_join {w : World} {g jb bb : Nat} {s : Gs} {vw : Value} {lw : List RI} {os : List GOp} {x : World} {S : Nat → Prop} (h : Fl0 w g jb bb s vw lw os x S) (r : Rec) (a : Option Addr) (cap : Nat) (V : Hds w a r.hs) (ht : I64 r.t) (hm : Mod r) (h1 : tkB s.b (ofr [] 0 r) = true) (h2 : tkB s.b (ofr s.l s.k r) = true) :
    Calls Try.prog 23 #[.pointer (some ⟨g, 0, none⟩), recV r a cap] x fun e x' => ∃ pk pr q av cv S', e = .returned (.tuple #[.agg #[.int .i64 0, .bool pk, .int .i64 pr, .int .i32 q, .slice av 0 cv], .bool false, .int .i64 0]) ∧ (addS s r).l = s.l ++ [cln r] ∧ Fl0 w g jb bb (addS s r) vw lw os x' S' ∧ Far S x x' S' := by
  refine (gq_add (Wt.stab vw lw) r a cap x S h.gq h.ok (V.below h.bel) ht hm).mono fun e x' hh => ?_
  obtain ⟨pk, pr, q, av, cv, he, _, _, S', hT⟩ := hh
  have eS : (addS s r).l = s.l ++ [cln r] := by unfold addS; rw [if_pos h1, if_pos h2]
  have eL : addL s r = [] := by unfold addL; rw [if_neg (fun e => by rw [h2] at e; cases e.2)]
  have eO : addO s r = false := by unfold addO; rw [h1, h2]; rfl
  have eE : addE s r = 0 := by unfold addE; rw [if_pos h1]
  rw [eL, eO, eE] at he
  exact ⟨pk, pr, q, av, cv, S', he, eS, h.turn hT (addS_ok h.ok ht) h.mem, fun p o hp hn => hT.far hp hn⟩
theorem fl_add_full {w : World} {g jb bb : Nat} {s : Gs} {vw : Value} {lw : List RI} {os : List GOp} {x : World} {S : Nat → Prop} (h : Fl0 w g jb bb s vw lw os x S) (r : Rec) (a : Option Addr) (cap : Nat) (V : Hds w a r.hs) (ht : I64 r.t) (hm : Mod r) (h1 : tkB s.b (ofr [] 0 r) = true) (h2 : ¬ tkB s.b (ofr s.l s.k r) = true) :
    Calls Try.prog 23 #[.pointer (some ⟨g, 0, none⟩), recV r a cap] x fun e x' => ∃ pk pr av cv S', e = .returned (.tuple #[.agg #[.int .i64 0, .bool pk, .int .i64 pr, .int .i32 s.q, .slice av s.l.length cv], .bool true, .int .i64 0]) ∧ (addS s r).l = [cln r] ∧ (∃ rs, rs.map RI.r = s.l ∧ Rcs x' av rs) ∧ Fl0 w g jb bb (addS s r) vw lw os x' S' ∧ Far S x x' S' := by
  refine (gq_add (Wt.stab vw lw) r a cap x S h.gq h.ok (V.below h.bel) ht hm).mono fun e x' hh => ?_
  obtain ⟨pk, pr, q, av, cv, he, hq, hrs, S', hT⟩ := hh
  have h2' : tkB s.b (ofr s.l s.k r) = false := by simpa using h2
  have eS : (addS s r).l = [cln r] := by unfold addS; rw [if_pos h1, if_neg h2]
  have eL : addL s r = s.l := by unfold addL; rw [if_pos ⟨h1, h2'⟩]
  have eO : addO s r = true := by unfold addO; rw [h1, h2']; rfl
  have eE : addE s r = 0 := by unfold addE; rw [if_pos h1]
  obtain ⟨_, _, rfl⟩ := hq eO
  rw [eL] at hrs
  rw [eL, eO, eE] at he
  exact ⟨pk, pr, av, cv, S', he, eS, hrs, h.turn hT (addS_ok h.ok ht) h.mem, fun p o hp hn => hT.far hp hn⟩
theorem fl_flush {w : World} {g jb bb : Nat} {s : Gs} {vw : Value} {lw : List RI} {os : List GOp} {x : World} {S : Nat → Prop} (h : Fl0 w g jb bb s vw lw os x S) :
    Calls Try.prog 25 #[.pointer (some ⟨g, 0, none⟩)] x fun e x' => ∃ pk pr q av cv S', e = .returned (.tuple #[.agg #[.int .i64 0, .bool pk, .int .i64 pr, .int .i32 q, .slice av s.l.length cv], .bool (decide (0 < s.l.length))]) ∧ (∃ rs, rs.map RI.r = s.l ∧ Rcs x' av rs) ∧ Fl0 w g jb bb (flS s) vw lw os x' S' ∧ Far S x x' S' := by
  refine (gq_flush (Wt.stab vw lw) x S h.gq h.ok).mono fun e x' hh => ?_
  obtain ⟨pk, pr, q, av, cv, he, _, hrs, S', hT⟩ := hh
  exact ⟨pk, pr, q, av, cv, S', he, hrs, h.turn hT (flS_ok h.ok) h.mem, fun p o hp hn => hT.far hp hn⟩
theorem fl_reset {w : World} {g jb bb : Nat} {s : Gs} {vw : Value} {lw : List RI} {os : List GOp} {x : World} {S : Nat → Prop} (h : Fl0 w g jb bb s vw lw os x S) : ∃ S', Fl0 w g jb bb s (.slice none 0 0) [] os x S' ∧ ∀ p, ¬ S p → p < x.heap.size → ¬ S' p := by
  obtain ⟨S', hT⟩ := gq_nilwt h.gq
  exact ⟨S', h.turn hT h.ok (fun x hx => by simp at hx), fun p hn hp e => (hT.2.2 p e).elim hn (fun e => by omega)⟩
theorem fl_grow {w : World} {g jb bb : Nat} {s : Gs} {vw : Value} {lw : List RI} {os : List GOp} {x x' : World} {S : Nat → Prop} {g4 cap4 : Nat} {y : RI} (h : Fl0 w g jb bb s vw lw os x S) (hy : ∃ o ∈ os, y = o.x)
    (hown : x'.ownsRow 0 39 6 (.slice (some ⟨g4, 0, none⟩) (lw.length + 1) cap4) (lw.length + 1) (Go.Proofs.Ytlbkkeoffeohnaa.rcs lw ++ rc1 y))
    (hcase : (vw = .slice (some ⟨g4, 0, none⟩) lw.length cap4 ∧ x.grownBy x' (some g4)) ∨ (g4 = x.heap.size ∧ Below x.heap.size x x')) :
    ∃ S', Fl0 w g jb bb s (.slice (some ⟨g4, 0, none⟩) (lw.length + 1) cap4) (lw ++ [y]) os x' S' := by
  obtain ⟨S', hT⟩ := gq_grow h.gq hown hcase
  exact ⟨S', h.turn hT h.ok (fun x hx => (List.mem_append.1 hx).elim (h.mem x) (fun e => by rw [List.mem_singleton] at e; subst e; exact hy))⟩
set_option maxRecDepth 20000 in
set_option maxHeartbeats 8000000 in
theorem flushes_walk (b : Bnd) (a : Option Addr) (cap : Nat) (os : List GOp) (w : World) (hbn : BndIn b) (V : Gops w a os) (ht : ∀ o ∈ os, I64 o.x.r.t) (hm : ∀ o ∈ os, Mod o.x.r) (hz : ∀ o ∈ os, o.x.r.hs.length ≤ 9223372036854775807) (hl : os.length * 80 ≤ 140737488355328) :
    Calls Try.prog 6 #[bndV b, .slice a os.length cap] w fun e w' => e = .returned (.bool true) ∧ Below w.heap.size w w' := by
  have HFX : Hid (∀ x, Calls Try.prog 8 #[] x fun e w' => e = .returned (.bool true) ∧ Below x.heap.size x w') := fun x => fixed_any x
  have HBC : Hid ((w.alloc (.cells (bndC b).toArray 23)).heap[w.heap.size]? = some (.cells (bndC b).toArray 23 (0, 0)) ∧ Below w.heap.size w (w.alloc (.cells (bndC b).toArray 23))) := ⟨heap_new _ _, (Below.refl _ w).alloc (Nat.le_refl _) _⟩
  by_cases hsn : sndG b.pr b.sq = true
  rotate_left
  · have HN : Hid (∀ x, Calls Try.prog 9 #[bndV b] x fun e w' => e = .returned (.tuple #[.pointer none, .int .i64 1]) ∧ Below x.heap.size x w') := fun x => new_no b x (by simpa using hsn)
    obtain ⟨R, P, F, sp, pk, pr, sq⟩ := b
    unfold bndV at *
    dsimp only [bndC] at *
    clear V ht hm hz hl hsn hbn
    go_enter Try.func6, Try.ntmps6
    go_wp2_with (first | (go_at_call 8; refine (HFX.out _).mono ?_; rintro e w1 ⟨rfl, hb⟩; have B1 := hid (HBC.out.2.trans (hb.mono HBC.out.2.size)); obtain ⟨b0, b1, b2, b3, b4, b5, b6⟩ := cells7 ((hb.block w.heap.size (by simp)).trans HBC.out.1); clear hb) | (go_at_call 9; refine (HN.out _).mono ?_; rintro e w2 ⟨rfl, hb⟩; have B2 := hid (B1.out.trans (hb.mono B1.out.size)); clear hb))
    go_ret
    exact ⟨rfl, B2.out⟩
  have HN : Hid (∀ x, Calls Try.prog 9 #[bndV b] x fun e w' => ∃ g jb bb S, e = .returned (.tuple #[.pointer (some ⟨g, 0, none⟩), .int .i64 0]) ∧ Gq g jb bb (Gs0 b) Non w' S ∧ (∀ i, S i → x.heap.size ≤ i) ∧ Below x.heap.size x w') := fun x => gq_new b x hsn
  have HG0 := hid (gs0_ok hbn hsn)
  have HV := hid V
  have HT := hid ht
  have HM := hid hm
  have HZ := hid hz
  have HLn := hid hl
  have HE0 : Hid ((Gs0 b).l = []) := rfl
  generalize Gs0 b = s0 at *
  obtain ⟨R, P, F, sp, pk0, pr0, sq0⟩ := b
  unfold bndV at *
  dsimp only [bndC] at *
  clear V ht hm hz hl hsn hbn
  go_enter Try.func6, Try.ntmps6
  go_wp2_with (first | (go_at_call 8; refine (HFX.out _).mono ?_; rintro e w1 ⟨rfl, hb⟩; have B1 := hid (HBC.out.2.trans (hb.mono HBC.out.2.size)); obtain ⟨b0, b1, b2, b3, b4, b5, b6⟩ := cells7 ((hb.block w.heap.size (by simp)).trans HBC.out.1); clear hb) | (go_at_call 9; refine (HN.out _).mono ?_; rintro e w2 ⟨g, jb, bb, S0, rfl, hG, hS, hb⟩; have G2 := hid hG; have SS2 := hid hS; have B2 := hid (B1.out.trans (hb.mono B1.out.size)); clear hG hS hb))
  have HI0 : Hid (∃ S, Fl0 w g jb bb s0 (.slice none 0 0) [] os w2 S) := by
    obtain ⟨S', hT⟩ := gq_nilwt G2.out
    have hS : ∀ i, S0 i → w.heap.size ≤ i := fun i hi => Nat.le_trans B1.out.size (SS2.out i hi)
    obtain ⟨h1, h2, _⟩ := hT.base hS B2.out B2.out.size
    exact ⟨S', hT.1, h1, h2, HG0.out, fun x hx => by simp at hx⟩
  clear HN HFX HBC G2 SS2 B1 B2 HG0
  go_loopg [7, 8] os.length (fun k vw vi wr => ∃ (j : Nat) (s : Gs) (lw : List RI) (aw : Option Addr) (cw : Nat) (S : Nat → Prop), j + k = os.length ∧ vi = .int .i64 j ∧ vw = .slice aw lw.length cw ∧ Hid (s.l = lw.map (fun x => cln x.r)) ∧ Hid (lw.length ≤ j) ∧ Hid (Fl0 w g jb bb s (.slice aw lw.length cw) lw os wr S))
  case atStart =>
    obtain ⟨S, h⟩ := HI0.out
    exact ⟨0, s0, [], none, 0, S, by omega, rfl, rfl, HE0.out, Nat.zero_le _, h⟩
  case round =>
    obtain ⟨j, s, lw, aw, cw, S, hk, rfl, rfl, HSL, HLE, HI⟩ := hrel
    clear HI0 HE0
    by_cases hlt : j < os.length
    · obtain ⟨k, rfl⟩ : ∃ k, gk = k + 1 := ⟨gk - 1, by omega⟩
      have hgo := goD_mem hlt
      have hTt := HT.out _ hgo
      have hMm := HM.out _ hgo
      have hVr := HV.out.1 _ hgo
      have HMEM : Hid (∃ o ∈ os, (os.getD j dgo).x = o.x) := ⟨_, hgo, rfl⟩
      rcases HV.out.2 with h | ⟨cb, off, rfl, hbl, hc⟩
      · rw [h] at hlt; simp at hlt
      obtain ⟨q0, q1, q2, q3, q4, q5, q6⟩ := hc j hlt
      have hcl := fun o => HI.out.bel.cell (p := ⟨cb, o, none⟩) hbl
      have l0 := (hcl _).trans q0
      have l1 := (hcl _).trans q1
      have l2 := (hcl _).trans q2
      have l3 := (hcl _).trans q3
      have l4 := (hcl _).trans q4
      have l5 := (hcl _).trans q5
      have l6 := (hcl _).trans q6
      clear hc q0 q1 q2 q3 q4 q5 q6 hcl
      generalize os.getD j dgo = o at *
      obtain ⟨ok, ⟨⟨t, kh, kd, vh, vd, hs⟩, xa, xc⟩⟩ := o
      dsimp only at hTt hMm hVr HMEM l0 l1 l2 l3 l4 l5 l6
      have i1 : (0 : Int) ≤ (j : Int) := by omega
      have i2 : (j : Int) < os.length := by omega
      have HJ := hid i2
      have hjb : (j : Int) ≤ 2000000000000 := by have := HLn.out; omega
      have HWT : Hid (∀ x T, Fl0 w g jb bb s (.slice aw lw.length cw) lw os x T → Calls Try.prog 21 #[.pointer (some ⟨g, 0, none⟩)] x fun e x' => e = .returned (.tuple #[.int .i64 lw.length, .int .i64 s.k]) ∧ ∃ k, x' = x.drewN k) := fun x T h => by
        have := gq_waiting x T h.gq
        rw [flLen HSL.out] at this
        exact this
      have HSQ : Hid (∀ x T, Fl0 w g jb bb s (.slice aw lw.length cw) lw os x T → Calls Try.prog 22 #[.pointer (some ⟨g, 0, none⟩)] x fun e x' => e = .returned (.int .i32 s.q) ∧ x' = x) := fun x T h => gq_seq x T h.gq
      have hz0 : (!(((lw.length : Int) == 0) == ((s.k : Int) == 0))) = false := flZero HSL.out HI.out.ok
      have HZ2 := hid (flZ2 HSL.out HI.out.ok)
      have HIa := hid (HI.out.al (.cells #[.int .i64 ok, .int .i64 t, .bool kh, .string kd, .bool vh, .string vd, .slice xa hs.length xc] 41))
      have NP := hid HI.out.no
      have HP := hid (heap_new wr (.cells #[.int .i64 ok, .int .i64 t, .bool kh, .string kd, .bool vh, .string vd, .slice xa hs.length xc] 41))
      have HBL := hid hbl
      by_cases hk1 : ok = 1
      · subst hk1
        by_cases h1 : tkB s.b (ofr [] 0 ⟨t, kh, kd, vh, vd, hs⟩) = true
        · by_cases h2 : tkB s.b (ofr s.l s.k ⟨t, kh, kd, vh, vd, hs⟩) = true
          · have HAD : Hid (∀ x T, Fl0 w g jb bb s (.slice aw lw.length cw) lw os x T → Calls Try.prog 23 #[.pointer (some ⟨g, 0, none⟩), .agg #[.int .i64 t, .bool kh, .string kd, .bool vh, .string vd, .slice xa hs.length xc]] x fun e x' => ∃ pk pr q av cv S', e = .returned (.tuple #[.agg #[.int .i64 0, .bool pk, .int .i64 pr, .int .i32 q, .slice av 0 cv], .bool false, .int .i64 0]) ∧ (addS s ⟨t, kh, kd, vh, vd, hs⟩).l = s.l ++ [cln ⟨t, kh, kd, vh, vd, hs⟩] ∧ Fl0 w g jb bb (addS s ⟨t, kh, kd, vh, vd, hs⟩) (.slice aw lw.length cw) lw os x' S' ∧ Far T x x' S') := fun x T h => fl_add_join h ⟨t, kh, kd, vh, vd, hs⟩ xa xc hVr hTt hMm h1 h2
            obtain ⟨i0, hi, hz1, hz2, hz3⟩ := info_parts Try.infoRec
            clear hTt hMm hVr h1 h2
            generalize addS s ⟨t, kh, kd, vh, vd, hs⟩ = s2 at *
            go_wp2_with (first | (go_at_call 21; refine (HWT.out _ S HIa.out).mono ?_; rintro e w' ⟨rfl, kk, rfl⟩; have HIb := hid (HIa.out.dr kk); have HPb : Hid ((World.drewN (wr.alloc (.cells #[.int .i64 1, .int .i64 t, .bool kh, .string kd, .bool vh, .string vd, .slice xa hs.length xc] 41)) kk).heap[wr.heap.size]? = some _) := HP.out; obtain ⟨p0, p1, p2, p3, p4, p5, p6⟩ := cells7 HPb.out) | (go_at_call 22; refine (HSQ.out _ S HIb.out).mono ?_; rintro e w' ⟨rfl, rfl⟩) | (go_at_call 23; refine (HAD.out _ S HIb.out).mono ?_; rintro e x2 ⟨pk, pr, q, av, cv, S2, rfl, hES, h2', hf⟩; have HX2 := hid h2'; have HI2 := hid (h2'.al (.cells #[.int .i64 0, .bool pk, .int .i64 pr, .int .i32 q, .slice av 0 cv] 54)); obtain ⟨hp2, np2⟩ := hf _ _ HPb.out NP.out; have NP2 := hid np2; have HP2 := hid (heap_alloc_at (o' := (.cells #[.int .i64 0, .bool pk, .int .i64 pr, .int .i32 q, .slice av 0 cv] 54)) hp2); have HB2 := hid (heap_new x2 (.cells #[.int .i64 0, .bool pk, .int .i64 pr, .int .i32 q, .slice av 0 cv] 54)); obtain ⟨p0, p1, p2, p3, p4, p5, p6⟩ := cells7 HP2.out; obtain ⟨b0, b1, b2, b3, b4⟩ := cells5 HB2.out; have ES := hid hES; clear hES; clear h2' hf hp2 np2) | (at_builtin; refine wpList_append_two _ rfl _ _ 47 rfl 0 39 i0 (.agg #[.int .i64 0, .bool false, .string ⟨#[]⟩, .bool false, .string ⟨#[]⟩, .slice none 0 0]) 6 80 Try.underRecs hi hz1 hz2 hz3 rfl (by decide) (.slice aw lw.length cw) lw.length (rcs lw) rfl ((HI2.out.al (.cells #[.int .i64 t, .bool kh, .string kd, .bool vh, .string vd, .slice xa hs.length xc] 39)).row) _ 1 1 (rc1 ⟨⟨t, kh, kd, vh, vd, hs⟩, xa, xc⟩) rfl rfl (cells_newN _ (rc1 ⟨⟨t, kh, kd, vh, vd, hs⟩, xa, xc⟩) _ _ (by simp)) (rc1_one _) (by decide) (by have := HLE.out; have := HJ.out; have := HLn.out; unfold maxLen; omega) (by have := HLE.out; have := HJ.out; have := HLn.out; omega) (Nat.zero_le _) ?_; intro g4 cap4 x4 hown4 hcase; obtain ⟨S4, h4⟩ := fl_grow (HI2.out.al (.cells #[.int .i64 t, .bool kh, .string kd, .bool vh, .string vd, .slice xa hs.length xc] 39)) HMEM.out hown4 hcase; have HI4 := hid h4; clear hown4 hcase h4))
            go_wp2_with fail
            go_roundg k
            case measure => omega
            case rel => exact ⟨j + 1, s2, lw ++ [⟨⟨t, kh, kd, vh, vd, hs⟩, xa, xc⟩], some ⟨g4, 0, none⟩, cap4, S4, by omega, by go_num, by rw [List.length_append]; rfl, by show _ = _; rw [ES.out, HSL.out, List.map_append]; rfl, by show _ ≤ _; have := HLE.out; rw [List.length_append]; simp; omega, by rw [List.length_append]; exact HI4.out⟩
          · have HAD : Hid (∀ x T, Fl0 w g jb bb s (.slice aw lw.length cw) lw os x T → Calls Try.prog 23 #[.pointer (some ⟨g, 0, none⟩), .agg #[.int .i64 t, .bool kh, .string kd, .bool vh, .string vd, .slice xa hs.length xc]] x fun e x' => ∃ pk pr av cv S', e = .returned (.tuple #[.agg #[.int .i64 0, .bool pk, .int .i64 pr, .int .i32 s.q, .slice av s.l.length cv], .bool true, .int .i64 0]) ∧ (addS s ⟨t, kh, kd, vh, vd, hs⟩).l = [cln ⟨t, kh, kd, vh, vd, hs⟩] ∧ (∃ rs, rs.map RI.r = s.l ∧ Rcs x' av rs) ∧ Fl0 w g jb bb (addS s ⟨t, kh, kd, vh, vd, hs⟩) (.slice aw lw.length cw) lw os x' S' ∧ Far T x x' S') := fun x T h => fl_add_full h ⟨t, kh, kd, vh, vd, hs⟩ xa xc hVr hTt hMm h1 h2
            have HSR : Hid (∀ x T s' av cv, Fl0 w g jb bb s' (.slice aw lw.length cw) lw os x T → (∃ rs, rs.map RI.r = s.l ∧ Rcs x av rs) → Calls Try.prog 24 #[.slice av s.l.length cv, .slice aw lw.length cw] x fun e x' => e = .returned (.bool true) ∧ Below x.heap.size x x') := fun x T s' av cv h hr => fl_same h HV.out.1 HZ.out HSL.out HI.out.ok.ok.n hr
            obtain ⟨i0, hi, hz1, hz2, hz3⟩ := info_parts Try.infoRec
            clear hTt hMm hVr h1 h2
            generalize addS s ⟨t, kh, kd, vh, vd, hs⟩ = s2 at *
            go_wp2_with (first | (go_at_call 21; refine (HWT.out _ S HIa.out).mono ?_; rintro e w' ⟨rfl, kk, rfl⟩; have HIb := hid (HIa.out.dr kk); have HPb : Hid ((World.drewN (wr.alloc (.cells #[.int .i64 1, .int .i64 t, .bool kh, .string kd, .bool vh, .string vd, .slice xa hs.length xc] 41)) kk).heap[wr.heap.size]? = some _) := HP.out; obtain ⟨p0, p1, p2, p3, p4, p5, p6⟩ := cells7 HPb.out) | (go_at_call 22; refine (HSQ.out _ S HIb.out).mono ?_; rintro e w' ⟨rfl, rfl⟩) | (go_at_call 23; refine (HAD.out _ S HIb.out).mono ?_; rintro e x2 ⟨pk, pr, av, cv, S2, rfl, hES, hrs, h2', hf⟩; have HX2 := hid h2'; have HI2 := hid (h2'.al (.cells #[.int .i64 0, .bool pk, .int .i64 pr, .int .i32 s.q, .slice av s.l.length cv] 54)); obtain ⟨hp2, np2⟩ := hf _ _ HPb.out NP.out; have NP2 := hid np2; have HP2 := hid (heap_alloc_at (o' := (.cells #[.int .i64 0, .bool pk, .int .i64 pr, .int .i32 s.q, .slice av s.l.length cv] 54)) hp2); have HB2 := hid (heap_new x2 (.cells #[.int .i64 0, .bool pk, .int .i64 pr, .int .i32 s.q, .slice av s.l.length cv] 54)); obtain ⟨p0, p1, p2, p3, p4, p5, p6⟩ := cells7 HP2.out; obtain ⟨b0, b1, b2, b3, b4⟩ := cells5 HB2.out; have ES := hid hES; have HRS : Hid (∃ rs, rs.map RI.r = s.l ∧ Rcs (x2.alloc (.cells #[.int .i64 0, .bool pk, .int .i64 pr, .int .i32 s.q, .slice av s.l.length cv] 54)) av rs) := (by obtain ⟨rs, e1, e2⟩ := hrs; exact ⟨rs, e1, e2.below ((Below.refl _ _).alloc (Nat.le_refl _) _)⟩); clear hES hrs; clear h2' hf hp2 np2) | (go_at_call 24; refine (HSR.out _ S2 s2 av cv HI2.out HRS.out).mono ?_; rintro e x3 ⟨rfl, hb3⟩; have HI3 := hid (HI2.out.new hb3); have HP3 := hid ((hb3.block _ (lt_of_heap HP2.out)).trans HP2.out); have HB3 := hid ((hb3.block _ (lt_of_heap HB2.out)).trans HB2.out); obtain ⟨p0, p1, p2, p3, p4, p5, p6⟩ := cells7 HP3.out; obtain ⟨b0, b1, b2, b3, b4⟩ := cells5 HB3.out; obtain ⟨S3, h4, _⟩ := fl_reset HI3.out; have HI4 := hid h4; clear h4; clear hb3) | (at_builtin; refine wpList_append_two _ rfl _ _ 47 rfl 0 39 i0 (.agg #[.int .i64 0, .bool false, .string ⟨#[]⟩, .bool false, .string ⟨#[]⟩, .slice none 0 0]) 6 80 Try.underRecs hi hz1 hz2 hz3 rfl (by decide) (.slice none 0 0) ([] : List RI).length (rcs ([] : List RI)) rfl ((HI4.out.al (.cells #[.int .i64 t, .bool kh, .string kd, .bool vh, .string vd, .slice xa hs.length xc] 39)).row) _ 1 1 (rc1 ⟨⟨t, kh, kd, vh, vd, hs⟩, xa, xc⟩) rfl rfl (cells_newN _ (rc1 ⟨⟨t, kh, kd, vh, vd, hs⟩, xa, xc⟩) _ _ (by simp)) (rc1_one _) (by decide) (by unfold maxLen; decide) (by decide) (Nat.zero_le _) ?_; intro g4 cap4 x4 hown4 hcase; obtain ⟨S4, h4⟩ := fl_grow (lw := []) (HI4.out.al (.cells #[.int .i64 t, .bool kh, .string kd, .bool vh, .string vd, .slice xa hs.length xc] 39)) HMEM.out hown4 hcase; have HI5 := hid h4; clear hown4 hcase h4))
            go_wp2_with fail
            go_roundg k
            case measure => omega
            case rel => exact ⟨j + 1, s2, [⟨⟨t, kh, kd, vh, vd, hs⟩, xa, xc⟩], some ⟨g4, 0, none⟩, cap4, S4, by omega, by go_num, rfl, ES.out, Nat.succ_le_succ (Nat.zero_le _), HI5.out⟩
        · have HAD : Hid (∀ x T, Fl0 w g jb bb s (.slice aw lw.length cw) lw os x T → Calls Try.prog 23 #[.pointer (some ⟨g, 0, none⟩), .agg #[.int .i64 t, .bool kh, .string kd, .bool vh, .string vd, .slice xa hs.length xc]] x fun e x' => ∃ pk pr q av cv S', e = .returned (.tuple #[.agg #[.int .i64 0, .bool pk, .int .i64 pr, .int .i32 q, .slice av 0 cv], .bool false, .int .i64 (refE (sze ⟨t, kh, kd, vh, vd, hs⟩ t 0))]) ∧ Fl0 w g jb bb s (.slice aw lw.length cw) lw os x' S' ∧ Far T x x' S') := fun x T h => fl_add_no h ⟨t, kh, kd, vh, vd, hs⟩ xa xc hVr hTt hMm h1
          have hE : ¬ ((refE (sze ⟨t, kh, kd, vh, vd, hs⟩ t 0) : Nat) : Int) = 0 := by unfold refE; split <;> omega
          generalize refE (sze ⟨t, kh, kd, vh, vd, hs⟩ t 0) = E at *
          clear hTt hMm hVr h1
          go_wp2_with (first | (go_at_call 21; refine (HWT.out _ S HIa.out).mono ?_; rintro e w' ⟨rfl, kk, rfl⟩; have HIb := hid (HIa.out.dr kk); have HPb : Hid ((World.drewN (wr.alloc (.cells #[.int .i64 1, .int .i64 t, .bool kh, .string kd, .bool vh, .string vd, .slice xa hs.length xc] 41)) kk).heap[wr.heap.size]? = some _) := HP.out; obtain ⟨p0, p1, p2, p3, p4, p5, p6⟩ := cells7 HPb.out) | (go_at_call 22; refine (HSQ.out _ S HIb.out).mono ?_; rintro e w' ⟨rfl, rfl⟩) | (go_at_call 23; refine (HAD.out _ S HIb.out).mono ?_; rintro e x2 ⟨pk, pr, q, av, cv, S2, rfl, h2', hf⟩; have HX2 := hid h2'; have HI2 := hid (h2'.al (.cells #[.int .i64 0, .bool pk, .int .i64 pr, .int .i32 q, .slice av 0 cv] 54)); obtain ⟨hp2, np2⟩ := hf _ _ HPb.out NP.out; have NP2 := hid np2; have HP2 := hid (heap_alloc_at (o' := (.cells #[.int .i64 0, .bool pk, .int .i64 pr, .int .i32 q, .slice av 0 cv] 54)) hp2); have HB2 := hid (heap_new x2 (.cells #[.int .i64 0, .bool pk, .int .i64 pr, .int .i32 q, .slice av 0 cv] 54)); obtain ⟨p0, p1, p2, p3, p4, p5, p6⟩ := cells7 HP2.out; obtain ⟨b0, b1, b2, b3, b4⟩ := cells5 HB2.out; clear h2' hf hp2 np2) | (go_at_call 21; refine (HWT.out _ S2 HI2.out).mono ?_; rintro e w' ⟨rfl, kk2, rfl⟩; have HI3 := hid (HI2.out.dr kk2); have HB3 : Hid ((World.drewN (x2.alloc (.cells #[.int .i64 0, .bool pk, .int .i64 pr, .int .i32 q, .slice av 0 cv] 54)) kk2).heap[x2.heap.size]? = some _) := HB2.out; obtain ⟨b0, b1, b2, b3, b4⟩ := cells5 HB3.out) | (go_at_call 22; refine (HSQ.out _ S2 HI3.out).mono ?_; rintro e w' ⟨rfl, rfl⟩))
          go_roundg k
          case measure => omega
          case rel => exact ⟨j + 1, s, lw, aw, cw, S2, by omega, by go_num, rfl, HSL.out, Nat.le_succ_of_le HLE.out, HI3.out⟩
      · have hk1I : ¬ (ok : Int) = 1 := hk1
        have HFL : Hid (∀ x T, Fl0 w g jb bb s (.slice aw lw.length cw) lw os x T → Calls Try.prog 25 #[.pointer (some ⟨g, 0, none⟩)] x fun e x' => ∃ pk pr q av cv S', e = .returned (.tuple #[.agg #[.int .i64 0, .bool pk, .int .i64 pr, .int .i32 q, .slice av s.l.length cv], .bool (decide (0 < s.l.length))]) ∧ (∃ rs, rs.map RI.r = s.l ∧ Rcs x' av rs) ∧ Fl0 w g jb bb (flS s) (.slice aw lw.length cw) lw os x' S' ∧ Far T x x' S') := fun x T h => fl_flush h
        have HSR : Hid (∀ x T s' av cv, Fl0 w g jb bb s' (.slice aw lw.length cw) lw os x T → (∃ rs, rs.map RI.r = s.l ∧ Rcs x av rs) → Calls Try.prog 24 #[.slice av s.l.length cv, .slice aw lw.length cw] x fun e x' => e = .returned (.bool true) ∧ Below x.heap.size x x') := fun x T s' av cv h hr => fl_same h HV.out.1 HZ.out HSL.out HI.out.ok.ok.n hr
        have HW2 : Hid (∀ x T, Fl0 w g jb bb (flS s) (.slice aw lw.length cw) lw os x T → Calls Try.prog 21 #[.pointer (some ⟨g, 0, none⟩)] x fun e x' => e = .returned (.tuple #[.int .i64 0, .int .i64 0]) ∧ ∃ k, x' = x.drewN k) := fun x T h => by
          have := gq_waiting x T h.gq
          rw [h.ok.z (flS_l s), flS_l s] at this
          exact this
        have EFL := hid (flS_l s)
        have hdl : decide (0 < s.l.length) = decide ((0 : Int) < lw.length) := by
          rw [flLen HSL.out]
          by_cases h : 0 < lw.length
          · rw [decide_eq_true h, decide_eq_true (by omega)]
          · rw [decide_eq_false h, decide_eq_false (by omega)]
        rw [hdl] at HFL
        clear hTt hMm hVr hdl
        generalize flS s = s2 at *
        rcases HZ2.out with ⟨hN', hK⟩ | ⟨hN', hK⟩
        rotate_left
        · have hgt : decide ((0 : Int) < lw.length) = true := decide_eq_true (by omega)
          rw [hgt] at HFL
          have hpos : 0 < lw.length := by omega
          clear HZ2 hN' hK hgt
          go_wp2_with (first | (go_at_call 21; refine (HWT.out _ S HIa.out).mono ?_; rintro e w' ⟨rfl, kk, rfl⟩; have HIb := hid (HIa.out.dr kk); have HPb : Hid ((World.drewN (wr.alloc (.cells #[.int .i64 ok, .int .i64 t, .bool kh, .string kd, .bool vh, .string vd, .slice xa hs.length xc] 41)) kk).heap[wr.heap.size]? = some _) := HP.out; obtain ⟨p0, p1, p2, p3, p4, p5, p6⟩ := cells7 HPb.out) | (go_at_call 22; refine (HSQ.out _ S HIb.out).mono ?_; rintro e w' ⟨rfl, rfl⟩) | (go_at_call 25; refine (HFL.out _ S HIb.out).mono ?_; rintro e x2 ⟨pk, pr, q, av, cv, S2, rfl, hrs, h2', hf⟩; have HI2 := hid (h2'.al (.cells #[.int .i64 0, .bool pk, .int .i64 pr, .int .i32 q, .slice av s.l.length cv] 54)); have HB2 := hid (heap_new x2 (.cells #[.int .i64 0, .bool pk, .int .i64 pr, .int .i32 q, .slice av s.l.length cv] 54)); have HRS : Hid (∃ rs, rs.map RI.r = s.l ∧ Rcs (x2.alloc (.cells #[.int .i64 0, .bool pk, .int .i64 pr, .int .i32 q, .slice av s.l.length cv] 54)) av rs) := (by obtain ⟨rs, e1, e2⟩ := hrs; exact ⟨rs, e1, e2.below ((Below.refl _ _).alloc (Nat.le_refl _) _)⟩); obtain ⟨b0, b1, b2, b3, b4⟩ := cells5 HB2.out; clear h2' hf hrs) | (go_at_call 21; refine (HW2.out _ S2 HI2.out).mono ?_; rintro e w' ⟨rfl, kk2, rfl⟩; have HI2d := hid (HI2.out.dr kk2); have HRSd : Hid (∃ rs, rs.map RI.r = s.l ∧ Rcs (World.drewN (x2.alloc (.cells #[.int .i64 0, .bool pk, .int .i64 pr, .int .i32 q, .slice av s.l.length cv] 54)) kk2) av rs) := (by obtain ⟨rs, e1, e2⟩ := HRS.out; exact ⟨rs, e1, e2.below (belN (Below.refl _ _))⟩); have HB3 : Hid ((World.drewN (x2.alloc (.cells #[.int .i64 0, .bool pk, .int .i64 pr, .int .i32 q, .slice av s.l.length cv] 54)) kk2).heap[x2.heap.size]? = some _) := HB2.out; obtain ⟨b0, b1, b2, b3, b4⟩ := cells5 HB3.out) | (go_at_call 24; refine (HSR.out _ S2 s2 av cv HI2d.out HRSd.out).mono ?_; rintro e x3 ⟨rfl, hb3⟩; have HI3 := hid (HI2d.out.new hb3); clear hb3))
          obtain ⟨S3, h4, _⟩ := fl_reset HI3.out
          have HI4 := hid h4
          go_roundg k
          case measure => omega
          case rel => exact ⟨j + 1, s2, [], none, 0, S3, by omega, by go_num, rfl, EFL.out, Nat.zero_le _, HI4.out⟩
        · have hgt : decide ((0 : Int) < lw.length) = false := decide_eq_false (by omega)
          rw [hgt] at HFL
          have hpos : ¬ 0 < lw.length := by omega
          clear HZ2 hN' hK hgt
          go_wp2_with (first | (go_at_call 21; refine (HWT.out _ S HIa.out).mono ?_; rintro e w' ⟨rfl, kk, rfl⟩; have HIb := hid (HIa.out.dr kk); have HPb : Hid ((World.drewN (wr.alloc (.cells #[.int .i64 ok, .int .i64 t, .bool kh, .string kd, .bool vh, .string vd, .slice xa hs.length xc] 41)) kk).heap[wr.heap.size]? = some _) := HP.out; obtain ⟨p0, p1, p2, p3, p4, p5, p6⟩ := cells7 HPb.out) | (go_at_call 22; refine (HSQ.out _ S HIb.out).mono ?_; rintro e w' ⟨rfl, rfl⟩) | (go_at_call 25; refine (HFL.out _ S HIb.out).mono ?_; rintro e x2 ⟨pk, pr, q, av, cv, S2, rfl, hrs, h2', hf⟩; have HI2 := hid (h2'.al (.cells #[.int .i64 0, .bool pk, .int .i64 pr, .int .i32 q, .slice av s.l.length cv] 54)); have HB2 := hid (heap_new x2 (.cells #[.int .i64 0, .bool pk, .int .i64 pr, .int .i32 q, .slice av s.l.length cv] 54)); have HRS : Hid (∃ rs, rs.map RI.r = s.l ∧ Rcs (x2.alloc (.cells #[.int .i64 0, .bool pk, .int .i64 pr, .int .i32 q, .slice av s.l.length cv] 54)) av rs) := (by obtain ⟨rs, e1, e2⟩ := hrs; exact ⟨rs, e1, e2.below ((Below.refl _ _).alloc (Nat.le_refl _) _)⟩); obtain ⟨b0, b1, b2, b3, b4⟩ := cells5 HB2.out; clear h2' hf hrs) | (go_at_call 21; refine (HW2.out _ S2 HI2.out).mono ?_; rintro e w' ⟨rfl, kk2, rfl⟩; have HI2d := hid (HI2.out.dr kk2); have HRSd : Hid (∃ rs, rs.map RI.r = s.l ∧ Rcs (World.drewN (x2.alloc (.cells #[.int .i64 0, .bool pk, .int .i64 pr, .int .i32 q, .slice av s.l.length cv] 54)) kk2) av rs) := (by obtain ⟨rs, e1, e2⟩ := HRS.out; exact ⟨rs, e1, e2.below (belN (Below.refl _ _))⟩); have HB3 : Hid ((World.drewN (x2.alloc (.cells #[.int .i64 0, .bool pk, .int .i64 pr, .int .i32 q, .slice av s.l.length cv] 54)) kk2).heap[x2.heap.size]? = some _) := HB2.out; obtain ⟨b0, b1, b2, b3, b4⟩ := cells5 HB3.out) | (go_at_call 24; refine (HSR.out _ S2 s2 av cv HI2d.out HRSd.out).mono ?_; rintro e x3 ⟨rfl, hb3⟩; have HI3 := hid (HI2d.out.new hb3); clear hb3))
          obtain ⟨S3, h4, _⟩ := fl_reset HI3.out
          have HI4 := hid h4
          go_roundg k
          case measure => omega
          case rel => exact ⟨j + 1, s2, [], none, 0, S3, by omega, by go_num, rfl, EFL.out, Nat.zero_le _, HI4.out⟩
    · have hj : j = os.length := by omega
      subst hj
      go_wp2_with fail
      go_ret
      exact ⟨rfl, HI.out.bel⟩
end Go.Proofs.Ytlbkkeoffeohnaa
