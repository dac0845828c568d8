/- Texts of the proof, put together: Ga7, Ga8, Ga9. -/
import Derived.Test.YtlbkkeoffeohnabGa6
namespace Go.Proofs.Ytlbkkeoffeohnab
open Go.RowKit
/-- Why a record that doesn't even join none is refused. -/
def refE (e : Nat) : Nat := if e = 0 then 66 else e
set_option maxRecDepth 20000 in
theorem refusal_any (o : Ofr) (w : World) : Calls Try.prog 16 #[ofrV o] w fun e w' => e = .returned (.int .i64 (refE o.e)) ∧ Below w.heap.size w w' := by
  obtain ⟨n, first, t, e, body⟩ := o
  have hba : Below w.heap.size w (w.alloc (.cells #[.int .i64 n, .int .i64 first, .int .i64 t, .int .i64 e, .int .i64 body] 57)) := (Below.refl _ w).alloc (Nat.le_refl _) _
  unfold ofrV
  dsimp only at *
  by_cases h : e = 0
  · subst h
    have he : refE 0 = 66 := rfl
    rw [he]
    go_enter Try.func16, Try.ntmps16
    go_wp2_with fail
    go_ret
    exact ⟨rfl, hba⟩
  · have he : refE e = e := if_neg h
    rw [he]
    have h' : ¬ ((e : Int) = 0) := by omega
    go_enter Try.func16, Try.ntmps16
    go_wp2_with fail
    go_ret
    exact ⟨rfl, hba⟩
/-- What stays in every world behind the one in which Add begins its work. -/
structure AddH (g jb bb : Nat) (s : Gs) (r : Rec) (a : Option Addr) (cap : Nat) (v : Value) (rs : List RI) (H : Nat) (x : World) : Prop where
  rr : x.heap[H]? = some (.cells #[.int .i64 r.t, .bool r.kh, .string r.kd, .bool r.vh, .string r.vd, .slice a r.hs.length cap] 40 (0, 0))
  zb : x.heap[H + 1]? = some (.cells #[.int .i64 0, .bool false, .int .i64 0, .int .i32 0, .slice none 0 0] 28 (0, 0))
  g : Gcell x g jb s v
  hds : Hds x a r.hs
  cnd : Cnd x jb bb s.b
  held : Held x 0 v rs
theorem AddH.next {g jb bb : Nat} {s : Gs} {r : Rec} {a : Option Addr} {cap : Nat} {v : Value} {rs : List RI} {H : Nat} {x y : World} (h : AddH g jb bb s r a cap v rs H x) (k : Below x.heap.size x y) : AddH g jb bb s r a cap v rs H y where
  rr := (k.block _ (lt_of_heap h.rr)).trans h.rr
  zb := (k.block _ (lt_of_heap h.zb)).trans h.zb
  g := (k.block _ (lt_of_heap h.g)).trans h.g
  hds := h.hds.below k
  cnd := h.cnd.below k
  held := h.held.kept (fun g hg _ => k.block g hg)
theorem AddH.first {g jb bb : Nat} {s : Gs} {rt : Int} {rkh rvh : Bool} {rkd rvd : ByteArray} {rhs : List Hdr} {a : Option Addr} {cap : Nat} {v : Value} {rs : List RI} {w : World} (h : Gcell w g jb s v) (hH : Held w 0 v rs) (V : Hds w a rhs) (hC : Cnd w jb bb s.b) : AddH g jb bb s ⟨rt, rkh, rkd, rvh, rvd, rhs⟩ a cap v rs w.heap.size ((w.alloc (.cells #[.int .i64 rt, .bool rkh, .string rkd, .bool rvh, .string rvd, .slice a rhs.length cap] 40)).alloc (.cells #[.int .i64 0, .bool false, .int .i64 0, .int .i32 0, .slice none 0 0] 28)) := by
  have k : Below w.heap.size w ((w.alloc (.cells #[.int .i64 rt, .bool rkh, .string rkd, .bool rvh, .string rvd, .slice a rhs.length cap] 40)).alloc (.cells #[.int .i64 0, .bool false, .int .i64 0, .int .i32 0, .slice none 0 0] 28)) := ((Below.refl _ w).alloc (Nat.le_refl _) _).alloc (by simp) _
  exact ⟨heap_alloc_at (heap_new _ _), heap_new' _ _ _ (by simp), (k.block _ (lt_of_heap h)).trans h, V.below k, hC.below k, hH.kept (fun g hg _ => k.block g hg)⟩
theorem zb_end {w x : World} {p : Nat} {z0 z1 z2 z3 z4 v0 v1 v2 v3 v4 : Value} {T : TypeId} (h : x.heap[p]? = some (.cells #[z0, z1, z2, z3, z4] T (0, 0))) (hb : Below w.heap.size w x) (hp : w.heap.size ≤ p) :
    let y := ((((x.setCell ⟨p, 0, none⟩ v0).setCell ⟨p, 1, none⟩ v1).setCell ⟨p, 2, none⟩ v2).setCell ⟨p, 3, none⟩ v3).setCell ⟨p, 4, none⟩ v4
    (y.cell? ⟨p, 0, none⟩ = some v0 ∧ y.cell? ⟨p, 1, none⟩ = some v1 ∧ y.cell? ⟨p, 2, none⟩ = some v2 ∧ y.cell? ⟨p, 3, none⟩ = some v3 ∧ y.cell? ⟨p, 4, none⟩ = some v4) ∧ Below w.heap.size w y := by
  intro y
  have hy : y.heap[p]? = some (.cells #[v0, v1, v2, v3, v4] T (0, 0)) := heap_set (heap_set (heap_set (heap_set (heap_set h))))
  exact ⟨cells5 hy, ((((hb.setCell hp _).setCell hp _).setCell hp _).setCell hp _).setCell hp _⟩
set_option maxRecDepth 20000 in
set_option maxHeartbeats 4000000 in
theorem add_no (g jb bb : Nat) (s : Gs) (r : Rec) (a : Option Addr) (cap : Nat) (v : Value) (rs : List RI) (w : World) (h : Gcell w g jb s v) (hH : Held w 0 v rs) (_hrs : rs.map RI.r = s.l) (ok : GsOk s) (hC : Cnd w jb bb s.b) (V : Hds w a r.hs) (ht : I64 r.t) (hm : Mod r) (hT1 : tkB s.b (ofr [] 0 r) = false) :
    Calls Try.prog 6 #[.pointer (some ⟨g, 0, none⟩), recV r a cap] w fun e w' => e = .returned (.tuple #[zeroB, .bool false, .int .i64 (refE (sze r r.t 0))]) ∧ Below w.heap.size w w' := by
  obtain ⟨rt, rkh, rkd, rvh, rvd, rhs⟩ := r
  have HF : Hid (AddH g jb bb s ⟨rt, rkh, rkd, rvh, rvd, rhs⟩ a cap v rs w.heap.size ((w.alloc (.cells #[.int .i64 rt, .bool rkh, .string rkd, .bool rvh, .string rvd, .slice a rhs.length cap] 40)).alloc (.cells #[.int .i64 0, .bool false, .int .i64 0, .int .i32 0, .slice none 0 0] 28))) := AddH.first h hH V hC
  have HB0 : Hid (Below w.heap.size w ((w.alloc (.cells #[.int .i64 rt, .bool rkh, .string rkd, .bool rvh, .string rvd, .slice a rhs.length cap] 40)).alloc (.cells #[.int .i64 0, .bool false, .int .i64 0, .int .i32 0, .slice none 0 0] 28))) := ((Below.refl _ w).alloc (Nat.le_refl _) _).alloc (by simp) _
  have HO1 : Hid (∀ x, AddH g jb bb s ⟨rt, rkh, rkd, rvh, rvd, rhs⟩ a cap v rs w.heap.size x → Calls Try.prog 14 #[recV ⟨rt, rkh, rkd, rvh, rvd, rhs⟩ a cap, .slice none 0 0, .int .i64 0] x fun e w' => e = .returned (ofrV (ofr [] 0 ⟨rt, rkh, rkd, rvh, rvd, rhs⟩)) ∧ Below x.heap.size x w') := fun x hx => offer_any ⟨rt, rkh, rkd, rvh, rvd, rhs⟩ a cap none 0 [] 0 x hx.hds ht hm ⟨fun y hy => by simp at hy, Or.inl rfl⟩ (fun y hy => by simp at hy) (Nat.zero_le _) (Nat.zero_le _)
  have HT1 : Hid (∀ x, AddH g jb bb s ⟨rt, rkh, rkd, rvh, rvd, rhs⟩ a cap v rs w.heap.size x → Calls Try.prog 15 #[.pointer (some ⟨g, 0, none⟩), ofrV (ofr [] 0 ⟨rt, rkh, rkd, rvh, rvd, rhs⟩)] x fun e w' => e = .returned (.bool false) ∧ Below x.heap.size x w') := fun x hx => (takes_any g jb bb s.b _ x hx.cnd ok.b (ofr_in (Nat.zero_le _) (Nat.zero_le _) ht (fun y hy => by simp at hy)) (cells7 hx.g).1).mono fun e w' hh => ⟨hh.1.trans (by rw [hT1]), hh.2⟩
  have HE : Hid (∀ x, Calls Try.prog 16 #[ofrV (ofr [] 0 ⟨rt, rkh, rkd, rvh, rvd, rhs⟩)] x fun e w' => e = .returned (.int .i64 (refE (sze ⟨rt, rkh, rkd, rvh, rvd, rhs⟩ rt 0))) ∧ Below x.heap.size x w') := fun x => refusal_any _ x
  generalize refE (sze ⟨rt, rkh, rkd, rvh, rvd, rhs⟩ rt 0) = E at *
  have hnil : ∀ w : World, (binOp .eql 25 (.slice (some ⟨jb, 0, none⟩) 5 5) (.slice none 0 0)).run Try.prog w = .ok (.bool false) w := fun _ => rfl
  obtain ⟨c0, c1, c2, c3, c4, c5, c6⟩ := cells7 h
  have hgl := lt_of_heap h
  generalize ofr [] 0 ⟨rt, rkh, rkd, rvh, rvd, rhs⟩ = o1 at *
  obtain ⟨on, of, ot, oe, ob⟩ := o1
  dsimp only [recV, ofrV] at *
  clear h hH _hrs ok hC V ht hm hT1
  unfold zeroB batA
  go_enter Try.func6, Try.ntmps6
  go_wp2_with (first | (go_at_call 14; refine (HO1.out _ HF.out).mono ?_; rintro e w1 ⟨rfl, hb1⟩; have F1 := hid (HF.out.next hb1); have B1 := hid (HB0.out.trans (hb1.mono HB0.out.size)); clear hb1) | (go_at_call 15; have F1a := hid (F1.out.next (show Below w1.heap.size w1 (w1.alloc (.cells #[.int .i64 on, .int .i64 of, .int .i64 ot, .int .i64 oe, .int .i64 ob] 57)) from (Below.refl _ w1).alloc (Nat.le_refl _) _)); refine (HT1.out _ F1a.out).mono ?_; rintro e w2 ⟨rfl, hb2⟩; have F2 := hid (F1a.out.next hb2); have B2 := hid (B1.out.trans ((bel_al hb2).mono B1.out.size)); obtain ⟨a0, a1, a2, a3, a4⟩ := cells5 ((hb2.block w1.heap.size (by simp)).trans (heap_new _ _)); have al := hid ((hb2.block w1.heap.size (by simp)).trans (heap_new w1 (.cells #[.int .i64 on, .int .i64 of, .int .i64 ot, .int .i64 oe, .int .i64 ob] 57))); obtain ⟨x0, x1, x2, x3, x4⟩ := cells5 F2.out.zb; have fz := fun o => froz_of (i := o) F2.out.zb; obtain ⟨y0, y1, y2, y3, y4, y5⟩ := cells6 F2.out.rr; obtain ⟨g0, g1, g2, g3, g4, g5, g6⟩ := cells7 F2.out.g; clear hb2 F1a) | (go_at_call 16; refine (HE.out _).mono ?_; rintro e w3 ⟨rfl, hb3⟩; have Z3 := hid ((hb3.block _ (lt_of_heap F2.out.zb)).trans F2.out.zb); have B3 := hid (B2.out.trans (hb3.mono B2.out.size)); obtain ⟨x0, x1, x2, x3, x4⟩ := cells5 Z3.out; have fz := fun o => froz_of (i := o) Z3.out; clear hb3))
  exact bodyPost_ret (v := .tuple #[.agg #[.int .i64 0, .bool false, .int .i64 0, .int .i32 0, .slice none 0 0], .bool false, .int .i64 E]) (by obtain ⟨j0, j1, j2, j3, j4⟩ := (zb_end (v0 := .int .i64 0) (v1 := .bool false) (v2 := .int .i64 0) (v3 := .int .i32 0) (v4 := .slice none 0 0) Z3.out B3.out (Nat.le_succ _)).1; simp [results, Try.results6, go_sem, j0, j1, j2, j3, j4]) rfl ⟨rfl, (zb_end Z3.out B3.out (Nat.le_succ _)).2⟩
end Go.Proofs.Ytlbkkeoffeohnab
namespace Go.Proofs.Ytlbkkeoffeohnab
open Go.RowKit
theorem tk_parts {b : Bnd} {o : Ofr} (h : tkB b o = true) : (o.n : Int) < b.R ∧ dst o.t o.first ≤ b.sp ∧ o.e = 0 ∧ o.body ≤ b.P ∧ roomZ b.pk o.body ≤ b.F := by
  unfold tkB at h
  simp only [Bool.and_eq_true, decide_eq_true_eq] at h
  exact h
theorem tk_ok {b : Bnd} {r : Rec} (h : tkB b (ofr [] 0 r) = true) : sze r r.t 0 = 0 := (tk_parts h).2.2.1
theorem tk_n {s : Gs} {r : Rec} (ok : GsOk s) (h : tkB s.b (ofr s.l s.k r) = true) : s.l.length < 65536 := by
  have h1 : ((ofr s.l s.k r).n : Int) < s.b.R := (tk_parts h).1
  have h2 := ok.b.R.2
  have h3 : (s.l.length : Int) < s.b.R := h1
  omega
theorem wait_lift {w w5 w6 y : World} {g jb p : Nat} {s : Gs} {r : Rec} {v : Value} {rs : List RI} (hW : WaitP g jb s r w5 v rs w6) (hb : Below w.heap.size w w5) (hH : Held w 0 v rs) (hg : g < w.heap.size) (hp : w.heap.size ≤ p) (hp5 : p < w5.heap.size) (hy : Ch (fun i => i = p) w6 y) : WaitP g jb s r w v rs y := by
  obtain ⟨v', x, h1, h2, h3, h4, h5⟩ := hW
  have hnp : ∀ i, HS v' (rs ++ [x]) i → i ≠ p := fun i hi e => by
    rcases h5 i hi with h | h
    · have := hH.hlt i h; omega
    · omega
  refine ⟨v', x, h1, (hy.block g (lt_of_heap h2) (by show ¬ g = p; omega)).trans h2, h3.ch hy hnp, ?_, fun i hi => (h5 i hi).imp id (fun h => Nat.le_trans hb.size h)⟩
  refine ⟨hy.os.trans (h4.os.trans hb.os), hy.tape.trans (h4.tape.trans hb.tape), hy.output.trans (h4.output.trans hb.output), Nat.le_trans hb.size (Nat.le_trans h4.size hy.size), fun i hi hn => ?_⟩
  have i5 := Nat.lt_of_lt_of_le hi hb.size
  exact (hy.block i (Nat.lt_of_lt_of_le i5 h4.size) (by show ¬ i = p; omega)).trans ((h4.block i i5 hn).trans (hb.block i hi))
theorem wait_zb {w w5 w6 : World} {g jb : Nat} {s : Gs} {r : Rec} {v : Value} {rs : List RI} {o : Obj} (hW : WaitP g jb s r w5 v rs w6) (h : w5.heap[w.heap.size + 1]? = some o) (hH : Held w 0 v rs) (hg : g < w.heap.size) : w6.heap[w.heap.size + 1]? = some o := by
  obtain ⟨v', x, _, _, _, h4, _⟩ := hW
  refine (h4.block _ (lt_of_heap h) ?_).trans h
  rintro (e | e)
  · omega
  · have := (World.ownsRow.lt hH.row _ e).2; omega
theorem zb_end2 {x : World} {p : Nat} {z0 z1 z2 z3 z4 v0 v1 v2 v3 v4 : Value} {T : TypeId} (h : x.heap[p]? = some (.cells #[z0, z1, z2, z3, z4] T (0, 0))) :
    let y := ((((x.setCell ⟨p, 0, none⟩ v0).setCell ⟨p, 1, none⟩ v1).setCell ⟨p, 2, none⟩ v2).setCell ⟨p, 3, none⟩ v3).setCell ⟨p, 4, none⟩ v4
    (y.cell? ⟨p, 0, none⟩ = some v0 ∧ y.cell? ⟨p, 1, none⟩ = some v1 ∧ y.cell? ⟨p, 2, none⟩ = some v2 ∧ y.cell? ⟨p, 3, none⟩ = some v3 ∧ y.cell? ⟨p, 4, none⟩ = some v4) ∧ Ch (fun i => i = p) x y := by
  intro y
  have hy : y.heap[p]? = some (.cells #[v0, v1, v2, v3, v4] T (0, 0)) := heap_set (heap_set (heap_set (heap_set (heap_set h))))
  exact ⟨cells5 hy, (((((Ch.refl (fun i => i = p) x).setCell ⟨p, 0, none⟩ _ (fun _ => rfl)).setCell ⟨p, 1, none⟩ _ (fun _ => rfl)).setCell ⟨p, 2, none⟩ _ (fun _ => rfl)).setCell ⟨p, 3, none⟩ _ (fun _ => rfl)).setCell ⟨p, 4, none⟩ _ (fun _ => rfl)⟩
set_option maxRecDepth 20000 in
set_option maxHeartbeats 4000000 in
theorem add_join (g jb bb : Nat) (s : Gs) (r : Rec) (a : Option Addr) (cap : Nat) (v : Value) (rs : List RI) (w : World) (h : Gcell w g jb s v) (hH : Held w 0 v rs) (hrs : rs.map RI.r = s.l) (ok : GsOk s) (hC : Cnd w jb bb s.b) (V : Hds w a r.hs) (ht : I64 r.t) (hm : Mod r) (hT1 : tkB s.b (ofr [] 0 r) = true) (hT2 : tkB s.b (ofr s.l s.k r) = true) :
    Calls Try.prog 6 #[.pointer (some ⟨g, 0, none⟩), recV r a cap] w fun e w' => e = .returned (.tuple #[zeroB, .bool false, .int .i64 0]) ∧ WaitP g jb ⟨s.b, s.l ++ [cln r], s.k + szn r (fst s.l r) s.l.length, s.q⟩ r w v rs w' := by
  obtain ⟨rt, rkh, rkd, rvh, rvd, rhs⟩ := r
  have HF : Hid (AddH g jb bb s ⟨rt, rkh, rkd, rvh, rvd, rhs⟩ a cap v rs w.heap.size ((w.alloc (.cells #[.int .i64 rt, .bool rkh, .string rkd, .bool rvh, .string rvd, .slice a rhs.length cap] 40)).alloc (.cells #[.int .i64 0, .bool false, .int .i64 0, .int .i32 0, .slice none 0 0] 28))) := AddH.first h hH V hC
  have HB0 : Hid (Below w.heap.size w ((w.alloc (.cells #[.int .i64 rt, .bool rkh, .string rkd, .bool rvh, .string rvd, .slice a rhs.length cap] 40)).alloc (.cells #[.int .i64 0, .bool false, .int .i64 0, .int .i32 0, .slice none 0 0] 28))) := ((Below.refl _ w).alloc (Nat.le_refl _) _).alloc (by simp) _
  have HO1 : Hid (∀ x, AddH g jb bb s ⟨rt, rkh, rkd, rvh, rvd, rhs⟩ a cap v rs w.heap.size x → Calls Try.prog 14 #[recV ⟨rt, rkh, rkd, rvh, rvd, rhs⟩ a cap, .slice none 0 0, .int .i64 0] x fun e w' => e = .returned (ofrV (ofr [] 0 ⟨rt, rkh, rkd, rvh, rvd, rhs⟩)) ∧ Below x.heap.size x w') := fun x hx => offer_any ⟨rt, rkh, rkd, rvh, rvd, rhs⟩ a cap none 0 [] 0 x hx.hds ht hm ⟨fun y hy => by simp at hy, Or.inl rfl⟩ (fun y hy => by simp at hy) (Nat.zero_le _) (Nat.zero_le _)
  have HT1 : Hid (∀ x, AddH g jb bb s ⟨rt, rkh, rkd, rvh, rvd, rhs⟩ a cap v rs w.heap.size x → Calls Try.prog 15 #[.pointer (some ⟨g, 0, none⟩), ofrV (ofr [] 0 ⟨rt, rkh, rkd, rvh, rvd, rhs⟩)] x fun e w' => e = .returned (.bool true) ∧ Below x.heap.size x w') := fun x hx => (takes_any g jb bb s.b _ x hx.cnd ok.b (ofr_in (Nat.zero_le _) (Nat.zero_le _) ht (fun y hy => by simp at hy)) (cells7 hx.g).1).mono fun e w' hh => ⟨hh.1.trans (by rw [hT1]), hh.2⟩
  have HO2 : Hid (∀ x, AddH g jb bb s ⟨rt, rkh, rkd, rvh, rvd, rhs⟩ a cap v rs w.heap.size x → Calls Try.prog 14 #[recV ⟨rt, rkh, rkd, rvh, rvd, rhs⟩ a cap, v, .int .i64 s.k] x fun e w' => e = .returned (ofrV (ofr s.l s.k ⟨rt, rkh, rkd, rvh, rvd, rhs⟩)) ∧ Below x.heap.size x w') := fun x hx => by
    obtain ⟨aw, cw, e, W⟩ := hx.held.slice
    rw [e, ← hrs]
    exact offer_any ⟨rt, rkh, rkd, rvh, rvd, rhs⟩ a cap aw cw rs s.k x hx.hds ht hm W (fun y hy => ok.t _ (by rw [← hrs]; exact List.mem_map_of_mem hy)) (by have := ok.n; rw [← hrs, List.length_map] at this; exact this) ok.k
  have HT2 : Hid (∀ x, AddH g jb bb s ⟨rt, rkh, rkd, rvh, rvd, rhs⟩ a cap v rs w.heap.size x → Calls Try.prog 15 #[.pointer (some ⟨g, 0, none⟩), ofrV (ofr s.l s.k ⟨rt, rkh, rkd, rvh, rvd, rhs⟩)] x fun e w' => e = .returned (.bool true) ∧ Below x.heap.size x w') := fun x hx => (takes_any g jb bb s.b _ x hx.cnd ok.b (ofr_in ok.n ok.k ht ok.t) (cells7 hx.g).1).mono fun e w' hh => ⟨hh.1.trans (by rw [hT2]), hh.2⟩
  have HWt : Hid (∀ x, AddH g jb bb s ⟨rt, rkh, rkd, rvh, rvd, rhs⟩ a cap v rs w.heap.size x → Calls Try.prog 17 #[.pointer (some ⟨g, 0, none⟩), recV ⟨rt, rkh, rkd, rvh, rvd, rhs⟩ a cap, .int .i64 ((s.k : Int) + (szn ⟨rt, rkh, rkd, rvh, rvd, rhs⟩ (fst s.l ⟨rt, rkh, rkd, rvh, rvd, rhs⟩) s.l.length : Nat))] x fun e w' => e = .returned (.tuple #[]) ∧ WaitP g jb ⟨s.b, s.l ++ [cln ⟨rt, rkh, rkd, rvh, rvd, rhs⟩], s.k + szn ⟨rt, rkh, rkd, rvh, rvd, rhs⟩ (fst s.l ⟨rt, rkh, rkd, rvh, rvd, rhs⟩) s.l.length, s.q⟩ ⟨rt, rkh, rkd, rvh, rvd, rhs⟩ x v rs w') := fun x hx => wait_any g jb s ⟨rt, rkh, rkd, rvh, rvd, rhs⟩ a cap (s.k + szn ⟨rt, rkh, rkd, rvh, rvd, rhs⟩ (fst s.l ⟨rt, rkh, rkd, rvh, rvd, rhs⟩) s.l.length) v rs x hx.g hx.held hx.hds (sze_ok (tk_ok hT1)).2.2.1 (by have := tk_n ok hT2; have e := congrArg List.length hrs; rw [List.length_map] at e; rw [e]; exact this)
  have hnil : ∀ w : World, (binOp .eql 25 (.slice (some ⟨jb, 0, none⟩) 5 5) (.slice none 0 0)).run Try.prog w = .ok (.bool false) w := fun _ => rfl
  obtain ⟨c0, c1, c2, c3, c4, c5, c6⟩ := cells7 h
  have hgl := lt_of_heap h
  have HHH := hid hH
  have HGG := hid h
  clear h hH hrs ok hC V ht hm hT1 hT2
  generalize cln ⟨rt, rkh, rkd, rvh, rvd, rhs⟩ = rc at *
  have hob : (ofr s.l s.k ⟨rt, rkh, rkd, rvh, rvd, rhs⟩).body = (s.k : Int) + (szn ⟨rt, rkh, rkd, rvh, rvd, rhs⟩ (fst s.l ⟨rt, rkh, rkd, rvh, rvd, rhs⟩) s.l.length : Nat) := rfl
  rw [← hob] at HWt
  clear hob
  generalize ofr [] 0 ⟨rt, rkh, rkd, rvh, rvd, rhs⟩ = o1 at *
  generalize ofr s.l s.k ⟨rt, rkh, rkd, rvh, rvd, rhs⟩ = o2 at *
  obtain ⟨on, of, ot, oe, ob⟩ := o1
  obtain ⟨pn, pf, pt, pe, pb⟩ := o2
  dsimp only [recV, ofrV] at *
  unfold zeroB batA
  go_enter Try.func6, Try.ntmps6
  go_wp2_with (first | (go_at_call 14; refine (HO1.out _ HF.out).mono ?_; rintro e w1 ⟨rfl, hb1⟩; have F1 := hid (HF.out.next hb1); have B1 := hid (HB0.out.trans (hb1.mono HB0.out.size)); clear hb1) | (go_at_call 15; have F1a := hid (F1.out.next (show Below w1.heap.size w1 (w1.alloc (.cells #[.int .i64 on, .int .i64 of, .int .i64 ot, .int .i64 oe, .int .i64 ob] 57)) from (Below.refl _ w1).alloc (Nat.le_refl _) _)); refine (HT1.out _ F1a.out).mono ?_; rintro e w2 ⟨rfl, hb2⟩; have F2 := hid (F1a.out.next hb2); have B2 := hid (B1.out.trans ((bel_al hb2).mono B1.out.size)); obtain ⟨a0, a1, a2, a3, a4⟩ := cells5 ((hb2.block w1.heap.size (by simp)).trans (heap_new _ _)); have al := hid ((hb2.block w1.heap.size (by simp)).trans (heap_new w1 (.cells #[.int .i64 on, .int .i64 of, .int .i64 ot, .int .i64 oe, .int .i64 ob] 57))); obtain ⟨x0, x1, x2, x3, x4⟩ := cells5 F2.out.zb; have fz := fun o => froz_of (i := o) F2.out.zb; obtain ⟨y0, y1, y2, y3, y4, y5⟩ := cells6 F2.out.rr; obtain ⟨g0, g1, g2, g3, g4, g5, g6⟩ := cells7 F2.out.g; clear hb2 F1a))
  have AL := hid (lt_of_heap al.out)
  have HSX : Hid (∀ y, Below w2.heap.size w2 y → (y.cell? ⟨w.heap.size, 0, none⟩ = some (.int .i64 rt) ∧ y.cell? ⟨w.heap.size, 1, none⟩ = some (.bool rkh) ∧ y.cell? ⟨w.heap.size, 2, none⟩ = some (.string rkd) ∧ y.cell? ⟨w.heap.size, 3, none⟩ = some (.bool rvh) ∧ y.cell? ⟨w.heap.size, 4, none⟩ = some (.string rvd) ∧ y.cell? ⟨w.heap.size, 5, none⟩ = some (.slice a rhs.length cap)) ∧ y.cell? ⟨g, 5, none⟩ = some v ∧ y.cell? ⟨g, 6, none⟩ = some (.int .i64 s.k)) := fun y hy => ⟨cells6 (F2.out.next hy).rr, (cells7 (F2.out.next hy).g).2.2.2.2.2.1, (cells7 (F2.out.next hy).g).2.2.2.2.2.2⟩
  clear HO1 HT1 a0 a1 a2 a3 a4 x0 x1 x2 x3 x4 fz y0 y1 y2 y3 y4 y5 g0 g1 g2 g3 g4 g5 g6 HF HB0 F1 c0 c1 c2 c3 c4 c5 c6
  go_cut [8] (fun v8 wc => ∃ G, v8 = .pointer (some ⟨G, 0, none⟩) ∧ Hid (w2.heap.size ≤ G) ∧ Hid (Below w2.heap.size w2 wc) ∧ Hid (wc.heap[G]? = some (.cells #[.int .i64 pn, .int .i64 pf, .int .i64 pt, .int .i64 pe, .int .i64 pb] 57 (0, 0))))
  case first =>
    have hb : Below w2.heap.size w2 w2.drew := (Below.refl _ _).drew
    refine wp_region_held_drew (S := fun y => (y.cell? ⟨w.heap.size, 0, none⟩ = some (.int .i64 rt) ∧ y.cell? ⟨w.heap.size, 1, none⟩ = some (.bool rkh) ∧ y.cell? ⟨w.heap.size, 2, none⟩ = some (.string rkd) ∧ y.cell? ⟨w.heap.size, 3, none⟩ = some (.bool rvh) ∧ y.cell? ⟨w.heap.size, 4, none⟩ = some (.string rvd) ∧ y.cell? ⟨w.heap.size, 5, none⟩ = some (.slice a rhs.length cap)) ∧ y.cell? ⟨g, 5, none⟩ = some v ∧ y.cell? ⟨g, 6, none⟩ = some (.int .i64 s.k)) (by kernel_rfl) (HSX.out _ hb) (fun hHeld => ?_)
    have hz := hb.size
    generalize w2.drew = z0 at *
    refine wpAnyH_take (i := 0) (oi := { dst := some 32, op := Op.load 40 (Operand.tmp 3), type := 40, pos := "gather.go:59", after := #[], guard := none }) (v := ?_) rfl (by kernel_rfl) (by kernel_rfl) (by kernel_rfl) (fun _ _ _ h => h) (Or.inl ⟨by rfl, ?_⟩) (by assumption) ?_
    rotate_left
    · (intro z hSw; (try dsimp only at hSw); go_simp)
      all_goals with_reducible rfl
    try simp only [Act.put, List.setIfInBounds_toArray, List.set_cons_zero, List.set_cons_succ]
    refine wpAnyH_take (i := 1) (oi := { dst := some 33, op := Op.move (Operand.tmp 0), type := 24, pos := "gather.go:59", after := #[], guard := none }) (v := ?_) rfl (by kernel_rfl) (by kernel_rfl) (by kernel_rfl) (fun _ _ _ h => h) (Or.inl ⟨by rfl, ?_⟩) (by assumption) ?_
    rotate_left
    · (intro z hSw; (try dsimp only at hSw); go_simp)
      all_goals with_reducible rfl
    try simp only [Act.put, List.setIfInBounds_toArray, List.set_cons_zero, List.set_cons_succ]
    refine wpAnyH_take (i := 2) (oi := { dst := some 34, op := Op.nilCheck (Operand.tmp 33), type := 0, pos := "gather.go:59", after := #[{ on := 1, ground := Ground.data }], guard := none }) (v := ?_) rfl (by kernel_rfl) (by kernel_rfl) (by kernel_rfl) (fun _ _ _ h => h) (Or.inl ⟨by rfl, ?_⟩) (by assumption) ?_
    rotate_left
    · (intro z hSw; (try dsimp only at hSw); go_simp)
      all_goals with_reducible rfl
    try simp only [Act.put, List.setIfInBounds_toArray, List.set_cons_zero, List.set_cons_succ]
    refine wpAnyH_take (i := 3) (oi := { dst := some 35, op := Op.fieldAddr 30 (Operand.tmp 34) 1, type := 0, pos := "gather.go:59", after := #[{ on := 2, ground := Ground.data }], guard := none }) (v := ?_) rfl (by kernel_rfl) (by kernel_rfl) (by kernel_rfl) (fun _ _ _ h => h) (Or.inl ⟨by rfl, ?_⟩) (by assumption) ?_
    rotate_left
    · (intro z hSw; (try dsimp only at hSw); go_simp)
      all_goals with_reducible rfl
    try simp only [Act.put, List.setIfInBounds_toArray, List.set_cons_zero, List.set_cons_succ]
    refine wpAnyH_take (i := 4) (oi := { dst := some 36, op := Op.fieldAddr 28 (Operand.tmp 35) 4, type := 0, pos := "gather.go:59", after := #[{ on := 3, ground := Ground.data }], guard := none }) (v := ?_) rfl (by kernel_rfl) (by kernel_rfl) (by kernel_rfl) (fun _ _ _ h => h) (Or.inl ⟨by rfl, ?_⟩) (by assumption) ?_
    rotate_left
    · (intro z hSw; (try dsimp only at hSw); go_simp)
      all_goals with_reducible rfl
    try simp only [Act.put, List.setIfInBounds_toArray, List.set_cons_zero, List.set_cons_succ]
    refine wpAnyH_take (i := 5) (oi := { dst := some 37, op := Op.load 26 (Operand.tmp 36), type := 26, pos := "gather.go:59", after := #[{ on := 4, ground := Ground.data }], guard := none }) (v := ?_) rfl (by kernel_rfl) (by kernel_rfl) (by kernel_rfl) (fun _ _ _ h => h) (Or.inl ⟨by rfl, ?_⟩) (by assumption) ?_
    rotate_left
    · (intro z hSw; (try dsimp only at hSw); go_simp)
      all_goals with_reducible rfl
    try simp only [Act.put, List.setIfInBounds_toArray, List.set_cons_zero, List.set_cons_succ]
    refine wpAnyH_take (i := 6) (oi := { dst := some 38, op := Op.move (Operand.tmp 0), type := 24, pos := "gather.go:59", after := #[], guard := none }) (v := ?_) rfl (by kernel_rfl) (by kernel_rfl) (by kernel_rfl) (fun _ _ _ h => h) (Or.inl ⟨by rfl, ?_⟩) (by assumption) ?_
    rotate_left
    · (intro z hSw; (try dsimp only at hSw); go_simp)
      all_goals with_reducible rfl
    try simp only [Act.put, List.setIfInBounds_toArray, List.set_cons_zero, List.set_cons_succ]
    refine wpAnyH_take (i := 7) (oi := { dst := some 39, op := Op.nilCheck (Operand.tmp 38), type := 0, pos := "gather.go:59", after := #[{ on := 6, ground := Ground.data }], guard := none }) (v := ?_) rfl (by kernel_rfl) (by kernel_rfl) (by kernel_rfl) (fun _ _ _ h => h) (Or.inl ⟨by rfl, ?_⟩) (by assumption) ?_
    rotate_left
    · (intro z hSw; (try dsimp only at hSw); go_simp)
      all_goals with_reducible rfl
    try simp only [Act.put, List.setIfInBounds_toArray, List.set_cons_zero, List.set_cons_succ]
    refine wpAnyH_take (i := 8) (oi := { dst := some 40, op := Op.fieldAddr 30 (Operand.tmp 39) 2, type := 0, pos := "gather.go:59", after := #[{ on := 7, ground := Ground.data }], guard := none }) (v := ?_) rfl (by kernel_rfl) (by kernel_rfl) (by kernel_rfl) (fun _ _ _ h => h) (Or.inl ⟨by rfl, ?_⟩) (by assumption) ?_
    rotate_left
    · (intro z hSw; (try dsimp only at hSw); go_simp)
      all_goals with_reducible rfl
    try simp only [Act.put, List.setIfInBounds_toArray, List.set_cons_zero, List.set_cons_succ]
    refine wpAnyH_take (i := 9) (oi := { dst := some 41, op := Op.load 3 (Operand.tmp 40), type := 3, pos := "gather.go:59", after := #[{ on := 8, ground := Ground.data }], guard := none }) (v := ?_) rfl (by kernel_rfl) (by kernel_rfl) (by kernel_rfl) (fun _ _ _ h => h) (Or.inl ⟨by rfl, ?_⟩) (by assumption) ?_
    rotate_left
    · (intro z hSw; (try dsimp only at hSw); go_simp)
      all_goals with_reducible rfl
    try simp only [Act.put, List.setIfInBounds_toArray, List.set_cons_zero, List.set_cons_succ]
    refine wpAnyH_ready (rs := [10, 11]) (by kernel_rfl) (by simp) ?_
    refine AllReadyH.cons (o := { dst := some 42, op := Op.call { callee := Callee.value (Operand.func 14), args := #[Operand.tmp 32, Operand.tmp 37, Operand.tmp 41], argTypes := #[40, 26, 3] }, type := 57, pos := "gather.go:59", after := #[{ on := 0, ground := Ground.data }, { on := 5, ground := Ground.data }, { on := 9, ground := Ground.data }], guard := none }) rfl (fun K hK => ?_) (AllReadyH.cons (o := { dst := some 8, op := Op.alloc 57, type := 0, pos := "gather.go:59", after := #[], guard := none }) rfl (fun K hK => ?_) AllReadyH.nil)
    · go_simp
      go_at_call 14
      refine (HO2.out _ (F2.out.next hb)).mono ?_
      rintro e z3 ⟨rfl, hc⟩
      go_wp2_with fail
      have hb3 : Below w2.heap.size w2 z3 := hb.trans (hc.mono hb.size)
      refine hK.out _ _ (HSX.out _ hb3) (fun hHeld => ?_)
      clear hK K
      try simp only [Act.put, List.setIfInBounds_toArray, List.set_cons_zero, List.set_cons_succ]
      refine wpAnyH_ready (rs := [11]) (by kernel_rfl) (by simp) ?_
      refine AllReadyH.cons (o := { dst := some 8, op := Op.alloc 57, type := 0, pos := "gather.go:59", after := #[], guard := none }) rfl (fun K hK => ?_) AllReadyH.nil
      go_simp
      have hb4 : Below w2.heap.size w2 (z3.alloc (.cells #[.int .i64 0, .int .i64 0, .int .i64 0, .int .i64 0, .int .i64 0] 57)) := hb3.alloc hb3.size _
      have hG := heap_new z3 (.cells #[.int .i64 0, .int .i64 0, .int .i64 0, .int .i64 0, .int .i64 0] 57)
      have hGle : w2.heap.size ≤ z3.heap.size := hb3.size
      refine hK.out _ _ (HSX.out _ hb4) (fun hHeld => ?_)
      clear hK K
      try simp only [Act.put, List.setIfInBounds_toArray, List.set_cons_zero, List.set_cons_succ]
      refine wpAnyH_ready (rs := [12]) (by kernel_rfl) (by simp) ?_
      refine AllReadyH.cons (o := { dst := none, op := Op.store 57 (Operand.tmp 8) (Operand.tmp 42), type := 0, pos := "gather.go:59", after := #[{ on := 11, ground := Ground.data }, { on := 10, ground := Ground.data }, { on := 10, ground := Ground.chain }, { on := 0, ground := Ground.phase }, { on := 1, ground := Ground.phase }, { on := 2, ground := Ground.phase }, { on := 3, ground := Ground.phase }, { on := 4, ground := Ground.phase }, { on := 5, ground := Ground.phase }, { on := 6, ground := Ground.phase }, { on := 7, ground := Ground.phase }, { on := 8, ground := Ground.phase }, { on := 9, ground := Ground.phase }, { on := 10, ground := Ground.phase }, { on := 11, ground := Ground.phase }], guard := none }) rfl (fun K hK => ?_) AllReadyH.nil
      go_simp
      have hbs : Below w2.heap.size w2 (z3.alloc (.cells #[.int .i64 pn, .int .i64 pf, .int .i64 pt, .int .i64 pe, .int .i64 pb] 57)) := hb3.alloc hb3.size _
      have hGs : (z3.alloc (.cells #[.int .i64 pn, .int .i64 pf, .int .i64 pt, .int .i64 pe, .int .i64 pb] 57)).heap[z3.heap.size]? = some (.cells #[.int .i64 pn, .int .i64 pf, .int .i64 pt, .int .i64 pe, .int .i64 pb] 57 (0, 0)) := heap_new _ _
      refine hK.out _ _ (HSX.out _ hbs) (fun hHeld => ?_)
      clear hK K
      try simp only [Act.put, List.setIfInBounds_toArray, List.set_cons_zero, List.set_cons_succ]
      refine wpAnyH_done (by kernel_rfl) ?_ _
      go_wp2_with fail
      go_meet
      case rel => exact ⟨_, rfl, hGle, hbs, hGs⟩
    · go_simp
      have hb4 : Below w2.heap.size w2 (z0.alloc (.cells #[.int .i64 0, .int .i64 0, .int .i64 0, .int .i64 0, .int .i64 0] 57)) := hb.alloc hb.size _
      have hG := heap_new z0 (.cells #[.int .i64 0, .int .i64 0, .int .i64 0, .int .i64 0, .int .i64 0] 57)
      have hGle : w2.heap.size ≤ z0.heap.size := hb.size
      refine hK.out _ _ (HSX.out _ hb4) (fun hHeld => ?_)
      clear hK K
      try simp only [Act.put, List.setIfInBounds_toArray, List.set_cons_zero, List.set_cons_succ]
      generalize hz4 : z0.alloc (.cells #[.int .i64 0, .int .i64 0, .int .i64 0, .int .i64 0, .int .i64 0] 57) = z4 at *
      refine wpAnyH_ready (rs := [10]) (by kernel_rfl) (by simp) ?_
      refine AllReadyH.cons (o := { dst := some 42, op := Op.call { callee := Callee.value (Operand.func 14), args := #[Operand.tmp 32, Operand.tmp 37, Operand.tmp 41], argTypes := #[40, 26, 3] }, type := 57, pos := "gather.go:59", after := #[{ on := 0, ground := Ground.data }, { on := 5, ground := Ground.data }, { on := 9, ground := Ground.data }], guard := none }) rfl (fun K hK => ?_) AllReadyH.nil
      go_simp
      go_at_call 14
      refine (HO2.out _ (F2.out.next hb4)).mono ?_
      rintro e z3 ⟨rfl, hc⟩
      go_wp2_with fail
      have hb3 : Below w2.heap.size w2 z3 := hb4.trans (hc.mono hb4.size)
      refine hK.out _ _ (HSX.out _ hb3) (fun hHeld => ?_)
      clear hK K
      try simp only [Act.put, List.setIfInBounds_toArray, List.set_cons_zero, List.set_cons_succ]
      refine wpAnyH_ready (rs := [12]) (by kernel_rfl) (by simp) ?_
      refine AllReadyH.cons (o := { dst := none, op := Op.store 57 (Operand.tmp 8) (Operand.tmp 42), type := 0, pos := "gather.go:59", after := #[{ on := 11, ground := Ground.data }, { on := 10, ground := Ground.data }, { on := 10, ground := Ground.chain }, { on := 0, ground := Ground.phase }, { on := 1, ground := Ground.phase }, { on := 2, ground := Ground.phase }, { on := 3, ground := Ground.phase }, { on := 4, ground := Ground.phase }, { on := 5, ground := Ground.phase }, { on := 6, ground := Ground.phase }, { on := 7, ground := Ground.phase }, { on := 8, ground := Ground.phase }, { on := 9, ground := Ground.phase }, { on := 10, ground := Ground.phase }, { on := 11, ground := Ground.phase }], guard := none }) rfl (fun K hK => ?_) AllReadyH.nil
      have hG := (hc.block _ (lt_of_heap hG)).trans hG
      obtain ⟨u0, u1, u2, u3, u4⟩ := cells5 hG
      have fz := fun o => froz_of (i := o) hG
      go_simp
      have hbs : Below w2.heap.size w2 (((((z3.setCell ⟨z0.heap.size, 0, none⟩ (.int .i64 pn)).setCell ⟨z0.heap.size, 1, none⟩ (.int .i64 pf)).setCell ⟨z0.heap.size, 2, none⟩ (.int .i64 pt)).setCell ⟨z0.heap.size, 3, none⟩ (.int .i64 pe)).setCell ⟨z0.heap.size, 4, none⟩ (.int .i64 pb)) := ((((hb3.setCell hGle _).setCell hGle _).setCell hGle _).setCell hGle _).setCell hGle _
      have hGs : (((((z3.setCell ⟨z0.heap.size, 0, none⟩ (.int .i64 pn)).setCell ⟨z0.heap.size, 1, none⟩ (.int .i64 pf)).setCell ⟨z0.heap.size, 2, none⟩ (.int .i64 pt)).setCell ⟨z0.heap.size, 3, none⟩ (.int .i64 pe)).setCell ⟨z0.heap.size, 4, none⟩ (.int .i64 pb)).heap[z0.heap.size]? = some (.cells #[.int .i64 pn, .int .i64 pf, .int .i64 pt, .int .i64 pe, .int .i64 pb] 57 (0, 0)) := heap_set (heap_set (heap_set (heap_set (heap_set hG))))
      refine hK.out _ _ (HSX.out _ hbs) (fun hHeld => ?_)
      clear hK K
      try simp only [Act.put, List.setIfInBounds_toArray, List.set_cons_zero, List.set_cons_succ]
      clear u0 u1 u2 u3 u4 fz
      refine wpAnyH_done (by kernel_rfl) ?_ _
      go_wp2_with fail
      go_meet
      case rel => exact ⟨_, rfl, hGle, hbs, hGs⟩
  case rest =>
    obtain ⟨G, rfl, HGL, HB3, HG3⟩ := hcut
    have F3 := hid (F2.out.next HB3.out)
    have B3 := hid (B2.out.trans (HB3.out.mono B2.out.size))
    obtain ⟨u0, u1, u2, u3, u4⟩ := cells5 HG3.out
    go_wp2_with (first | (go_at_call 15; refine (HT2.out _ F3.out).mono ?_; rintro e w4 ⟨rfl, hb4⟩; have F4 := hid (F3.out.next hb4); have B4 := hid (B3.out.trans (hb4.mono B3.out.size)); have HG4 := hid ((hb4.block G (lt_of_heap HG3.out)).trans HG3.out); obtain ⟨u0, u1, u2, u3, u4⟩ := cells5 HG4.out; obtain ⟨y0, y1, y2, y3, y4, y5⟩ := cells6 F4.out.rr; obtain ⟨g0, g1, g2, g3, g4, g5, g6⟩ := cells7 F4.out.g; clear hb4) | (go_at_call 17; refine (HWt.out _ F4.out).mono ?_; rintro e w5 ⟨rfl, hW⟩; have Z5 := hid (wait_zb hW F4.out.zb HHH.out hgl); have HW := hid hW; obtain ⟨x0, x1, x2, x3, x4⟩ := cells5 Z5.out; have fz := fun o => froz_of (i := o) Z5.out; clear hW))
    exact bodyPost_ret (v := .tuple #[.agg #[.int .i64 0, .bool false, .int .i64 0, .int .i32 0, .slice none 0 0], .bool false, .int .i64 0]) (by obtain ⟨j0, j1, j2, j3, j4⟩ := (zb_end2 (v0 := .int .i64 0) (v1 := .bool false) (v2 := .int .i64 0) (v3 := .int .i32 0) (v4 := .slice none 0 0) Z5.out).1; simp [results, Try.results6, go_sem, j0, j1, j2, j3, j4]) rfl ⟨rfl, wait_lift HW.out B4.out HHH.out hgl (Nat.le_succ _) (lt_of_heap F4.out.zb) (zb_end2 Z5.out).2⟩
end Go.Proofs.Ytlbkkeoffeohnab
namespace Go.Proofs.Ytlbkkeoffeohnab
open Go.RowKit
theorem held_ng {w : World} {g jb : Nat} {s : Gs} {v : Value} {rs : List RI} (h : Gcell w g jb s v) (hH : Held w 0 v rs) : ∀ i, HS v rs i → i ≠ g := by
  rintro i (hi | ⟨q, hq, hi⟩) rfl
  · exact own_ne hH.row h (by decide) hi
  · exact own_ne (hH.hds q hq) h (by decide) hi
/-- Headers that came in are no cells of a gatherer. -/
theorem hds_ng {x y : World} {g jb n c : Nat} {s : Gs} {av a : Option Addr} {hs : List Hdr} (V : Hds x a hs) (h : Gcell x g jb s (.slice av n c)) (k : Ch (fun i => i = g) x y) : Hds y a hs := by
  rcases V with V | ⟨b, off, rfl, hb, hc⟩
  · exact Or.inl V
  · by_cases h0 : hs = []
    · exact Or.inl h0
    · have hl : 0 < hs.length := List.length_pos_iff.2 h0
      have hne : b ≠ g := by
        rintro rfl
        have q := (hc 0 hl).1
        obtain ⟨c0, c1, c2, c3, c4, c5, c6⟩ := cells7 h
        rw [Nat.zero_mul, Nat.add_zero] at q
        match off, q with
        | 0, q => rw [c0] at q; cases q
        | 1, q => rw [c1] at q; cases q
        | 2, q => rw [c2] at q; cases q
        | 3, q => rw [c3] at q; cases q
        | 4, q => rw [c4] at q; cases q
        | 5, q => rw [c5] at q; cases q
        | 6, q => rw [c6] at q; cases q
        | o + 7, q =>
          have : x.cell? ⟨b, o + 7, none⟩ = none := (cell_of h).trans (by simp)
          rw [this] at q; cases q
      have hk := k.block b hb hne
      exact Or.inr ⟨b, off, rfl, Nat.lt_of_lt_of_le hb k.size, fun j hj => by
        obtain ⟨h0, h1, h2⟩ := hc j hj
        exact ⟨(World.cell?_of_block hk).trans h0, (World.cell?_of_block hk).trans h1, (World.cell?_of_block hk).trans h2⟩⟩
theorem wait_lift2 {w w5 w6 y : World} {g jb p : Nat} {s : Gs} {r : Rec} (hW : WaitP g jb s r w5 (.slice none 0 0) [] w6) (hb : Ch (fun i => i = g) w w5) (hg : g < w.heap.size) (hp : w.heap.size ≤ p) (hp5 : p < w5.heap.size) (hy : Ch (fun i => i = p) w6 y) : WaitP g jb s r w (.slice none 0 0) [] y ∧ Ch (fun i => i = g) w y := by
  obtain ⟨v', x, h1, h2, h3, h4, h5⟩ := hW
  have hc : Ch (fun i => i = g) w y := by
    refine ⟨hy.os.trans (h4.os.trans hb.os), hy.tape.trans (h4.tape.trans hb.tape), hy.output.trans (h4.output.trans hb.output), Nat.le_trans hb.size (Nat.le_trans h4.size hy.size), fun i hi hn => ?_⟩
    have i5 := Nat.lt_of_lt_of_le hi hb.size
    exact (hy.block i (Nat.lt_of_lt_of_le i5 h4.size) (by show ¬ i = p; omega)).trans ((h4.block i i5 (fun e => e.elim hn (fun e => by cases e))).trans (hb.block i hi hn))
  have hnp : ∀ i, HS v' ([] ++ [x]) i → i ≠ p := fun i hi e => by
    rcases h5 i hi with h | h
    · rcases h with h | ⟨q, hq, _⟩
      · cases h
      · simp at hq
    · omega
  refine ⟨⟨v', x, h1, (hy.block g (lt_of_heap h2) (by show ¬ g = p; omega)).trans h2, h3.ch hy hnp, hc.mono (fun _ _ e => Or.inl e), fun i hi => (h5 i hi).imp id (fun h => Nat.le_trans hb.size h)⟩, hc⟩
theorem wait_far {w5 w6 : World} {g jb p : Nat} {s : Gs} {r : Rec} {o : Obj} (hW : WaitP g jb s r w5 (.slice none 0 0) [] w6) (h : w5.heap[p]? = some o) (hp : p ≠ g) : w6.heap[p]? = some o := by
  obtain ⟨v', x, _, _, _, h4, _⟩ := hW
  exact (h4.block _ (lt_of_heap h) (fun e => e.elim hp (fun e => by cases e))).trans h
theorem add_len {s : Gs} {r : Rec} (hz : s.l = [] → s.k = 0) (hT1 : tkB s.b (ofr [] 0 r) = true) (hT2 : tkB s.b (ofr s.l s.k r) = false) : 0 < s.l.length := by
  rcases Nat.eq_zero_or_pos s.l.length with h | h
  · have h0 := List.eq_nil_of_length_eq_zero h
    rw [h0, hz h0] at hT2
    rw [hT1] at hT2; cases hT2
  · exact h
theorem held_nil (w : World) : Held w 0 (.slice none 0 0) [] := ⟨World.ownsRow_nil _ _ _ _, fun x hx => by simp at hx, List.Pairwise.nil⟩
set_option maxRecDepth 20000 in
set_option maxHeartbeats 4000000 in
theorem add_full (g jb bb : Nat) (s : Gs) (r : Rec) (a : Option Addr) (cap : Nat) (v : Value) (rs : List RI) (w : World) (h : Gcell w g jb s v) (hH : Held w 0 v rs) (hrs : rs.map RI.r = s.l) (ok : GsOk s) (hC : Cnd w jb bb s.b) (V : Hds w a r.hs) (ht : I64 r.t) (hm : Mod r) (hT1 : tkB s.b (ofr [] 0 r) = true) (hT2 : tkB s.b (ofr s.l s.k r) = false) (hz0 : s.l = [] → s.k = 0) :
    Calls Try.prog 6 #[.pointer (some ⟨g, 0, none⟩), recV r a cap] w fun e w' => e = .returned (.tuple #[batA s.b.pk s.b.pr s.q v, .bool true, .int .i64 0]) ∧ WaitP g jb ⟨s.b, [] ++ [cln r], szn r r.t 0, behZ s.b.pr s.q s.l.length⟩ r w (.slice none 0 0) [] w' ∧ Held w' 0 v rs := by
  obtain ⟨av, cv, rfl, _⟩ := hH.slice
  obtain ⟨rt, rkh, rkd, rvh, rvd, rhs⟩ := r
  have HF : Hid (AddH g jb bb s ⟨rt, rkh, rkd, rvh, rvd, rhs⟩ a cap (.slice av rs.length cv) rs w.heap.size ((w.alloc (.cells #[.int .i64 rt, .bool rkh, .string rkd, .bool rvh, .string rvd, .slice a rhs.length cap] 40)).alloc (.cells #[.int .i64 0, .bool false, .int .i64 0, .int .i32 0, .slice none 0 0] 28))) := AddH.first h hH V hC
  have HB0 : Hid (Below w.heap.size w ((w.alloc (.cells #[.int .i64 rt, .bool rkh, .string rkd, .bool rvh, .string rvd, .slice a rhs.length cap] 40)).alloc (.cells #[.int .i64 0, .bool false, .int .i64 0, .int .i32 0, .slice none 0 0] 28))) := ((Below.refl _ w).alloc (Nat.le_refl _) _).alloc (by simp) _
  have HO1 : Hid (∀ x, AddH g jb bb s ⟨rt, rkh, rkd, rvh, rvd, rhs⟩ a cap (.slice av rs.length cv) rs w.heap.size x → Calls Try.prog 14 #[recV ⟨rt, rkh, rkd, rvh, rvd, rhs⟩ a cap, .slice none 0 0, .int .i64 0] x fun e w' => e = .returned (ofrV (ofr [] 0 ⟨rt, rkh, rkd, rvh, rvd, rhs⟩)) ∧ Below x.heap.size x w') := fun x hx => offer_any ⟨rt, rkh, rkd, rvh, rvd, rhs⟩ a cap none 0 [] 0 x hx.hds ht hm ⟨fun y hy => by simp at hy, Or.inl rfl⟩ (fun y hy => by simp at hy) (Nat.zero_le _) (Nat.zero_le _)
  have HT1 : Hid (∀ x, AddH g jb bb s ⟨rt, rkh, rkd, rvh, rvd, rhs⟩ a cap (.slice av rs.length cv) rs w.heap.size x → Calls Try.prog 15 #[.pointer (some ⟨g, 0, none⟩), ofrV (ofr [] 0 ⟨rt, rkh, rkd, rvh, rvd, rhs⟩)] x fun e w' => e = .returned (.bool true) ∧ Below x.heap.size x w') := fun x hx => (takes_any g jb bb s.b _ x hx.cnd ok.b (ofr_in (Nat.zero_le _) (Nat.zero_le _) ht (fun y hy => by simp at hy)) (cells7 hx.g).1).mono fun e w' hh => ⟨hh.1.trans (by rw [hT1]), hh.2⟩
  have HO2 : Hid (∀ x, AddH g jb bb s ⟨rt, rkh, rkd, rvh, rvd, rhs⟩ a cap (.slice av rs.length cv) rs w.heap.size x → Calls Try.prog 14 #[recV ⟨rt, rkh, rkd, rvh, rvd, rhs⟩ a cap, .slice av rs.length cv, .int .i64 s.k] x fun e w' => e = .returned (ofrV (ofr s.l s.k ⟨rt, rkh, rkd, rvh, rvd, rhs⟩)) ∧ Below x.heap.size x w') := fun x hx => by
    obtain ⟨aw, cw, e, W⟩ := hx.held.slice
    rw [e, ← hrs]
    exact offer_any ⟨rt, rkh, rkd, rvh, rvd, rhs⟩ a cap aw cw rs s.k x hx.hds ht hm W (fun y hy => ok.t _ (by rw [← hrs]; exact List.mem_map_of_mem hy)) (by have := ok.n; rw [← hrs, List.length_map] at this; exact this) ok.k
  have HT2 : Hid (∀ x, AddH g jb bb s ⟨rt, rkh, rkd, rvh, rvd, rhs⟩ a cap (.slice av rs.length cv) rs w.heap.size x → Calls Try.prog 15 #[.pointer (some ⟨g, 0, none⟩), ofrV (ofr s.l s.k ⟨rt, rkh, rkd, rvh, rvd, rhs⟩)] x fun e w' => e = .returned (.bool false) ∧ Below x.heap.size x w') := fun x hx => (takes_any g jb bb s.b _ x hx.cnd ok.b (ofr_in ok.n ok.k ht ok.t) (cells7 hx.g).1).mono fun e w' hh => ⟨hh.1.trans (by rw [hT2]), hh.2⟩
  have hn0 := add_len hz0 hT1 hT2
  have hln : rs.length = s.l.length := by have e := congrArg List.length hrs; rwa [List.length_map] at e
  have HFl : Hid (∀ x, AddH g jb bb s ⟨rt, rkh, rkd, rvh, rvd, rhs⟩ a cap (.slice av rs.length cv) rs w.heap.size x → Calls Try.prog 7 #[.pointer (some ⟨g, 0, none⟩)] x fun e w' => e = .returned (.tuple #[batA s.b.pk s.b.pr s.q (.slice av rs.length cv), .bool true]) ∧ Gcell w' g jb ⟨s.b, [], 0, behZ s.b.pr s.q s.l.length⟩ (.slice none 0 0) ∧ Ch (fun i => i = g) x w') := fun x hx => by
    obtain ⟨aw, cw, e, _⟩ := hx.held.slice
    have hg := hx.g
    rw [e] at hg ⊢
    rw [hln] at hg ⊢
    exact flush_some g jb s aw s.l.length cw x hn0 ok.n ok hg
  have HVK : Hid (∀ x y, AddH g jb bb s ⟨rt, rkh, rkd, rvh, rvd, rhs⟩ a cap (.slice av rs.length cv) rs w.heap.size x → Ch (fun i => i = g) x y → Hds y a rhs) := fun x y hx hc => by
    obtain ⟨aw, cw, e, _⟩ := hx.held.slice
    have hg := hx.g
    rw [e] at hg
    exact hds_ng hx.hds hg hc
  have HWt : Hid (∀ x, Gcell x g jb ⟨s.b, [], 0, behZ s.b.pr s.q s.l.length⟩ (.slice none 0 0) → Hds x a rhs → Calls Try.prog 17 #[.pointer (some ⟨g, 0, none⟩), recV ⟨rt, rkh, rkd, rvh, rvd, rhs⟩ a cap, .int .i64 (szn ⟨rt, rkh, rkd, rvh, rvd, rhs⟩ rt 0)] x fun e w' => e = .returned (.tuple #[]) ∧ WaitP g jb ⟨s.b, [] ++ [cln ⟨rt, rkh, rkd, rvh, rvd, rhs⟩], szn ⟨rt, rkh, rkd, rvh, rvd, rhs⟩ rt 0, behZ s.b.pr s.q s.l.length⟩ ⟨rt, rkh, rkd, rvh, rvd, rhs⟩ x (.slice none 0 0) [] w') := fun x hx hv => wait_any g jb ⟨s.b, [], 0, behZ s.b.pr s.q s.l.length⟩ ⟨rt, rkh, rkd, rvh, rvd, rhs⟩ a cap (szn ⟨rt, rkh, rkd, rvh, rvd, rhs⟩ rt 0) (.slice none 0 0) [] x hx (held_nil x) hv (sze_ok (tk_ok hT1)).2.2.1 (by decide)
  have HNG := hid (held_ng h hH)
  have hnil : ∀ w : World, (binOp .eql 25 (.slice (some ⟨jb, 0, none⟩) 5 5) (.slice none 0 0)).run Try.prog w = .ok (.bool false) w := fun _ => rfl
  obtain ⟨c0, c1, c2, c3, c4, c5, c6⟩ := cells7 h
  have hgl := lt_of_heap h
  have HHH := hid hH
  have HGG := hid h
  have HNE0 : Hid (¬ w.heap.size = g) := by show ¬ _; omega
  have HNE2 : Hid (¬ w.heap.size + 1 = g) := by show ¬ _; omega
  have hob : (ofr [] 0 ⟨rt, rkh, rkd, rvh, rvd, rhs⟩).body = (szn ⟨rt, rkh, rkd, rvh, rvd, rhs⟩ rt 0 : Nat) := by simp [ofr, fst]
  rw [← hob] at HWt
  clear hob h hH hrs ok hC V ht hm hT1 hT2 hz0 hn0 hln
  dsimp only at *
  generalize szn ⟨rt, rkh, rkd, rvh, rvd, rhs⟩ rt 0 = sn at *
  generalize cln ⟨rt, rkh, rkd, rvh, rvd, rhs⟩ = rc at *
  generalize ofr [] 0 ⟨rt, rkh, rkd, rvh, rvd, rhs⟩ = o1 at *
  generalize ofr s.l s.k ⟨rt, rkh, rkd, rvh, rvd, rhs⟩ = o2 at *
  obtain ⟨on, of, ot, oe, ob⟩ := o1
  obtain ⟨pn, pf, pt, pe, pb⟩ := o2
  dsimp only [recV, ofrV] at *
  unfold batA at *
  have hbz := behZ s.b.pr s.q s.l.length
  generalize behZ s.b.pr s.q s.l.length = qq at *
  clear hbz
  obtain ⟨⟨bR, bP, bF, bsp, pk, pr, bsq⟩, l, k, q⟩ := s
  dsimp only at *
  go_enter Try.func6, Try.ntmps6
  go_wp2_with (first | (go_at_call 14; refine (HO1.out _ HF.out).mono ?_; rintro e w1 ⟨rfl, hb1⟩; have F1 := hid (HF.out.next hb1); have B1 := hid (HB0.out.trans (hb1.mono HB0.out.size)); clear hb1) | (go_at_call 15; have F1a := hid (F1.out.next (show Below w1.heap.size w1 (w1.alloc (.cells #[.int .i64 on, .int .i64 of, .int .i64 ot, .int .i64 oe, .int .i64 ob] 57)) from (Below.refl _ w1).alloc (Nat.le_refl _) _)); refine (HT1.out _ F1a.out).mono ?_; rintro e w2 ⟨rfl, hb2⟩; have F2 := hid (F1a.out.next hb2); have B2 := hid (B1.out.trans ((bel_al hb2).mono B1.out.size)); obtain ⟨a0, a1, a2, a3, a4⟩ := cells5 ((hb2.block w1.heap.size (by simp)).trans (heap_new _ _)); have al := hid ((hb2.block w1.heap.size (by simp)).trans (heap_new w1 (.cells #[.int .i64 on, .int .i64 of, .int .i64 ot, .int .i64 oe, .int .i64 ob] 57))); obtain ⟨x0, x1, x2, x3, x4⟩ := cells5 F2.out.zb; have fz := fun o => froz_of (i := o) F2.out.zb; obtain ⟨y0, y1, y2, y3, y4, y5⟩ := cells6 F2.out.rr; obtain ⟨g0, g1, g2, g3, g4, g5, g6⟩ := cells7 F2.out.g; clear hb2 F1a))
  have AL := hid (lt_of_heap al.out)
  have HSX : Hid (∀ y, Below w2.heap.size w2 y → (y.cell? ⟨w.heap.size, 0, none⟩ = some (.int .i64 rt) ∧ y.cell? ⟨w.heap.size, 1, none⟩ = some (.bool rkh) ∧ y.cell? ⟨w.heap.size, 2, none⟩ = some (.string rkd) ∧ y.cell? ⟨w.heap.size, 3, none⟩ = some (.bool rvh) ∧ y.cell? ⟨w.heap.size, 4, none⟩ = some (.string rvd) ∧ y.cell? ⟨w.heap.size, 5, none⟩ = some (.slice a rhs.length cap)) ∧ y.cell? ⟨g, 5, none⟩ = some (.slice av rs.length cv) ∧ y.cell? ⟨g, 6, none⟩ = some (.int .i64 k)) := fun y hy => ⟨cells6 (F2.out.next hy).rr, (cells7 (F2.out.next hy).g).2.2.2.2.2.1, (cells7 (F2.out.next hy).g).2.2.2.2.2.2⟩
  clear HO1 HT1 a0 a1 a2 a3 a4 x0 x1 x2 x3 x4 fz y0 y1 y2 y3 y4 y5 g0 g1 g2 g3 g4 g5 g6 HF HB0 F1 c0 c1 c2 c3 c4 c5 c6
  go_cut [8] (fun v8 wc => ∃ G, v8 = .pointer (some ⟨G, 0, none⟩) ∧ Hid (w2.heap.size ≤ G) ∧ Hid (Below w2.heap.size w2 wc) ∧ Hid (wc.heap[G]? = some (.cells #[.int .i64 pn, .int .i64 pf, .int .i64 pt, .int .i64 pe, .int .i64 pb] 57 (0, 0))))
  case first =>
    have hb : Below w2.heap.size w2 w2.drew := (Below.refl _ _).drew
    refine wp_region_held_drew (S := fun y => (y.cell? ⟨w.heap.size, 0, none⟩ = some (.int .i64 rt) ∧ y.cell? ⟨w.heap.size, 1, none⟩ = some (.bool rkh) ∧ y.cell? ⟨w.heap.size, 2, none⟩ = some (.string rkd) ∧ y.cell? ⟨w.heap.size, 3, none⟩ = some (.bool rvh) ∧ y.cell? ⟨w.heap.size, 4, none⟩ = some (.string rvd) ∧ y.cell? ⟨w.heap.size, 5, none⟩ = some (.slice a rhs.length cap)) ∧ y.cell? ⟨g, 5, none⟩ = some (.slice av rs.length cv) ∧ y.cell? ⟨g, 6, none⟩ = some (.int .i64 k)) (by kernel_rfl) (HSX.out _ hb) (fun hHeld => ?_)
    have hz := hb.size
    generalize w2.drew = z0 at *
    refine wpAnyH_take (i := 0) (oi := { dst := some 32, op := Op.load 40 (Operand.tmp 3), type := 40, pos := "gather.go:59", after := #[], guard := none }) (v := ?_) rfl (by kernel_rfl) (by kernel_rfl) (by kernel_rfl) (fun _ _ _ h => h) (Or.inl ⟨by rfl, ?_⟩) (by assumption) ?_
    rotate_left
    · (intro z hSw; (try dsimp only at hSw); go_simp)
      all_goals with_reducible rfl
    try simp only [Act.put, List.setIfInBounds_toArray, List.set_cons_zero, List.set_cons_succ]
    refine wpAnyH_take (i := 1) (oi := { dst := some 33, op := Op.move (Operand.tmp 0), type := 24, pos := "gather.go:59", after := #[], guard := none }) (v := ?_) rfl (by kernel_rfl) (by kernel_rfl) (by kernel_rfl) (fun _ _ _ h => h) (Or.inl ⟨by rfl, ?_⟩) (by assumption) ?_
    rotate_left
    · (intro z hSw; (try dsimp only at hSw); go_simp)
      all_goals with_reducible rfl
    try simp only [Act.put, List.setIfInBounds_toArray, List.set_cons_zero, List.set_cons_succ]
    refine wpAnyH_take (i := 2) (oi := { dst := some 34, op := Op.nilCheck (Operand.tmp 33), type := 0, pos := "gather.go:59", after := #[{ on := 1, ground := Ground.data }], guard := none }) (v := ?_) rfl (by kernel_rfl) (by kernel_rfl) (by kernel_rfl) (fun _ _ _ h => h) (Or.inl ⟨by rfl, ?_⟩) (by assumption) ?_
    rotate_left
    · (intro z hSw; (try dsimp only at hSw); go_simp)
      all_goals with_reducible rfl
    try simp only [Act.put, List.setIfInBounds_toArray, List.set_cons_zero, List.set_cons_succ]
    refine wpAnyH_take (i := 3) (oi := { dst := some 35, op := Op.fieldAddr 30 (Operand.tmp 34) 1, type := 0, pos := "gather.go:59", after := #[{ on := 2, ground := Ground.data }], guard := none }) (v := ?_) rfl (by kernel_rfl) (by kernel_rfl) (by kernel_rfl) (fun _ _ _ h => h) (Or.inl ⟨by rfl, ?_⟩) (by assumption) ?_
    rotate_left
    · (intro z hSw; (try dsimp only at hSw); go_simp)
      all_goals with_reducible rfl
    try simp only [Act.put, List.setIfInBounds_toArray, List.set_cons_zero, List.set_cons_succ]
    refine wpAnyH_take (i := 4) (oi := { dst := some 36, op := Op.fieldAddr 28 (Operand.tmp 35) 4, type := 0, pos := "gather.go:59", after := #[{ on := 3, ground := Ground.data }], guard := none }) (v := ?_) rfl (by kernel_rfl) (by kernel_rfl) (by kernel_rfl) (fun _ _ _ h => h) (Or.inl ⟨by rfl, ?_⟩) (by assumption) ?_
    rotate_left
    · (intro z hSw; (try dsimp only at hSw); go_simp)
      all_goals with_reducible rfl
    try simp only [Act.put, List.setIfInBounds_toArray, List.set_cons_zero, List.set_cons_succ]
    refine wpAnyH_take (i := 5) (oi := { dst := some 37, op := Op.load 26 (Operand.tmp 36), type := 26, pos := "gather.go:59", after := #[{ on := 4, ground := Ground.data }], guard := none }) (v := ?_) rfl (by kernel_rfl) (by kernel_rfl) (by kernel_rfl) (fun _ _ _ h => h) (Or.inl ⟨by rfl, ?_⟩) (by assumption) ?_
    rotate_left
    · (intro z hSw; (try dsimp only at hSw); go_simp)
      all_goals with_reducible rfl
    try simp only [Act.put, List.setIfInBounds_toArray, List.set_cons_zero, List.set_cons_succ]
    refine wpAnyH_take (i := 6) (oi := { dst := some 38, op := Op.move (Operand.tmp 0), type := 24, pos := "gather.go:59", after := #[], guard := none }) (v := ?_) rfl (by kernel_rfl) (by kernel_rfl) (by kernel_rfl) (fun _ _ _ h => h) (Or.inl ⟨by rfl, ?_⟩) (by assumption) ?_
    rotate_left
    · (intro z hSw; (try dsimp only at hSw); go_simp)
      all_goals with_reducible rfl
    try simp only [Act.put, List.setIfInBounds_toArray, List.set_cons_zero, List.set_cons_succ]
    refine wpAnyH_take (i := 7) (oi := { dst := some 39, op := Op.nilCheck (Operand.tmp 38), type := 0, pos := "gather.go:59", after := #[{ on := 6, ground := Ground.data }], guard := none }) (v := ?_) rfl (by kernel_rfl) (by kernel_rfl) (by kernel_rfl) (fun _ _ _ h => h) (Or.inl ⟨by rfl, ?_⟩) (by assumption) ?_
    rotate_left
    · (intro z hSw; (try dsimp only at hSw); go_simp)
      all_goals with_reducible rfl
    try simp only [Act.put, List.setIfInBounds_toArray, List.set_cons_zero, List.set_cons_succ]
    refine wpAnyH_take (i := 8) (oi := { dst := some 40, op := Op.fieldAddr 30 (Operand.tmp 39) 2, type := 0, pos := "gather.go:59", after := #[{ on := 7, ground := Ground.data }], guard := none }) (v := ?_) rfl (by kernel_rfl) (by kernel_rfl) (by kernel_rfl) (fun _ _ _ h => h) (Or.inl ⟨by rfl, ?_⟩) (by assumption) ?_
    rotate_left
    · (intro z hSw; (try dsimp only at hSw); go_simp)
      all_goals with_reducible rfl
    try simp only [Act.put, List.setIfInBounds_toArray, List.set_cons_zero, List.set_cons_succ]
    refine wpAnyH_take (i := 9) (oi := { dst := some 41, op := Op.load 3 (Operand.tmp 40), type := 3, pos := "gather.go:59", after := #[{ on := 8, ground := Ground.data }], guard := none }) (v := ?_) rfl (by kernel_rfl) (by kernel_rfl) (by kernel_rfl) (fun _ _ _ h => h) (Or.inl ⟨by rfl, ?_⟩) (by assumption) ?_
    rotate_left
    · (intro z hSw; (try dsimp only at hSw); go_simp)
      all_goals with_reducible rfl
    try simp only [Act.put, List.setIfInBounds_toArray, List.set_cons_zero, List.set_cons_succ]
    refine wpAnyH_ready (rs := [10, 11]) (by kernel_rfl) (by simp) ?_
    refine AllReadyH.cons (o := { dst := some 42, op := Op.call { callee := Callee.value (Operand.func 14), args := #[Operand.tmp 32, Operand.tmp 37, Operand.tmp 41], argTypes := #[40, 26, 3] }, type := 57, pos := "gather.go:59", after := #[{ on := 0, ground := Ground.data }, { on := 5, ground := Ground.data }, { on := 9, ground := Ground.data }], guard := none }) rfl (fun K hK => ?_) (AllReadyH.cons (o := { dst := some 8, op := Op.alloc 57, type := 0, pos := "gather.go:59", after := #[], guard := none }) rfl (fun K hK => ?_) AllReadyH.nil)
    · go_simp
      go_at_call 14
      refine (HO2.out _ (F2.out.next hb)).mono ?_
      rintro e z3 ⟨rfl, hc⟩
      go_wp2_with fail
      have hb3 : Below w2.heap.size w2 z3 := hb.trans (hc.mono hb.size)
      refine hK.out _ _ (HSX.out _ hb3) (fun hHeld => ?_)
      clear hK K
      try simp only [Act.put, List.setIfInBounds_toArray, List.set_cons_zero, List.set_cons_succ]
      refine wpAnyH_ready (rs := [11]) (by kernel_rfl) (by simp) ?_
      refine AllReadyH.cons (o := { dst := some 8, op := Op.alloc 57, type := 0, pos := "gather.go:59", after := #[], guard := none }) rfl (fun K hK => ?_) AllReadyH.nil
      go_simp
      have hb4 : Below w2.heap.size w2 (z3.alloc (.cells #[.int .i64 0, .int .i64 0, .int .i64 0, .int .i64 0, .int .i64 0] 57)) := hb3.alloc hb3.size _
      have hG := heap_new z3 (.cells #[.int .i64 0, .int .i64 0, .int .i64 0, .int .i64 0, .int .i64 0] 57)
      have hGle : w2.heap.size ≤ z3.heap.size := hb3.size
      refine hK.out _ _ (HSX.out _ hb4) (fun hHeld => ?_)
      clear hK K
      try simp only [Act.put, List.setIfInBounds_toArray, List.set_cons_zero, List.set_cons_succ]
      refine wpAnyH_ready (rs := [12]) (by kernel_rfl) (by simp) ?_
      refine AllReadyH.cons (o := { dst := none, op := Op.store 57 (Operand.tmp 8) (Operand.tmp 42), type := 0, pos := "gather.go:59", after := #[{ on := 11, ground := Ground.data }, { on := 10, ground := Ground.data }, { on := 10, ground := Ground.chain }, { on := 0, ground := Ground.phase }, { on := 1, ground := Ground.phase }, { on := 2, ground := Ground.phase }, { on := 3, ground := Ground.phase }, { on := 4, ground := Ground.phase }, { on := 5, ground := Ground.phase }, { on := 6, ground := Ground.phase }, { on := 7, ground := Ground.phase }, { on := 8, ground := Ground.phase }, { on := 9, ground := Ground.phase }, { on := 10, ground := Ground.phase }, { on := 11, ground := Ground.phase }], guard := none }) rfl (fun K hK => ?_) AllReadyH.nil
      go_simp
      have hbs : Below w2.heap.size w2 (z3.alloc (.cells #[.int .i64 pn, .int .i64 pf, .int .i64 pt, .int .i64 pe, .int .i64 pb] 57)) := hb3.alloc hb3.size _
      have hGs : (z3.alloc (.cells #[.int .i64 pn, .int .i64 pf, .int .i64 pt, .int .i64 pe, .int .i64 pb] 57)).heap[z3.heap.size]? = some (.cells #[.int .i64 pn, .int .i64 pf, .int .i64 pt, .int .i64 pe, .int .i64 pb] 57 (0, 0)) := heap_new _ _
      refine hK.out _ _ (HSX.out _ hbs) (fun hHeld => ?_)
      clear hK K
      try simp only [Act.put, List.setIfInBounds_toArray, List.set_cons_zero, List.set_cons_succ]
      refine wpAnyH_done (by kernel_rfl) ?_ _
      go_wp2_with fail
      go_meet
      case rel => exact ⟨_, rfl, hGle, hbs, hGs⟩
    · go_simp
      have hb4 : Below w2.heap.size w2 (z0.alloc (.cells #[.int .i64 0, .int .i64 0, .int .i64 0, .int .i64 0, .int .i64 0] 57)) := hb.alloc hb.size _
      have hG := heap_new z0 (.cells #[.int .i64 0, .int .i64 0, .int .i64 0, .int .i64 0, .int .i64 0] 57)
      have hGle : w2.heap.size ≤ z0.heap.size := hb.size
      refine hK.out _ _ (HSX.out _ hb4) (fun hHeld => ?_)
      clear hK K
      try simp only [Act.put, List.setIfInBounds_toArray, List.set_cons_zero, List.set_cons_succ]
      generalize hz4 : z0.alloc (.cells #[.int .i64 0, .int .i64 0, .int .i64 0, .int .i64 0, .int .i64 0] 57) = z4 at *
      refine wpAnyH_ready (rs := [10]) (by kernel_rfl) (by simp) ?_
      refine AllReadyH.cons (o := { dst := some 42, op := Op.call { callee := Callee.value (Operand.func 14), args := #[Operand.tmp 32, Operand.tmp 37, Operand.tmp 41], argTypes := #[40, 26, 3] }, type := 57, pos := "gather.go:59", after := #[{ on := 0, ground := Ground.data }, { on := 5, ground := Ground.data }, { on := 9, ground := Ground.data }], guard := none }) rfl (fun K hK => ?_) AllReadyH.nil
      go_simp
      go_at_call 14
      refine (HO2.out _ (F2.out.next hb4)).mono ?_
      rintro e z3 ⟨rfl, hc⟩
      go_wp2_with fail
      have hb3 : Below w2.heap.size w2 z3 := hb4.trans (hc.mono hb4.size)
      refine hK.out _ _ (HSX.out _ hb3) (fun hHeld => ?_)
      clear hK K
      try simp only [Act.put, List.setIfInBounds_toArray, List.set_cons_zero, List.set_cons_succ]
      refine wpAnyH_ready (rs := [12]) (by kernel_rfl) (by simp) ?_
      refine AllReadyH.cons (o := { dst := none, op := Op.store 57 (Operand.tmp 8) (Operand.tmp 42), type := 0, pos := "gather.go:59", after := #[{ on := 11, ground := Ground.data }, { on := 10, ground := Ground.data }, { on := 10, ground := Ground.chain }, { on := 0, ground := Ground.phase }, { on := 1, ground := Ground.phase }, { on := 2, ground := Ground.phase }, { on := 3, ground := Ground.phase }, { on := 4, ground := Ground.phase }, { on := 5, ground := Ground.phase }, { on := 6, ground := Ground.phase }, { on := 7, ground := Ground.phase }, { on := 8, ground := Ground.phase }, { on := 9, ground := Ground.phase }, { on := 10, ground := Ground.phase }, { on := 11, ground := Ground.phase }], guard := none }) rfl (fun K hK => ?_) AllReadyH.nil
      have hG := (hc.block _ (lt_of_heap hG)).trans hG
      obtain ⟨u0, u1, u2, u3, u4⟩ := cells5 hG
      have fz := fun o => froz_of (i := o) hG
      go_simp
      have hbs : Below w2.heap.size w2 (((((z3.setCell ⟨z0.heap.size, 0, none⟩ (.int .i64 pn)).setCell ⟨z0.heap.size, 1, none⟩ (.int .i64 pf)).setCell ⟨z0.heap.size, 2, none⟩ (.int .i64 pt)).setCell ⟨z0.heap.size, 3, none⟩ (.int .i64 pe)).setCell ⟨z0.heap.size, 4, none⟩ (.int .i64 pb)) := ((((hb3.setCell hGle _).setCell hGle _).setCell hGle _).setCell hGle _).setCell hGle _
      have hGs : (((((z3.setCell ⟨z0.heap.size, 0, none⟩ (.int .i64 pn)).setCell ⟨z0.heap.size, 1, none⟩ (.int .i64 pf)).setCell ⟨z0.heap.size, 2, none⟩ (.int .i64 pt)).setCell ⟨z0.heap.size, 3, none⟩ (.int .i64 pe)).setCell ⟨z0.heap.size, 4, none⟩ (.int .i64 pb)).heap[z0.heap.size]? = some (.cells #[.int .i64 pn, .int .i64 pf, .int .i64 pt, .int .i64 pe, .int .i64 pb] 57 (0, 0)) := heap_set (heap_set (heap_set (heap_set (heap_set hG))))
      refine hK.out _ _ (HSX.out _ hbs) (fun hHeld => ?_)
      clear hK K
      try simp only [Act.put, List.setIfInBounds_toArray, List.set_cons_zero, List.set_cons_succ]
      clear u0 u1 u2 u3 u4 fz
      refine wpAnyH_done (by kernel_rfl) ?_ _
      go_wp2_with fail
      go_meet
      case rel => exact ⟨_, rfl, hGle, hbs, hGs⟩
  case rest =>
    obtain ⟨G, rfl, HGL, HB3, HG3⟩ := hcut
    have F3 := hid (F2.out.next HB3.out)
    have B3 := hid (B2.out.trans (HB3.out.mono B2.out.size))
    obtain ⟨u0, u1, u2, u3, u4⟩ := cells5 HG3.out
    have HNE1 : Hid (¬ w1.heap.size = g) := by show ¬ _; have := B1.out.size; omega
    go_wp2_with (first | (go_at_call 15; refine (HT2.out _ F3.out).mono ?_; rintro e w4 ⟨rfl, hb4⟩; have F4 := hid (F3.out.next hb4); have B4 := hid (B3.out.trans (hb4.mono B3.out.size)); have HG4 := hid ((hb4.block G (lt_of_heap HG3.out)).trans HG3.out); obtain ⟨u0, u1, u2, u3, u4⟩ := cells5 HG4.out; obtain ⟨y0, y1, y2, y3, y4, y5⟩ := cells6 F4.out.rr; obtain ⟨g0, g1, g2, g3, g4, g5, g6⟩ := cells7 F4.out.g; have AL4 := hid ((hb4.block w1.heap.size (Nat.lt_of_lt_of_le AL.out HB3.out.size)).trans ((HB3.out.block w1.heap.size AL.out).trans al.out)); clear hb4) | (go_at_call 7; refine (HFl.out _ F4.out).mono ?_; rintro e w5 ⟨rfl, hg5, hc5⟩; have C5 := hid hc5; have G5 := hid hg5; have R5 := hid ((hc5.block _ (lt_of_heap F4.out.rr) HNE0.out).trans F4.out.rr); have A5 := hid ((hc5.block _ (lt_of_heap AL4.out) HNE1.out).trans AL4.out); have Z5 := hid ((hc5.block _ (lt_of_heap F4.out.zb) HNE2.out).trans F4.out.zb); have V5 := hid (HVK.out _ _ F4.out hc5); obtain ⟨y0, y1, y2, y3, y4, y5⟩ := cells6 R5.out; obtain ⟨a0, a1, a2, a3, a4⟩ := cells5 A5.out; have l5 := lt_of_heap R5.out; have l6 := lt_of_heap A5.out; have HWW := hid (HWt.out (w5.alloc (.cells #[.int .i64 0, .bool pk, .int .i64 pr, .int .i32 q, .slice av rs.length cv] 28)) (heap_alloc_at hg5) (V5.out.below (show Below w5.heap.size w5 (w5.alloc (.cells #[.int .i64 0, .bool pk, .int .i64 pr, .int .i32 q, .slice av rs.length cv] 28)) from (Below.refl _ _).alloc (Nat.le_refl _) _))); have HNF : Hid (w5.heap.size ≠ g) := (by have := C5.out.size; have := B4.out.size; show _ ≠ _; omega); clear hc5 hg5) | (go_at_call 17; refine HWW.out.mono ?_; rintro e w6 ⟨rfl, hW⟩; have FB := hid (wait_far hW (heap_new _ _) HNF.out); have Z6 := hid (wait_far hW (heap_alloc_at Z5.out) HNE2.out); have HW := hid hW; obtain ⟨x0, x1, x2, x3, x4⟩ := cells5 Z6.out; have fz := fun o => froz_of (i := o) Z6.out; obtain ⟨f0, f1, f2, f3, f4⟩ := cells5 FB.out; clear hW))
    have CX : Ch (fun i => i = g) w (w5.alloc (.cells #[.int .i64 0, .bool pk, .int .i64 pr, .int .i32 q, .slice av rs.length cv] 28)) := (Ch.then (Ch.of_below B4.out) C5.out (fun _ _ e => e)).alloc _
    exact bodyPost_ret (v := .tuple #[.agg #[.int .i64 0, .bool pk, .int .i64 pr, .int .i32 q, .slice av rs.length cv], .bool true, .int .i64 0]) (by obtain ⟨j0, j1, j2, j3, j4⟩ := (zb_end2 (v0 := .int .i64 0) (v1 := .bool pk) (v2 := .int .i64 pr) (v3 := .int .i32 q) (v4 := .slice av rs.length cv) Z6.out).1; simp [results, Try.results6, go_sem, j0, j1, j2, j3, j4]) rfl (by
      have hx := wait_lift2 HW.out CX hgl (Nat.le_succ _) (lt_of_heap (heap_alloc_at Z5.out)) (zb_end2 (v0 := .int .i64 0) (v1 := .bool pk) (v2 := .int .i64 pr) (v3 := .int .i32 q) (v4 := .slice av rs.length cv) Z6.out).2
      exact ⟨rfl, hx.1, HHH.out.ch hx.2 (fun i hi e => HNG.out i hi e)⟩)
end Go.Proofs.Ytlbkkeoffeohnab
