/- Add. -/
import Derived.Test.YtlbkkeoffeohnaaGa6
namespace Go.Proofs.Ytlbkkeoffeohnaa
open Go.RowKit
/-- Why a record that doesn't even join none is refused. -/
def refE (e : Nat) : Nat := if e = 0 then 66 else e
set_option maxRecDepth 20000 in
theorem refusal_any (o : Ofr) (w : World) : Calls Try.prog 40 #[ofrV o] w fun e w' => e = .returned (.int .i64 (refE o.e)) ∧ Below w.heap.size w w' := by
  obtain ⟨n, first, t, e, body⟩ := o
  have hba : Below w.heap.size w (w.alloc (.cells #[.int .i64 n, .int .i64 first, .int .i64 t, .int .i64 e, .int .i64 body] 85)) := (Below.refl _ w).alloc (Nat.le_refl _) _
  unfold ofrV
  dsimp only at *
  by_cases h : e = 0
  · subst h
    have he : refE 0 = 66 := rfl
    rw [he]
    go_enter Try.func40, Try.ntmps40
    go_wp2_with fail
    go_ret
    exact ⟨rfl, hba⟩
  · have he : refE e = e := if_neg h
    rw [he]
    have h' : ¬ ((e : Int) = 0) := by omega
    go_enter Try.func40, Try.ntmps40
    go_wp2_with fail
    go_ret
    exact ⟨rfl, hba⟩
/-- What stays in every world behind the one in which Add begins its work. -/
structure AddH (g jb bb : Nat) (s : Gs) (r : Rec) (a : Option Addr) (cap : Nat) (v : Value) (rs : List RI) (H : Nat) (x : World) : Prop where
  rr : x.heap[H]? = some (.cells #[.int .i64 r.t, .bool r.kh, .string r.kd, .bool r.vh, .string r.vd, .slice a r.hs.length cap] 39 (0, 0))
  zb : x.heap[H + 1]? = some (.cells #[.int .i64 0, .bool false, .int .i64 0, .int .i32 0, .slice none 0 0] 54 (0, 0))
  g : Gcell x g jb s v
  hds : Hds x a r.hs
  cnd : Cnd x jb bb s.b
  held : Held x 0 v rs
theorem AddH.next {g jb bb : Nat} {s : Gs} {r : Rec} {a : Option Addr} {cap : Nat} {v : Value} {rs : List RI} {H : Nat} {x y : World} (h : AddH g jb bb s r a cap v rs H x) (k : Below x.heap.size x y) : AddH g jb bb s r a cap v rs H y where
  rr := (k.block _ (lt_of_heap h.rr)).trans h.rr
  zb := (k.block _ (lt_of_heap h.zb)).trans h.zb
  g := (k.block _ (lt_of_heap h.g)).trans h.g
  hds := h.hds.below k
  cnd := h.cnd.below k
  held := h.held.kept (fun g hg _ => k.block g hg)
theorem AddH.first {g jb bb : Nat} {s : Gs} {rt : Int} {rkh rvh : Bool} {rkd rvd : ByteArray} {rhs : List Hdr} {a : Option Addr} {cap : Nat} {v : Value} {rs : List RI} {w : World} (h : Gcell w g jb s v) (hH : Held w 0 v rs) (V : Hds w a rhs) (hC : Cnd w jb bb s.b) : AddH g jb bb s ⟨rt, rkh, rkd, rvh, rvd, rhs⟩ a cap v rs w.heap.size ((w.alloc (.cells #[.int .i64 rt, .bool rkh, .string rkd, .bool rvh, .string rvd, .slice a rhs.length cap] 39)).alloc (.cells #[.int .i64 0, .bool false, .int .i64 0, .int .i32 0, .slice none 0 0] 54)) := by
  have k : Below w.heap.size w ((w.alloc (.cells #[.int .i64 rt, .bool rkh, .string rkd, .bool rvh, .string rvd, .slice a rhs.length cap] 39)).alloc (.cells #[.int .i64 0, .bool false, .int .i64 0, .int .i32 0, .slice none 0 0] 54)) := ((Below.refl _ w).alloc (Nat.le_refl _) _).alloc (by simp) _
  exact ⟨heap_alloc_at (heap_new _ _), heap_new' _ _ _ (by simp), (k.block _ (lt_of_heap h)).trans h, V.below k, hC.below k, hH.kept (fun g hg _ => k.block g hg)⟩
theorem zb_end {w x : World} {p : Nat} {z0 z1 z2 z3 z4 v0 v1 v2 v3 v4 : Value} {T : TypeId} (h : x.heap[p]? = some (.cells #[z0, z1, z2, z3, z4] T (0, 0))) (hb : Below w.heap.size w x) (hp : w.heap.size ≤ p) :
    let y := ((((x.setCell ⟨p, 0, none⟩ v0).setCell ⟨p, 1, none⟩ v1).setCell ⟨p, 2, none⟩ v2).setCell ⟨p, 3, none⟩ v3).setCell ⟨p, 4, none⟩ v4
    (y.cell? ⟨p, 0, none⟩ = some v0 ∧ y.cell? ⟨p, 1, none⟩ = some v1 ∧ y.cell? ⟨p, 2, none⟩ = some v2 ∧ y.cell? ⟨p, 3, none⟩ = some v3 ∧ y.cell? ⟨p, 4, none⟩ = some v4) ∧ Below w.heap.size w y := by
  intro y
  have hy : y.heap[p]? = some (.cells #[v0, v1, v2, v3, v4] T (0, 0)) := heap_set (heap_set (heap_set (heap_set (heap_set h))))
  exact ⟨cells5 hy, ((((hb.setCell hp _).setCell hp _).setCell hp _).setCell hp _).setCell hp _⟩
set_option maxRecDepth 20000 in
set_option maxHeartbeats 4000000 in
theorem add_no (g jb bb : Nat) (s : Gs) (r : Rec) (a : Option Addr) (cap : Nat) (v : Value) (rs : List RI) (w : World) (h : Gcell w g jb s v) (hH : Held w 0 v rs) (_hrs : rs.map RI.r = s.l) (ok : GsOk s) (hC : Cnd w jb bb s.b) (V : Hds w a r.hs) (ht : I64 r.t) (hm : Mod r) (hT1 : tkB s.b (ofr [] 0 r) = false) :
    Calls Try.prog 23 #[.pointer (some ⟨g, 0, none⟩), recV r a cap] w fun e w' => e = .returned (.tuple #[zeroB, .bool false, .int .i64 (refE (sze r r.t 0))]) ∧ Below w.heap.size w w' := by
  obtain ⟨rt, rkh, rkd, rvh, rvd, rhs⟩ := r
  have HF : Hid (AddH g jb bb s ⟨rt, rkh, rkd, rvh, rvd, rhs⟩ a cap v rs w.heap.size ((w.alloc (.cells #[.int .i64 rt, .bool rkh, .string rkd, .bool rvh, .string rvd, .slice a rhs.length cap] 39)).alloc (.cells #[.int .i64 0, .bool false, .int .i64 0, .int .i32 0, .slice none 0 0] 54))) := AddH.first h hH V hC
  have HB0 : Hid (Below w.heap.size w ((w.alloc (.cells #[.int .i64 rt, .bool rkh, .string rkd, .bool rvh, .string rvd, .slice a rhs.length cap] 39)).alloc (.cells #[.int .i64 0, .bool false, .int .i64 0, .int .i32 0, .slice none 0 0] 54))) := ((Below.refl _ w).alloc (Nat.le_refl _) _).alloc (by simp) _
  have HO1 : Hid (∀ x, AddH g jb bb s ⟨rt, rkh, rkd, rvh, rvd, rhs⟩ a cap v rs w.heap.size x → Calls Try.prog 38 #[recV ⟨rt, rkh, rkd, rvh, rvd, rhs⟩ a cap, .slice none 0 0, .int .i64 0] x fun e w' => e = .returned (ofrV (ofr [] 0 ⟨rt, rkh, rkd, rvh, rvd, rhs⟩)) ∧ Below x.heap.size x w') := fun x hx => offer_any ⟨rt, rkh, rkd, rvh, rvd, rhs⟩ a cap none 0 [] 0 x hx.hds ht hm ⟨fun y hy => by simp at hy, Or.inl rfl⟩ (fun y hy => by simp at hy) (Nat.zero_le _) (Nat.zero_le _)
  have HT1 : Hid (∀ x, AddH g jb bb s ⟨rt, rkh, rkd, rvh, rvd, rhs⟩ a cap v rs w.heap.size x → Calls Try.prog 39 #[.pointer (some ⟨g, 0, none⟩), ofrV (ofr [] 0 ⟨rt, rkh, rkd, rvh, rvd, rhs⟩)] x fun e w' => e = .returned (.bool false) ∧ Below x.heap.size x w') := fun x hx => (takes_any g jb bb s.b _ x hx.cnd ok.b (ofr_in (Nat.zero_le _) (Nat.zero_le _) ht (fun y hy => by simp at hy)) (cells7 hx.g).1).mono fun e w' hh => ⟨hh.1.trans (by rw [hT1]), hh.2⟩
  have HE : Hid (∀ x, Calls Try.prog 40 #[ofrV (ofr [] 0 ⟨rt, rkh, rkd, rvh, rvd, rhs⟩)] x fun e w' => e = .returned (.int .i64 (refE (sze ⟨rt, rkh, rkd, rvh, rvd, rhs⟩ rt 0))) ∧ Below x.heap.size x w') := fun x => refusal_any _ x
  generalize refE (sze ⟨rt, rkh, rkd, rvh, rvd, rhs⟩ rt 0) = E at *
  have hnil : ∀ w : World, (binOp .eql 70 (.slice (some ⟨jb, 0, none⟩) 5 5) (.slice none 0 0)).run Try.prog w = .ok (.bool false) w := fun _ => rfl
  obtain ⟨c0, c1, c2, c3, c4, c5, c6⟩ := cells7 h
  have hgl := lt_of_heap h
  generalize ofr [] 0 ⟨rt, rkh, rkd, rvh, rvd, rhs⟩ = o1 at *
  obtain ⟨on, of, ot, oe, ob⟩ := o1
  dsimp only [recV, ofrV] at *
  clear h hH _hrs ok hC V ht hm hT1
  unfold zeroB batA
  go_enter Try.func23, Try.ntmps23
  go_wp2_with (first | (go_at_call 38; refine (HO1.out _ HF.out).mono ?_; rintro e w1 ⟨rfl, hb1⟩; have F1 := hid (HF.out.next hb1); have B1 := hid (HB0.out.trans (hb1.mono HB0.out.size)); clear hb1) | (go_at_call 39; have F1a := hid (F1.out.next (show Below w1.heap.size w1 (w1.alloc (.cells #[.int .i64 on, .int .i64 of, .int .i64 ot, .int .i64 oe, .int .i64 ob] 85)) from (Below.refl _ w1).alloc (Nat.le_refl _) _)); refine (HT1.out _ F1a.out).mono ?_; rintro e w2 ⟨rfl, hb2⟩; have F2 := hid (F1a.out.next hb2); have B2 := hid (B1.out.trans ((bel_al hb2).mono B1.out.size)); obtain ⟨a0, a1, a2, a3, a4⟩ := cells5 ((hb2.block w1.heap.size (by simp)).trans (heap_new _ _)); have al := hid ((hb2.block w1.heap.size (by simp)).trans (heap_new w1 (.cells #[.int .i64 on, .int .i64 of, .int .i64 ot, .int .i64 oe, .int .i64 ob] 85))); obtain ⟨x0, x1, x2, x3, x4⟩ := cells5 F2.out.zb; have fz := fun o => froz_of (i := o) F2.out.zb; obtain ⟨y0, y1, y2, y3, y4, y5⟩ := cells6 F2.out.rr; obtain ⟨g0, g1, g2, g3, g4, g5, g6⟩ := cells7 F2.out.g; clear hb2 F1a) | (go_at_call 40; refine (HE.out _).mono ?_; rintro e w3 ⟨rfl, hb3⟩; have Z3 := hid ((hb3.block _ (lt_of_heap F2.out.zb)).trans F2.out.zb); have B3 := hid (B2.out.trans (hb3.mono B2.out.size)); obtain ⟨x0, x1, x2, x3, x4⟩ := cells5 Z3.out; have fz := fun o => froz_of (i := o) Z3.out; clear hb3))
  exact bodyPost_ret (v := .tuple #[.agg #[.int .i64 0, .bool false, .int .i64 0, .int .i32 0, .slice none 0 0], .bool false, .int .i64 E]) (by obtain ⟨j0, j1, j2, j3, j4⟩ := (zb_end (v0 := .int .i64 0) (v1 := .bool false) (v2 := .int .i64 0) (v3 := .int .i32 0) (v4 := .slice none 0 0) Z3.out B3.out (Nat.le_succ _)).1; simp [results, Try.results23, go_sem, j0, j1, j2, j3, j4]) rfl ⟨rfl, (zb_end Z3.out B3.out (Nat.le_succ _)).2⟩
end Go.Proofs.Ytlbkkeoffeohnaa
