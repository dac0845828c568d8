/- Texts of the proof, put together: Gn1, Gn2, Gn3. -/
import Derived.Test.YtlbkkeoffeohnabGB1
import Derived.Test.YtlbkkeoffeohnabGF
import Derived.Deep.LoopGhost
namespace Go.Proofs.Ytlbkkeoffeohnab
open Go.RowKit
set_option maxRecDepth 20000 in
theorem nil_add (r : Rec) (a : Option Addr) (cap : Nat) (w : World) : Calls Try.prog 6 #[.pointer none, recV r a cap] w fun e w' => e = .returned (.tuple #[zeroB, .bool false, .int .i64 4]) ∧ Below w.heap.size w w' := by
  obtain ⟨t, kh, kd, vh, vd, hs⟩ := r
  unfold recV zeroB batA
  go_enter Try.func6, Try.ntmps6
  go_wp2_with fail
  exact bodyPost_ret (v := .tuple #[.agg #[.int .i64 0, .bool false, .int .i64 0, .int .i32 0, .slice none 0 0], .bool false, .int .i64 4]) (by simp [results, Try.results6, go_sem]) rfl ⟨rfl, ((Below.refl _ w).alloc (Nat.le_refl _) _).alloc (by simp) _⟩
set_option maxRecDepth 20000 in
theorem nil_flush (w : World) : Calls Try.prog 7 #[.pointer none] w fun e w' => e = .returned (.tuple #[zeroB, .bool false]) ∧ Below w.heap.size w w' := by
  unfold zeroB batA
  go_enter Try.func7, Try.ntmps7
  go_wp2_with fail
  exact bodyPost_ret (v := .tuple #[.agg #[.int .i64 0, .bool false, .int .i64 0, .int .i32 0, .slice none 0 0], .bool false]) (by simp [results, Try.results7, go_sem]) rfl ⟨rfl, (Below.refl _ w).alloc (Nat.le_refl _) _⟩
theorem nil_waiting (w : World) : Calls Try.prog 8 #[.pointer none] w fun e w' => e = .returned (.tuple #[.int .i64 0, .int .i64 0]) ∧ w' = w := by
  go_enter Try.func8, Try.ntmps8
  go_wp2_with fail
  go_ret2
  exact ⟨rfl, rfl⟩
theorem nil_seq (w : World) : Calls Try.prog 9 #[.pointer none] w fun e w' => e = .returned (.int .i32 0) ∧ w' = w := by
  go_enter Try.func9, Try.ntmps9
  go_wp2_with fail
  go_ret
  exact ⟨rfl, rfl⟩
theorem nil_clone (w : World) : Calls Try.prog 11 #[.pointer none] w fun e w' => e = .returned (.pointer none) ∧ w' = w := by
  go_enter Try.func11, Try.ntmps11
  go_wp2_with fail
  go_ret
  exact ⟨rfl, rfl⟩
/-- The zero gatherer. -/
def Zcell (y : World) (g : Nat) : Prop := y.heap[g]? = some (.cells #[.slice none 0 0, .int .i64 0, .bool false, .int .i64 0, .int .i32 0, .slice none 0 0, .int .i64 0] 30 (0, 0))
set_option maxRecDepth 20000 in
theorem zero_flush (g : Nat) (w : World) (h : Zcell w g) : Calls Try.prog 7 #[.pointer (some ⟨g, 0, none⟩)] w fun e w' => e = .returned (.tuple #[zeroB, .bool false]) ∧ Below w.heap.size w w' := by
  obtain ⟨c0, c1, c2, c3, c4, c5, c6⟩ := cells7 h
  have hlt := lt_of_heap h
  clear h
  unfold zeroB batA
  go_enter Try.func7, Try.ntmps7
  go_wp2_with fail
  exact bodyPost_ret (v := .tuple #[.agg #[.int .i64 0, .bool false, .int .i64 0, .int .i32 0, .slice none 0 0], .bool false]) (by simp [results, Try.results7, go_sem]) rfl ⟨rfl, (Below.refl _ w).alloc (Nat.le_refl _) _⟩
set_option maxRecDepth 20000 in
theorem zero_seq (g : Nat) (w : World) (h : Zcell w g) : Calls Try.prog 9 #[.pointer (some ⟨g, 0, none⟩)] w fun e w' => e = .returned (.int .i32 (-1)) ∧ w' = w := by
  have hnil : ∀ w : World, (binOp .eql 25 (.slice none 0 0) (.slice none 0 0)).run Try.prog w = .ok (.bool true) w := fun _ => rfl
  obtain ⟨c0, c1, c2, c3, c4, c5, c6⟩ := cells7 h
  have hlt := lt_of_heap h
  clear h
  go_enter Try.func9, Try.ntmps9
  go_wp2_with fail
  go_ret
  exact ⟨rfl, rfl⟩
end Go.Proofs.Ytlbkkeoffeohnab
namespace Go.Proofs.Ytlbkkeoffeohnab
open Go.RowKit
/-- The least bounds. -/
def bL : Bnd := ⟨0, 0, 0, 0, false, -1, -1⟩
theorem bL_in : BndIn bL := ⟨by unfold I64; decide, by unfold I64; decide, by decide⟩
theorem sL_ok : GsO (Gs0 bL) := gs0_ok bL_in (by decide)
theorem sL_at (g jb : Nat) (y : World) : Gcell y g jb (Gs0 bL) (.slice none 0 0) ↔ y.heap[g]? = some (.cells #[.slice (some ⟨jb, 0, none⟩) 5 5, .int .i64 0, .bool false, .int .i64 (-1), .int .i32 (-1), .slice none 0 0, .int .i64 0] 30 (0, 0)) := Iff.rfl
theorem hds_nz {x y : World} {g : Nat} {a : Option Addr} {hs : List Hdr} (V : Hds x a hs) (h : Zcell x g) (k : Ch (fun i => i = g) x y) : Hds y a hs := by
  rcases V with V | ⟨b, off, rfl, hb, hc⟩
  · exact Or.inl V
  · by_cases h0 : hs = []
    · exact Or.inl h0
    · have hl : 0 < hs.length := List.length_pos_iff.2 h0
      have hne : b ≠ g := by
        rintro rfl
        have q := (hc 0 hl).1
        obtain ⟨c0, c1, c2, c3, c4, c5, c6⟩ := cells7 h
        rw [Nat.zero_mul, Nat.add_zero] at q
        match off, q with
        | 0, q => rw [c0] at q; cases q
        | 1, q => rw [c1] at q; cases q
        | 2, q => rw [c2] at q; cases q
        | 3, q => rw [c3] at q; cases q
        | 4, q => rw [c4] at q; cases q
        | 5, q => rw [c5] at q; cases q
        | 6, q => rw [c6] at q; cases q
        | o + 7, q =>
          have : x.cell? ⟨b, o + 7, none⟩ = none := (cell_of h).trans (by simp)
          rw [this] at q; cases q
      have hk := k.block b hb hne
      exact Or.inr ⟨b, off, rfl, Nat.lt_of_lt_of_le hb k.size, fun j hj => by
        obtain ⟨h0, h1, h2⟩ := hc j hj
        exact ⟨(World.cell?_of_block hk).trans h0, (World.cell?_of_block hk).trans h1, (World.cell?_of_block hk).trans h2⟩⟩
theorem Cnd.ng {x y : World} {jb bb p : Nat} {b : Bnd} {c : Array Value} {T : TypeId} (h : Cnd x jb bb b) (hp : x.heap[p]? = some (.cells c T (0, 0))) (h1 : T ≠ 35) (h2 : T ≠ 69) (k : Ch (fun i => i = p) x y) : Cnd y jb bb b := by
  refine h.ch k (fun e => ?_) (fun e => ?_)
  · subst e
    have := h.box
    rw [hp] at this
    injection this with e
    injection e with _ e _
    exact h1 e
  · subst e
    have := h.row
    rw [hp] at this
    injection this with e
    injection e with _ e _
    exact h2 e
theorem made_at {x : World} {p : Nat} {T : TypeId} {z0 z1 z2 z3 z4 z5 z6 v0 v1 v2 v3 v4 v5 v6 : Value} (h : x.heap[p]? = some (.cells #[z0, z1, z2, z3, z4, z5, z6] T (0, 0))) : (((((((x.setCell ⟨p, 0, none⟩ v0).setCell ⟨p, 1, none⟩ v1).setCell ⟨p, 2, none⟩ v2).setCell ⟨p, 3, none⟩ v3).setCell ⟨p, 4, none⟩ v4).setCell ⟨p, 5, none⟩ v5).setCell ⟨p, 6, none⟩ v6).heap[p]? = some (.cells #[v0, v1, v2, v3, v4, v5, v6] T (0, 0)) := by
  have h1 : (x.setCell ⟨p, 0, none⟩ v0).heap[p]? = some (.cells #[v0, z1, z2, z3, z4, z5, z6] T (0, 0)) := heap_set h
  have h2 : ((x.setCell ⟨p, 0, none⟩ v0).setCell ⟨p, 1, none⟩ v1).heap[p]? = some (.cells #[v0, v1, z2, z3, z4, z5, z6] T (0, 0)) := heap_set h1
  have h3 : (((x.setCell ⟨p, 0, none⟩ v0).setCell ⟨p, 1, none⟩ v1).setCell ⟨p, 2, none⟩ v2).heap[p]? = some (.cells #[v0, v1, v2, z3, z4, z5, z6] T (0, 0)) := heap_set h2
  have h4 : ((((x.setCell ⟨p, 0, none⟩ v0).setCell ⟨p, 1, none⟩ v1).setCell ⟨p, 2, none⟩ v2).setCell ⟨p, 3, none⟩ v3).heap[p]? = some (.cells #[v0, v1, v2, v3, z4, z5, z6] T (0, 0)) := heap_set h3
  have h5 : (((((x.setCell ⟨p, 0, none⟩ v0).setCell ⟨p, 1, none⟩ v1).setCell ⟨p, 2, none⟩ v2).setCell ⟨p, 3, none⟩ v3).setCell ⟨p, 4, none⟩ v4).heap[p]? = some (.cells #[v0, v1, v2, v3, v4, z5, z6] T (0, 0)) := heap_set h4
  have h6 : ((((((x.setCell ⟨p, 0, none⟩ v0).setCell ⟨p, 1, none⟩ v1).setCell ⟨p, 2, none⟩ v2).setCell ⟨p, 3, none⟩ v3).setCell ⟨p, 4, none⟩ v4).setCell ⟨p, 5, none⟩ v5).heap[p]? = some (.cells #[v0, v1, v2, v3, v4, v5, z6] T (0, 0)) := heap_set h5
  have h7 : (((((((x.setCell ⟨p, 0, none⟩ v0).setCell ⟨p, 1, none⟩ v1).setCell ⟨p, 2, none⟩ v2).setCell ⟨p, 3, none⟩ v3).setCell ⟨p, 4, none⟩ v4).setCell ⟨p, 5, none⟩ v5).setCell ⟨p, 6, none⟩ v6).heap[p]? = some (.cells #[v0, v1, v2, v3, v4, v5, v6] T (0, 0)) := heap_set h6
  exact h7
theorem wait_cnd {w5 w6 : World} {g jb bb : Nat} {s s0 : Gs} {r : Rec} {b : Bnd} (hW : WaitP g jb s r w5 (.slice none 0 0) [] w6) (hc : Cnd w5 jb bb b) (hg : Gcell w5 g jb s0 (.slice none 0 0)) : Cnd w6 jb bb b := by
  obtain ⟨v', x, _, _, _, h4, _⟩ := hW
  exact hc.ng hg (by decide) (by decide) (h4.mono (fun i _ e => e.elim id (fun e => by cases e)))
/-- What the zero gatherer is made into. -/
theorem made_up {w wm : World} {g jb bb : Nat} {rt : Int} {rkh rvh : Bool} {rkd rvd : ByteArray} {rhs : List Hdr} {a : Option Addr} {cap : Nat} (h : Zcell w g) (V : Hds w a rhs) (hb : Below ((w.alloc (.cells #[.int .i64 rt, .bool rkh, .string rkd, .bool rvh, .string rvd, .slice a rhs.length cap] 40)).alloc (.cells #[.int .i64 0, .bool false, .int .i64 0, .int .i32 0, .slice none 0 0] 28)).heap.size ((w.alloc (.cells #[.int .i64 rt, .bool rkh, .string rkd, .bool rvh, .string rvd, .slice a rhs.length cap] 40)).alloc (.cells #[.int .i64 0, .bool false, .int .i64 0, .int .i32 0, .slice none 0 0] 28)) wm) (hc : Cnd wm jb bb (cnt bL)) :
    AddH g jb bb (Gs0 bL) ⟨rt, rkh, rkd, rvh, rvd, rhs⟩ a cap (.slice none 0 0) [] w.heap.size (((((((wm.setCell ⟨g, 0, none⟩ (.slice (some ⟨jb, 0, none⟩) 5 5)).setCell ⟨g, 1, none⟩ (.int .i64 0)).setCell ⟨g, 2, none⟩ (.bool false)).setCell ⟨g, 3, none⟩ (.int .i64 (-1))).setCell ⟨g, 4, none⟩ (.int .i32 (-1))).setCell ⟨g, 5, none⟩ (.slice none 0 0)).setCell ⟨g, 6, none⟩ (.int .i64 0)) ∧ Ch (fun i => i = g) w (((((((wm.setCell ⟨g, 0, none⟩ (.slice (some ⟨jb, 0, none⟩) 5 5)).setCell ⟨g, 1, none⟩ (.int .i64 0)).setCell ⟨g, 2, none⟩ (.bool false)).setCell ⟨g, 3, none⟩ (.int .i64 (-1))).setCell ⟨g, 4, none⟩ (.int .i32 (-1))).setCell ⟨g, 5, none⟩ (.slice none 0 0)).setCell ⟨g, 6, none⟩ (.int .i64 0)) ∧ Zcell wm g := by
  have k0 : Below w.heap.size w ((w.alloc (.cells #[.int .i64 rt, .bool rkh, .string rkd, .bool rvh, .string rvd, .slice a rhs.length cap] 40)).alloc (.cells #[.int .i64 0, .bool false, .int .i64 0, .int .i32 0, .slice none 0 0] 28)) := ((Below.refl _ w).alloc (Nat.le_refl _) _).alloc (by simp) _
  have kb : Below w.heap.size w wm := k0.trans (hb.mono k0.size)
  have z : Zcell wm g := (kb.block g (lt_of_heap h)).trans h
  have hY := (made_end (v0 := .slice (some ⟨jb, 0, none⟩) 5 5) (v1 := .int .i64 0) (v2 := .bool false) (v3 := .int .i64 (-1)) (v4 := .int .i32 (-1)) (v5 := .slice none 0 0) (v6 := .int .i64 0) z).2
  have hgY := made_at (v0 := .slice (some ⟨jb, 0, none⟩) 5 5) (v1 := .int .i64 0) (v2 := .bool false) (v3 := .int .i64 (-1)) (v4 := .int .i32 (-1)) (v5 := .slice none 0 0) (v6 := .int .i64 0) z
  have hg := lt_of_heap h
  have r0 : wm.heap[w.heap.size]? = some (.cells #[.int .i64 rt, .bool rkh, .string rkd, .bool rvh, .string rvd, .slice a rhs.length cap] 40 (0, 0)) := (hb.block _ (by simp; omega)).trans (heap_alloc_at (heap_new _ _))
  have z0 : wm.heap[w.heap.size + 1]? = some (.cells #[.int .i64 0, .bool false, .int .i64 0, .int .i32 0, .slice none 0 0] 28 (0, 0)) := (hb.block _ (by simp)).trans (heap_new' _ _ _ (by simp))
  refine ⟨⟨(hY.block _ (lt_of_heap r0) (by show ¬ _ = g; omega)).trans r0, (hY.block _ (lt_of_heap z0) (by show ¬ _ = g; omega)).trans z0, hgY, hds_nz (V.below kb) z hY, hc.ng z (by decide) (by decide) hY, held_nil _⟩, Ch.then (Ch.of_below kb) hY (fun _ _ e => e), z⟩
set_option maxRecDepth 20000 in
set_option maxHeartbeats 8000000 in
theorem zero_no (g : Nat) (r : Rec) (a : Option Addr) (cap : Nat) (w : World) (h : Zcell w g) (V : Hds w a r.hs) (ht : I64 r.t) (hm : Mod r) (hT1 : tkB (Gs0 bL).b (ofr [] 0 r) = false) :
    Calls Try.prog 6 #[.pointer (some ⟨g, 0, none⟩), recV r a cap] w fun e w' => e = .returned (.tuple #[zeroB, .bool false, .int .i64 (refE (sze r r.t 0))]) ∧ ∃ jb bb, Gcell w' g jb (Gs0 bL) (.slice none 0 0) ∧ Cnd w' jb bb (cnt bL) ∧ Ch (fun i => i = g) w w' ∧ w.heap.size ≤ jb ∧ w.heap.size ≤ bb := by
  obtain ⟨rt, rkh, rkd, rvh, rvd, rhs⟩ := r
  have HM : Hid (∀ x, Calls Try.prog 13 #[.agg #[.int .i64 0, .int .i64 0, .int .i64 0, .int .i64 0, .bool false, .int .i64 (-1), .int .i32 (-1)]] x fun e w' => (∃ jb bb, e = .returned (.agg #[.slice (some ⟨jb, 0, none⟩) 5 5, .int .i64 0, .bool false, .int .i64 (-1), .int .i32 (-1), .slice none 0 0, .int .i64 0]) ∧ Cnd w' jb bb (cnt bL) ∧ x.heap.size ≤ jb ∧ x.heap.size ≤ bb) ∧ Below x.heap.size x w') := fun x => made_any bL x
  have HUP : Hid (∀ wm jb bb, Below ((w.alloc (.cells #[.int .i64 rt, .bool rkh, .string rkd, .bool rvh, .string rvd, .slice a rhs.length cap] 40)).alloc (.cells #[.int .i64 0, .bool false, .int .i64 0, .int .i32 0, .slice none 0 0] 28)).heap.size ((w.alloc (.cells #[.int .i64 rt, .bool rkh, .string rkd, .bool rvh, .string rvd, .slice a rhs.length cap] 40)).alloc (.cells #[.int .i64 0, .bool false, .int .i64 0, .int .i32 0, .slice none 0 0] 28)) wm → Cnd wm jb bb (cnt bL) → AddH g jb bb (Gs0 bL) ⟨rt, rkh, rkd, rvh, rvd, rhs⟩ a cap (.slice none 0 0) [] w.heap.size (((((((wm.setCell ⟨g, 0, none⟩ (.slice (some ⟨jb, 0, none⟩) 5 5)).setCell ⟨g, 1, none⟩ (.int .i64 0)).setCell ⟨g, 2, none⟩ (.bool false)).setCell ⟨g, 3, none⟩ (.int .i64 (-1))).setCell ⟨g, 4, none⟩ (.int .i32 (-1))).setCell ⟨g, 5, none⟩ (.slice none 0 0)).setCell ⟨g, 6, none⟩ (.int .i64 0)) ∧ Ch (fun i => i = g) w (((((((wm.setCell ⟨g, 0, none⟩ (.slice (some ⟨jb, 0, none⟩) 5 5)).setCell ⟨g, 1, none⟩ (.int .i64 0)).setCell ⟨g, 2, none⟩ (.bool false)).setCell ⟨g, 3, none⟩ (.int .i64 (-1))).setCell ⟨g, 4, none⟩ (.int .i32 (-1))).setCell ⟨g, 5, none⟩ (.slice none 0 0)).setCell ⟨g, 6, none⟩ (.int .i64 0)) ∧ Zcell wm g) := fun wm jb bb hb hc => made_up h V hb hc
  have hnil : ∀ w : World, (binOp .eql 25 (.slice none 0 0) (.slice none 0 0)).run Try.prog w = .ok (.bool true) w := fun _ => rfl
  have ok := sL_ok.ok
  have hrs : ([] : List RI).map RI.r = (Gs0 bL).l := rfl
  have HSZ : Hid (w.heap.size ≤ ((w.alloc (.cells #[.int .i64 rt, .bool rkh, .string rkd, .bool rvh, .string rvd, .slice a rhs.length cap] 40)).alloc (.cells #[.int .i64 0, .bool false, .int .i64 0, .int .i32 0, .slice none 0 0] 28)).heap.size) := by show _ ≤ _; simp; omega
  have HO1 : Hid (∀ jb bb x, AddH g jb bb (Gs0 bL) ⟨rt, rkh, rkd, rvh, rvd, rhs⟩ a cap (.slice none 0 0) [] w.heap.size x → Calls Try.prog 14 #[recV ⟨rt, rkh, rkd, rvh, rvd, rhs⟩ a cap, .slice none 0 0, .int .i64 0] x fun e w' => e = .returned (ofrV (ofr [] 0 ⟨rt, rkh, rkd, rvh, rvd, rhs⟩)) ∧ Below x.heap.size x w') := fun jb bb x hx => offer_any ⟨rt, rkh, rkd, rvh, rvd, rhs⟩ a cap none 0 [] 0 x hx.hds ht hm ⟨fun y hy => by simp at hy, Or.inl rfl⟩ (fun y hy => by simp at hy) (Nat.zero_le _) (Nat.zero_le _)
  have HT1 : Hid (∀ jb bb x, AddH g jb bb (Gs0 bL) ⟨rt, rkh, rkd, rvh, rvd, rhs⟩ a cap (.slice none 0 0) [] w.heap.size x → Calls Try.prog 15 #[.pointer (some ⟨g, 0, none⟩), ofrV (ofr [] 0 ⟨rt, rkh, rkd, rvh, rvd, rhs⟩)] x fun e w' => e = .returned (.bool false) ∧ Below x.heap.size x w') := fun jb bb x hx => (takes_any g jb bb (Gs0 bL).b _ x hx.cnd ok.b (ofr_in (Nat.zero_le _) (Nat.zero_le _) ht (fun y hy => by simp at hy)) (cells7 hx.g).1).mono fun e w' hh => ⟨hh.1.trans (by rw [hT1]), hh.2⟩
  have HE : Hid (∀ x, Calls Try.prog 16 #[ofrV (ofr [] 0 ⟨rt, rkh, rkd, rvh, rvd, rhs⟩)] x fun e w' => e = .returned (.int .i64 (refE (sze ⟨rt, rkh, rkd, rvh, rvd, rhs⟩ rt 0))) ∧ Below x.heap.size x w') := fun x => refusal_any _ x
  generalize refE (sze ⟨rt, rkh, rkd, rvh, rvd, rhs⟩ rt 0) = E at *
  obtain ⟨c0, c1, c2, c3, c4, c5, c6⟩ := cells7 h
  have hgl := lt_of_heap h
  generalize ofr [] 0 ⟨rt, rkh, rkd, rvh, rvd, rhs⟩ = o1 at *
  obtain ⟨on, of, ot, oe, ob⟩ := o1
  dsimp only [recV, ofrV] at *
  clear h V ht hm hT1 ok hrs
  unfold zeroB batA
  go_enter Try.func6, Try.ntmps6
  go_wp2_with (first | (go_at_call 13; refine (HM.out _).mono ?_; rintro e wm ⟨⟨jb, bb, rfl, hc, hj1, hj2⟩, hb⟩; have HJ : Hid (w.heap.size ≤ jb ∧ w.heap.size ≤ bb) := ⟨Nat.le_trans HSZ.out hj1, Nat.le_trans HSZ.out hj2⟩; have HU := hid (HUP.out wm jb bb hb hc); have HF := hid HU.out.1; have HB0 := hid HU.out.2.1; obtain ⟨n0, n1, n2, n3, n4, n5, n6⟩ := cells7 HU.out.2.2; have fzm := fun o => froz_of (i := o) HU.out.2.2; obtain ⟨y0, y1, y2, y3, y4, y5⟩ := cells6 HF.out.rr; have hgm := lt_of_heap HU.out.2.2; clear hb hc hj1 hj2) | (go_at_call 14; refine (HO1.out jb bb _ HF.out).mono ?_; rintro e w1 ⟨rfl, hb1⟩; have F1 := hid (HF.out.next hb1); have B1 := hid (HB0.out.trans (Ch.of_below hb1)); clear hb1) | (go_at_call 15; have F1a := hid (F1.out.next (show Below w1.heap.size w1 (w1.alloc (.cells #[.int .i64 on, .int .i64 of, .int .i64 ot, .int .i64 oe, .int .i64 ob] 57)) from (Below.refl _ w1).alloc (Nat.le_refl _) _)); refine (HT1.out jb bb _ F1a.out).mono ?_; rintro e w2 ⟨rfl, hb2⟩; have F2 := hid (F1a.out.next hb2); have B2 := hid ((B1.out.alloc _).trans (Ch.of_below hb2)); obtain ⟨a0, a1, a2, a3, a4⟩ := cells5 ((hb2.block w1.heap.size (by simp)).trans (heap_new _ _)); have al := hid ((hb2.block w1.heap.size (by simp)).trans (heap_new w1 (.cells #[.int .i64 on, .int .i64 of, .int .i64 ot, .int .i64 oe, .int .i64 ob] 57))); obtain ⟨x0, x1, x2, x3, x4⟩ := cells5 F2.out.zb; have fz := fun o => froz_of (i := o) F2.out.zb; obtain ⟨y0, y1, y2, y3, y4, y5⟩ := cells6 F2.out.rr; obtain ⟨g0, g1, g2, g3, g4, g5, g6⟩ := cells7 F2.out.g; clear hb2 F1a) | (go_at_call 16; refine (HE.out _).mono ?_; rintro e w3 ⟨rfl, hb3⟩; have F3 := hid (F2.out.next hb3); have B3 := hid (B2.out.trans (Ch.of_below hb3)); obtain ⟨x0, x1, x2, x3, x4⟩ := cells5 F3.out.zb; have fz := fun o => froz_of (i := o) F3.out.zb; clear hb3))
  exact bodyPost_ret (v := .tuple #[.agg #[.int .i64 0, .bool false, .int .i64 0, .int .i32 0, .slice none 0 0], .bool false, .int .i64 E]) (by obtain ⟨j0, j1, j2, j3, j4⟩ := (zb_end2 (v0 := .int .i64 0) (v1 := .bool false) (v2 := .int .i64 0) (v3 := .int .i32 0) (v4 := .slice none 0 0) F3.out.zb).1; simp [results, Try.results6, go_sem, j0, j1, j2, j3, j4]) rfl (by
    have hk := (zb_end2 (v0 := .int .i64 0) (v1 := .bool false) (v2 := .int .i64 0) (v3 := .int .i32 0) (v4 := .slice none 0 0) F3.out.zb).2
    exact ⟨rfl, jb, bb, (hk.block g (lt_of_heap F3.out.g) (by show ¬ g = _; omega)).trans F3.out.g, F3.out.cnd.ng F3.out.zb (by decide) (by decide) hk, Ch.then B3.out hk (fun i hi e => absurd hi (by omega)), HJ.out.1, HJ.out.2⟩)
set_option maxRecDepth 20000 in
set_option maxHeartbeats 8000000 in
theorem zero_join (g : Nat) (r : Rec) (a : Option Addr) (cap : Nat) (w : World) (h : Zcell w g) (V : Hds w a r.hs) (ht : I64 r.t) (hm : Mod r) (hT1 : tkB (Gs0 bL).b (ofr [] 0 r) = true) :
    Calls Try.prog 6 #[.pointer (some ⟨g, 0, none⟩), recV r a cap] w fun e w' => e = .returned (.tuple #[zeroB, .bool false, .int .i64 0]) ∧ ∃ jb bb, WaitP g jb ⟨(Gs0 bL).b, (Gs0 bL).l ++ [cln r], (Gs0 bL).k + szn r (fst (Gs0 bL).l r) (Gs0 bL).l.length, (Gs0 bL).q⟩ r w (.slice none 0 0) [] w' ∧ Cnd w' jb bb (cnt bL) ∧ Ch (fun i => i = g) w w' ∧ w.heap.size ≤ jb ∧ w.heap.size ≤ bb := by
  obtain ⟨rt, rkh, rkd, rvh, rvd, rhs⟩ := r
  have HM : Hid (∀ x, Calls Try.prog 13 #[.agg #[.int .i64 0, .int .i64 0, .int .i64 0, .int .i64 0, .bool false, .int .i64 (-1), .int .i32 (-1)]] x fun e w' => (∃ jb bb, e = .returned (.agg #[.slice (some ⟨jb, 0, none⟩) 5 5, .int .i64 0, .bool false, .int .i64 (-1), .int .i32 (-1), .slice none 0 0, .int .i64 0]) ∧ Cnd w' jb bb (cnt bL) ∧ x.heap.size ≤ jb ∧ x.heap.size ≤ bb) ∧ Below x.heap.size x w') := fun x => made_any bL x
  have HUP : Hid (∀ wm jb bb, Below ((w.alloc (.cells #[.int .i64 rt, .bool rkh, .string rkd, .bool rvh, .string rvd, .slice a rhs.length cap] 40)).alloc (.cells #[.int .i64 0, .bool false, .int .i64 0, .int .i32 0, .slice none 0 0] 28)).heap.size ((w.alloc (.cells #[.int .i64 rt, .bool rkh, .string rkd, .bool rvh, .string rvd, .slice a rhs.length cap] 40)).alloc (.cells #[.int .i64 0, .bool false, .int .i64 0, .int .i32 0, .slice none 0 0] 28)) wm → Cnd wm jb bb (cnt bL) → AddH g jb bb (Gs0 bL) ⟨rt, rkh, rkd, rvh, rvd, rhs⟩ a cap (.slice none 0 0) [] w.heap.size (((((((wm.setCell ⟨g, 0, none⟩ (.slice (some ⟨jb, 0, none⟩) 5 5)).setCell ⟨g, 1, none⟩ (.int .i64 0)).setCell ⟨g, 2, none⟩ (.bool false)).setCell ⟨g, 3, none⟩ (.int .i64 (-1))).setCell ⟨g, 4, none⟩ (.int .i32 (-1))).setCell ⟨g, 5, none⟩ (.slice none 0 0)).setCell ⟨g, 6, none⟩ (.int .i64 0)) ∧ Ch (fun i => i = g) w (((((((wm.setCell ⟨g, 0, none⟩ (.slice (some ⟨jb, 0, none⟩) 5 5)).setCell ⟨g, 1, none⟩ (.int .i64 0)).setCell ⟨g, 2, none⟩ (.bool false)).setCell ⟨g, 3, none⟩ (.int .i64 (-1))).setCell ⟨g, 4, none⟩ (.int .i32 (-1))).setCell ⟨g, 5, none⟩ (.slice none 0 0)).setCell ⟨g, 6, none⟩ (.int .i64 0)) ∧ Zcell wm g) := fun wm jb bb hb hc => made_up h V hb hc
  have hnil : ∀ w : World, (binOp .eql 25 (.slice none 0 0) (.slice none 0 0)).run Try.prog w = .ok (.bool true) w := fun _ => rfl
  have ok := sL_ok.ok
  have hrs : ([] : List RI).map RI.r = (Gs0 bL).l := rfl
  have HSZ : Hid (w.heap.size ≤ ((w.alloc (.cells #[.int .i64 rt, .bool rkh, .string rkd, .bool rvh, .string rvd, .slice a rhs.length cap] 40)).alloc (.cells #[.int .i64 0, .bool false, .int .i64 0, .int .i32 0, .slice none 0 0] 28)).heap.size) := by show _ ≤ _; simp; omega
  have HO1 : Hid (∀ jb bb x, AddH g jb bb (Gs0 bL) ⟨rt, rkh, rkd, rvh, rvd, rhs⟩ a cap (.slice none 0 0) [] w.heap.size x → Calls Try.prog 14 #[recV ⟨rt, rkh, rkd, rvh, rvd, rhs⟩ a cap, .slice none 0 0, .int .i64 0] x fun e w' => e = .returned (ofrV (ofr [] 0 ⟨rt, rkh, rkd, rvh, rvd, rhs⟩)) ∧ Below x.heap.size x w') := fun jb bb x hx => offer_any ⟨rt, rkh, rkd, rvh, rvd, rhs⟩ a cap none 0 [] 0 x hx.hds ht hm ⟨fun y hy => by simp at hy, Or.inl rfl⟩ (fun y hy => by simp at hy) (Nat.zero_le _) (Nat.zero_le _)
  have HT1 : Hid (∀ jb bb x, AddH g jb bb (Gs0 bL) ⟨rt, rkh, rkd, rvh, rvd, rhs⟩ a cap (.slice none 0 0) [] w.heap.size x → Calls Try.prog 15 #[.pointer (some ⟨g, 0, none⟩), ofrV (ofr [] 0 ⟨rt, rkh, rkd, rvh, rvd, rhs⟩)] x fun e w' => e = .returned (.bool true) ∧ Below x.heap.size x w') := fun jb bb x hx => (takes_any g jb bb (Gs0 bL).b _ x hx.cnd ok.b (ofr_in (Nat.zero_le _) (Nat.zero_le _) ht (fun y hy => by simp at hy)) (cells7 hx.g).1).mono fun e w' hh => ⟨hh.1.trans (by rw [hT1]), hh.2⟩
  have hT2 : tkB (Gs0 bL).b (ofr (Gs0 bL).l (Gs0 bL).k ⟨rt, rkh, rkd, rvh, rvd, rhs⟩) = true := hT1
  have HO2 : Hid (∀ jb bb x, AddH g jb bb (Gs0 bL) ⟨rt, rkh, rkd, rvh, rvd, rhs⟩ a cap (.slice none 0 0) [] w.heap.size x → Calls Try.prog 14 #[recV ⟨rt, rkh, rkd, rvh, rvd, rhs⟩ a cap, .slice none 0 0, .int .i64 (Gs0 bL).k] x fun e w' => e = .returned (ofrV (ofr (Gs0 bL).l (Gs0 bL).k ⟨rt, rkh, rkd, rvh, rvd, rhs⟩)) ∧ Below x.heap.size x w') := fun jb bb x hx => by
    obtain ⟨aw, cw, e, W⟩ := hx.held.slice
    rw [e, ← hrs]
    exact offer_any ⟨rt, rkh, rkd, rvh, rvd, rhs⟩ a cap aw cw [] (Gs0 bL).k x hx.hds ht hm W (fun y hy => ok.t _ (by rw [← hrs]; exact List.mem_map_of_mem hy)) (by have := ok.n; rw [← hrs, List.length_map] at this; exact this) ok.k
  have HT2 : Hid (∀ jb bb x, AddH g jb bb (Gs0 bL) ⟨rt, rkh, rkd, rvh, rvd, rhs⟩ a cap (.slice none 0 0) [] w.heap.size x → Calls Try.prog 15 #[.pointer (some ⟨g, 0, none⟩), ofrV (ofr (Gs0 bL).l (Gs0 bL).k ⟨rt, rkh, rkd, rvh, rvd, rhs⟩)] x fun e w' => e = .returned (.bool true) ∧ Below x.heap.size x w') := fun jb bb x hx => (takes_any g jb bb (Gs0 bL).b _ x hx.cnd ok.b (ofr_in ok.n ok.k ht ok.t) (cells7 hx.g).1).mono fun e w' hh => ⟨hh.1.trans (by rw [hT2]), hh.2⟩
  have HWt : Hid (∀ jb bb x, AddH g jb bb (Gs0 bL) ⟨rt, rkh, rkd, rvh, rvd, rhs⟩ a cap (.slice none 0 0) [] w.heap.size x → Calls Try.prog 17 #[.pointer (some ⟨g, 0, none⟩), recV ⟨rt, rkh, rkd, rvh, rvd, rhs⟩ a cap, .int .i64 (((Gs0 bL).k : Int) + (szn ⟨rt, rkh, rkd, rvh, rvd, rhs⟩ (fst (Gs0 bL).l ⟨rt, rkh, rkd, rvh, rvd, rhs⟩) (Gs0 bL).l.length : Nat))] x fun e w' => e = .returned (.tuple #[]) ∧ WaitP g jb ⟨(Gs0 bL).b, (Gs0 bL).l ++ [cln ⟨rt, rkh, rkd, rvh, rvd, rhs⟩], (Gs0 bL).k + szn ⟨rt, rkh, rkd, rvh, rvd, rhs⟩ (fst (Gs0 bL).l ⟨rt, rkh, rkd, rvh, rvd, rhs⟩) (Gs0 bL).l.length, (Gs0 bL).q⟩ ⟨rt, rkh, rkd, rvh, rvd, rhs⟩ x (.slice none 0 0) [] w') := fun jb bb x hx => wait_any g jb (Gs0 bL) ⟨rt, rkh, rkd, rvh, rvd, rhs⟩ a cap ((Gs0 bL).k + szn ⟨rt, rkh, rkd, rvh, rvd, rhs⟩ (fst (Gs0 bL).l ⟨rt, rkh, rkd, rvh, rvd, rhs⟩) (Gs0 bL).l.length) (.slice none 0 0) [] x hx.g hx.held hx.hds (sze_ok (tk_ok hT1)).2.2.1 (by decide)
  obtain ⟨c0, c1, c2, c3, c4, c5, c6⟩ := cells7 h
  have hgl := lt_of_heap h
  clear h hrs ok V ht hm hT1 hT2
  generalize cln ⟨rt, rkh, rkd, rvh, rvd, rhs⟩ = rc at *
  have hob : (ofr (Gs0 bL).l (Gs0 bL).k ⟨rt, rkh, rkd, rvh, rvd, rhs⟩).body = ((Gs0 bL).k : Int) + (szn ⟨rt, rkh, rkd, rvh, rvd, rhs⟩ (fst (Gs0 bL).l ⟨rt, rkh, rkd, rvh, rvd, rhs⟩) (Gs0 bL).l.length : Nat) := rfl
  rw [← hob] at HWt
  clear hob
  generalize ofr [] 0 ⟨rt, rkh, rkd, rvh, rvd, rhs⟩ = o1 at *
  generalize ofr (Gs0 bL).l (Gs0 bL).k ⟨rt, rkh, rkd, rvh, rvd, rhs⟩ = o2 at *
  obtain ⟨on, of, ot, oe, ob⟩ := o1
  obtain ⟨pn, pf, pt, pe, pb⟩ := o2
  dsimp only [recV, ofrV] at *
  unfold zeroB batA
  have hLk : ((Gs0 bL).k : Int) = 0 := rfl
  rw [hLk] at *
  go_enter Try.func6, Try.ntmps6
  go_wp2_with (first | (go_at_call 13; refine (HM.out _).mono ?_; rintro e wm ⟨⟨jb, bb, rfl, hc, hj1, hj2⟩, hb⟩; have HJ : Hid (w.heap.size ≤ jb ∧ w.heap.size ≤ bb) := ⟨Nat.le_trans HSZ.out hj1, Nat.le_trans HSZ.out hj2⟩; have HU := hid (HUP.out wm jb bb hb hc); have HF := hid HU.out.1; have HB0 := hid HU.out.2.1; obtain ⟨n0, n1, n2, n3, n4, n5, n6⟩ := cells7 HU.out.2.2; have fzm := fun o => froz_of (i := o) HU.out.2.2; obtain ⟨y0, y1, y2, y3, y4, y5⟩ := cells6 HF.out.rr; have hgm := lt_of_heap HU.out.2.2; clear hb hc hj1 hj2) | (go_at_call 14; refine (HO1.out jb bb _ HF.out).mono ?_; rintro e w1 ⟨rfl, hb1⟩; have F1 := hid (HF.out.next hb1); have B1 := hid (HB0.out.trans (Ch.of_below hb1)); clear hb1) | (go_at_call 15; have F1a := hid (F1.out.next (show Below w1.heap.size w1 (w1.alloc (.cells #[.int .i64 on, .int .i64 of, .int .i64 ot, .int .i64 oe, .int .i64 ob] 57)) from (Below.refl _ w1).alloc (Nat.le_refl _) _)); refine (HT1.out jb bb _ F1a.out).mono ?_; rintro e w2 ⟨rfl, hb2⟩; have F2 := hid (F1a.out.next hb2); have B2 := hid ((B1.out.alloc _).trans (Ch.of_below hb2)); obtain ⟨a0, a1, a2, a3, a4⟩ := cells5 ((hb2.block w1.heap.size (by simp)).trans (heap_new _ _)); have al := hid ((hb2.block w1.heap.size (by simp)).trans (heap_new w1 (.cells #[.int .i64 on, .int .i64 of, .int .i64 ot, .int .i64 oe, .int .i64 ob] 57))); obtain ⟨x0, x1, x2, x3, x4⟩ := cells5 F2.out.zb; have fz := fun o => froz_of (i := o) F2.out.zb; obtain ⟨y0, y1, y2, y3, y4, y5⟩ := cells6 F2.out.rr; obtain ⟨g0, g1, g2, g3, g4, g5, g6⟩ := cells7 F2.out.g; clear hb2 F1a))
  have AL := hid (lt_of_heap al.out)
  have HSX : Hid (∀ y, Below w2.heap.size w2 y → (y.cell? ⟨w.heap.size, 0, none⟩ = some (.int .i64 rt) ∧ y.cell? ⟨w.heap.size, 1, none⟩ = some (.bool rkh) ∧ y.cell? ⟨w.heap.size, 2, none⟩ = some (.string rkd) ∧ y.cell? ⟨w.heap.size, 3, none⟩ = some (.bool rvh) ∧ y.cell? ⟨w.heap.size, 4, none⟩ = some (.string rvd) ∧ y.cell? ⟨w.heap.size, 5, none⟩ = some (.slice a rhs.length cap)) ∧ y.cell? ⟨g, 5, none⟩ = some (.slice none 0 0) ∧ y.cell? ⟨g, 6, none⟩ = some (.int .i64 0)) := fun y hy => ⟨cells6 (F2.out.next hy).rr, (cells7 (F2.out.next hy).g).2.2.2.2.2.1, (cells7 (F2.out.next hy).g).2.2.2.2.2.2⟩
  clear HO1 HT1 n0 n1 n2 n3 n4 n5 n6 fzm a0 a1 a2 a3 a4 x0 x1 x2 x3 x4 fz y0 y1 y2 y3 y4 y5 g0 g1 g2 g3 g4 g5 g6 HF HB0 HU F1 c0 c1 c2 c3 c4 c5 c6
  go_cut [8] (fun v8 wc => ∃ G, v8 = .pointer (some ⟨G, 0, none⟩) ∧ Hid (w2.heap.size ≤ G) ∧ Hid (Below w2.heap.size w2 wc) ∧ Hid (wc.heap[G]? = some (.cells #[.int .i64 pn, .int .i64 pf, .int .i64 pt, .int .i64 pe, .int .i64 pb] 57 (0, 0))))
  case first =>
    have hb : Below w2.heap.size w2 w2.drew := (Below.refl _ _).drew
    refine wp_region_held_drew (S := fun y => (y.cell? ⟨w.heap.size, 0, none⟩ = some (.int .i64 rt) ∧ y.cell? ⟨w.heap.size, 1, none⟩ = some (.bool rkh) ∧ y.cell? ⟨w.heap.size, 2, none⟩ = some (.string rkd) ∧ y.cell? ⟨w.heap.size, 3, none⟩ = some (.bool rvh) ∧ y.cell? ⟨w.heap.size, 4, none⟩ = some (.string rvd) ∧ y.cell? ⟨w.heap.size, 5, none⟩ = some (.slice a rhs.length cap)) ∧ y.cell? ⟨g, 5, none⟩ = some (.slice none 0 0) ∧ y.cell? ⟨g, 6, none⟩ = some (.int .i64 0)) (by kernel_rfl) (HSX.out _ hb) (fun hHeld => ?_)
    have hz := hb.size
    generalize w2.drew = z0 at *
    refine wpAnyH_take (i := 0) (oi := { dst := some 32, op := Op.load 40 (Operand.tmp 3), type := 40, pos := "gather.go:59", after := #[], guard := none }) (v := ?_) rfl (by kernel_rfl) (by kernel_rfl) (by kernel_rfl) (fun _ _ _ h => h) (Or.inl ⟨by rfl, ?_⟩) (by assumption) ?_
    rotate_left
    · (intro z hSw; (try dsimp only at hSw); go_simp)
      all_goals with_reducible rfl
    try simp only [Act.put, List.setIfInBounds_toArray, List.set_cons_zero, List.set_cons_succ]
    refine wpAnyH_take (i := 1) (oi := { dst := some 33, op := Op.move (Operand.tmp 0), type := 24, pos := "gather.go:59", after := #[], guard := none }) (v := ?_) rfl (by kernel_rfl) (by kernel_rfl) (by kernel_rfl) (fun _ _ _ h => h) (Or.inl ⟨by rfl, ?_⟩) (by assumption) ?_
    rotate_left
    · (intro z hSw; (try dsimp only at hSw); go_simp)
      all_goals with_reducible rfl
    try simp only [Act.put, List.setIfInBounds_toArray, List.set_cons_zero, List.set_cons_succ]
    refine wpAnyH_take (i := 2) (oi := { dst := some 34, op := Op.nilCheck (Operand.tmp 33), type := 0, pos := "gather.go:59", after := #[{ on := 1, ground := Ground.data }], guard := none }) (v := ?_) rfl (by kernel_rfl) (by kernel_rfl) (by kernel_rfl) (fun _ _ _ h => h) (Or.inl ⟨by rfl, ?_⟩) (by assumption) ?_
    rotate_left
    · (intro z hSw; (try dsimp only at hSw); go_simp)
      all_goals with_reducible rfl
    try simp only [Act.put, List.setIfInBounds_toArray, List.set_cons_zero, List.set_cons_succ]
    refine wpAnyH_take (i := 3) (oi := { dst := some 35, op := Op.fieldAddr 30 (Operand.tmp 34) 1, type := 0, pos := "gather.go:59", after := #[{ on := 2, ground := Ground.data }], guard := none }) (v := ?_) rfl (by kernel_rfl) (by kernel_rfl) (by kernel_rfl) (fun _ _ _ h => h) (Or.inl ⟨by rfl, ?_⟩) (by assumption) ?_
    rotate_left
    · (intro z hSw; (try dsimp only at hSw); go_simp)
      all_goals with_reducible rfl
    try simp only [Act.put, List.setIfInBounds_toArray, List.set_cons_zero, List.set_cons_succ]
    refine wpAnyH_take (i := 4) (oi := { dst := some 36, op := Op.fieldAddr 28 (Operand.tmp 35) 4, type := 0, pos := "gather.go:59", after := #[{ on := 3, ground := Ground.data }], guard := none }) (v := ?_) rfl (by kernel_rfl) (by kernel_rfl) (by kernel_rfl) (fun _ _ _ h => h) (Or.inl ⟨by rfl, ?_⟩) (by assumption) ?_
    rotate_left
    · (intro z hSw; (try dsimp only at hSw); go_simp)
      all_goals with_reducible rfl
    try simp only [Act.put, List.setIfInBounds_toArray, List.set_cons_zero, List.set_cons_succ]
    refine wpAnyH_take (i := 5) (oi := { dst := some 37, op := Op.load 26 (Operand.tmp 36), type := 26, pos := "gather.go:59", after := #[{ on := 4, ground := Ground.data }], guard := none }) (v := ?_) rfl (by kernel_rfl) (by kernel_rfl) (by kernel_rfl) (fun _ _ _ h => h) (Or.inl ⟨by rfl, ?_⟩) (by assumption) ?_
    rotate_left
    · (intro z hSw; (try dsimp only at hSw); go_simp)
      all_goals with_reducible rfl
    try simp only [Act.put, List.setIfInBounds_toArray, List.set_cons_zero, List.set_cons_succ]
    refine wpAnyH_take (i := 6) (oi := { dst := some 38, op := Op.move (Operand.tmp 0), type := 24, pos := "gather.go:59", after := #[], guard := none }) (v := ?_) rfl (by kernel_rfl) (by kernel_rfl) (by kernel_rfl) (fun _ _ _ h => h) (Or.inl ⟨by rfl, ?_⟩) (by assumption) ?_
    rotate_left
    · (intro z hSw; (try dsimp only at hSw); go_simp)
      all_goals with_reducible rfl
    try simp only [Act.put, List.setIfInBounds_toArray, List.set_cons_zero, List.set_cons_succ]
    refine wpAnyH_take (i := 7) (oi := { dst := some 39, op := Op.nilCheck (Operand.tmp 38), type := 0, pos := "gather.go:59", after := #[{ on := 6, ground := Ground.data }], guard := none }) (v := ?_) rfl (by kernel_rfl) (by kernel_rfl) (by kernel_rfl) (fun _ _ _ h => h) (Or.inl ⟨by rfl, ?_⟩) (by assumption) ?_
    rotate_left
    · (intro z hSw; (try dsimp only at hSw); go_simp)
      all_goals with_reducible rfl
    try simp only [Act.put, List.setIfInBounds_toArray, List.set_cons_zero, List.set_cons_succ]
    refine wpAnyH_take (i := 8) (oi := { dst := some 40, op := Op.fieldAddr 30 (Operand.tmp 39) 2, type := 0, pos := "gather.go:59", after := #[{ on := 7, ground := Ground.data }], guard := none }) (v := ?_) rfl (by kernel_rfl) (by kernel_rfl) (by kernel_rfl) (fun _ _ _ h => h) (Or.inl ⟨by rfl, ?_⟩) (by assumption) ?_
    rotate_left
    · (intro z hSw; (try dsimp only at hSw); go_simp)
      all_goals with_reducible rfl
    try simp only [Act.put, List.setIfInBounds_toArray, List.set_cons_zero, List.set_cons_succ]
    refine wpAnyH_take (i := 9) (oi := { dst := some 41, op := Op.load 3 (Operand.tmp 40), type := 3, pos := "gather.go:59", after := #[{ on := 8, ground := Ground.data }], guard := none }) (v := ?_) rfl (by kernel_rfl) (by kernel_rfl) (by kernel_rfl) (fun _ _ _ h => h) (Or.inl ⟨by rfl, ?_⟩) (by assumption) ?_
    rotate_left
    · (intro z hSw; (try dsimp only at hSw); go_simp)
      all_goals with_reducible rfl
    try simp only [Act.put, List.setIfInBounds_toArray, List.set_cons_zero, List.set_cons_succ]
    refine wpAnyH_ready (rs := [10, 11]) (by kernel_rfl) (by simp) ?_
    refine AllReadyH.cons (o := { dst := some 42, op := Op.call { callee := Callee.value (Operand.func 14), args := #[Operand.tmp 32, Operand.tmp 37, Operand.tmp 41], argTypes := #[40, 26, 3] }, type := 57, pos := "gather.go:59", after := #[{ on := 0, ground := Ground.data }, { on := 5, ground := Ground.data }, { on := 9, ground := Ground.data }], guard := none }) rfl (fun K hK => ?_) (AllReadyH.cons (o := { dst := some 8, op := Op.alloc 57, type := 0, pos := "gather.go:59", after := #[], guard := none }) rfl (fun K hK => ?_) AllReadyH.nil)
    · go_simp
      go_at_call 14
      refine (HO2.out jb bb _ (F2.out.next hb)).mono ?_
      rintro e z3 ⟨rfl, hc⟩
      go_wp2_with fail
      have hb3 : Below w2.heap.size w2 z3 := hb.trans (hc.mono hb.size)
      refine hK.out _ _ (HSX.out _ hb3) (fun hHeld => ?_)
      clear hK K
      try simp only [Act.put, List.setIfInBounds_toArray, List.set_cons_zero, List.set_cons_succ]
      refine wpAnyH_ready (rs := [11]) (by kernel_rfl) (by simp) ?_
      refine AllReadyH.cons (o := { dst := some 8, op := Op.alloc 57, type := 0, pos := "gather.go:59", after := #[], guard := none }) rfl (fun K hK => ?_) AllReadyH.nil
      go_simp
      have hb4 : Below w2.heap.size w2 (z3.alloc (.cells #[.int .i64 0, .int .i64 0, .int .i64 0, .int .i64 0, .int .i64 0] 57)) := hb3.alloc hb3.size _
      have hG := heap_new z3 (.cells #[.int .i64 0, .int .i64 0, .int .i64 0, .int .i64 0, .int .i64 0] 57)
      have hGle : w2.heap.size ≤ z3.heap.size := hb3.size
      refine hK.out _ _ (HSX.out _ hb4) (fun hHeld => ?_)
      clear hK K
      try simp only [Act.put, List.setIfInBounds_toArray, List.set_cons_zero, List.set_cons_succ]
      refine wpAnyH_ready (rs := [12]) (by kernel_rfl) (by simp) ?_
      refine AllReadyH.cons (o := { dst := none, op := Op.store 57 (Operand.tmp 8) (Operand.tmp 42), type := 0, pos := "gather.go:59", after := #[{ on := 11, ground := Ground.data }, { on := 10, ground := Ground.data }, { on := 10, ground := Ground.chain }, { on := 0, ground := Ground.phase }, { on := 1, ground := Ground.phase }, { on := 2, ground := Ground.phase }, { on := 3, ground := Ground.phase }, { on := 4, ground := Ground.phase }, { on := 5, ground := Ground.phase }, { on := 6, ground := Ground.phase }, { on := 7, ground := Ground.phase }, { on := 8, ground := Ground.phase }, { on := 9, ground := Ground.phase }, { on := 10, ground := Ground.phase }, { on := 11, ground := Ground.phase }], guard := none }) rfl (fun K hK => ?_) AllReadyH.nil
      go_simp
      have hbs : Below w2.heap.size w2 (z3.alloc (.cells #[.int .i64 pn, .int .i64 pf, .int .i64 pt, .int .i64 pe, .int .i64 pb] 57)) := hb3.alloc hb3.size _
      have hGs : (z3.alloc (.cells #[.int .i64 pn, .int .i64 pf, .int .i64 pt, .int .i64 pe, .int .i64 pb] 57)).heap[z3.heap.size]? = some (.cells #[.int .i64 pn, .int .i64 pf, .int .i64 pt, .int .i64 pe, .int .i64 pb] 57 (0, 0)) := heap_new _ _
      refine hK.out _ _ (HSX.out _ hbs) (fun hHeld => ?_)
      clear hK K
      try simp only [Act.put, List.setIfInBounds_toArray, List.set_cons_zero, List.set_cons_succ]
      refine wpAnyH_done (by kernel_rfl) ?_ _
      go_wp2_with fail
      go_meet
      case rel => exact ⟨_, rfl, hGle, hbs, hGs⟩
    · go_simp
      have hb4 : Below w2.heap.size w2 (z0.alloc (.cells #[.int .i64 0, .int .i64 0, .int .i64 0, .int .i64 0, .int .i64 0] 57)) := hb.alloc hb.size _
      have hG := heap_new z0 (.cells #[.int .i64 0, .int .i64 0, .int .i64 0, .int .i64 0, .int .i64 0] 57)
      have hGle : w2.heap.size ≤ z0.heap.size := hb.size
      refine hK.out _ _ (HSX.out _ hb4) (fun hHeld => ?_)
      clear hK K
      try simp only [Act.put, List.setIfInBounds_toArray, List.set_cons_zero, List.set_cons_succ]
      generalize hz4 : z0.alloc (.cells #[.int .i64 0, .int .i64 0, .int .i64 0, .int .i64 0, .int .i64 0] 57) = z4 at *
      refine wpAnyH_ready (rs := [10]) (by kernel_rfl) (by simp) ?_
      refine AllReadyH.cons (o := { dst := some 42, op := Op.call { callee := Callee.value (Operand.func 14), args := #[Operand.tmp 32, Operand.tmp 37, Operand.tmp 41], argTypes := #[40, 26, 3] }, type := 57, pos := "gather.go:59", after := #[{ on := 0, ground := Ground.data }, { on := 5, ground := Ground.data }, { on := 9, ground := Ground.data }], guard := none }) rfl (fun K hK => ?_) AllReadyH.nil
      go_simp
      go_at_call 14
      refine (HO2.out jb bb _ (F2.out.next hb4)).mono ?_
      rintro e z3 ⟨rfl, hc⟩
      go_wp2_with fail
      have hb3 : Below w2.heap.size w2 z3 := hb4.trans (hc.mono hb4.size)
      refine hK.out _ _ (HSX.out _ hb3) (fun hHeld => ?_)
      clear hK K
      try simp only [Act.put, List.setIfInBounds_toArray, List.set_cons_zero, List.set_cons_succ]
      refine wpAnyH_ready (rs := [12]) (by kernel_rfl) (by simp) ?_
      refine AllReadyH.cons (o := { dst := none, op := Op.store 57 (Operand.tmp 8) (Operand.tmp 42), type := 0, pos := "gather.go:59", after := #[{ on := 11, ground := Ground.data }, { on := 10, ground := Ground.data }, { on := 10, ground := Ground.chain }, { on := 0, ground := Ground.phase }, { on := 1, ground := Ground.phase }, { on := 2, ground := Ground.phase }, { on := 3, ground := Ground.phase }, { on := 4, ground := Ground.phase }, { on := 5, ground := Ground.phase }, { on := 6, ground := Ground.phase }, { on := 7, ground := Ground.phase }, { on := 8, ground := Ground.phase }, { on := 9, ground := Ground.phase }, { on := 10, ground := Ground.phase }, { on := 11, ground := Ground.phase }], guard := none }) rfl (fun K hK => ?_) AllReadyH.nil
      have hG := (hc.block _ (lt_of_heap hG)).trans hG
      obtain ⟨u0, u1, u2, u3, u4⟩ := cells5 hG
      have fz := fun o => froz_of (i := o) hG
      go_simp
      have hbs : Below w2.heap.size w2 (((((z3.setCell ⟨z0.heap.size, 0, none⟩ (.int .i64 pn)).setCell ⟨z0.heap.size, 1, none⟩ (.int .i64 pf)).setCell ⟨z0.heap.size, 2, none⟩ (.int .i64 pt)).setCell ⟨z0.heap.size, 3, none⟩ (.int .i64 pe)).setCell ⟨z0.heap.size, 4, none⟩ (.int .i64 pb)) := ((((hb3.setCell hGle _).setCell hGle _).setCell hGle _).setCell hGle _).setCell hGle _
      have hGs : (((((z3.setCell ⟨z0.heap.size, 0, none⟩ (.int .i64 pn)).setCell ⟨z0.heap.size, 1, none⟩ (.int .i64 pf)).setCell ⟨z0.heap.size, 2, none⟩ (.int .i64 pt)).setCell ⟨z0.heap.size, 3, none⟩ (.int .i64 pe)).setCell ⟨z0.heap.size, 4, none⟩ (.int .i64 pb)).heap[z0.heap.size]? = some (.cells #[.int .i64 pn, .int .i64 pf, .int .i64 pt, .int .i64 pe, .int .i64 pb] 57 (0, 0)) := heap_set (heap_set (heap_set (heap_set (heap_set hG))))
      refine hK.out _ _ (HSX.out _ hbs) (fun hHeld => ?_)
      clear hK K
      try simp only [Act.put, List.setIfInBounds_toArray, List.set_cons_zero, List.set_cons_succ]
      clear u0 u1 u2 u3 u4 fz
      refine wpAnyH_done (by kernel_rfl) ?_ _
      go_wp2_with fail
      go_meet
      case rel => exact ⟨_, rfl, hGle, hbs, hGs⟩
  case rest =>
    obtain ⟨G, rfl, HGL, HB3, HG3⟩ := hcut
    have F3 := hid (F2.out.next HB3.out)
    have B3 := hid (B2.out.trans (Ch.of_below HB3.out))
    obtain ⟨u0, u1, u2, u3, u4⟩ := cells5 HG3.out
    have HNE2 : Hid (¬ w.heap.size + 1 = g) := by show ¬ _; omega
    go_wp2_with (first | (go_at_call 15; refine (HT2.out jb bb _ F3.out).mono ?_; rintro e w4 ⟨rfl, hb4⟩; have F4 := hid (F3.out.next hb4); have B4 := hid (B3.out.trans (Ch.of_below hb4)); have HG4 := hid ((hb4.block G (lt_of_heap HG3.out)).trans HG3.out); obtain ⟨u0, u1, u2, u3, u4⟩ := cells5 HG4.out; obtain ⟨y0, y1, y2, y3, y4, y5⟩ := cells6 F4.out.rr; obtain ⟨g0, g1, g2, g3, g4, g5, g6⟩ := cells7 F4.out.g; clear hb4) | (go_at_call 17; refine (HWt.out jb bb _ F4.out).mono ?_; rintro e w5 ⟨rfl, hW⟩; have Z5 := hid (wait_far hW F4.out.zb HNE2.out); have hcc := hid (wait_cnd hW F4.out.cnd F4.out.g); have HW := hid hW; obtain ⟨x0, x1, x2, x3, x4⟩ := cells5 Z5.out; have fz := fun o => froz_of (i := o) Z5.out; clear hW))
    exact bodyPost_ret (v := .tuple #[.agg #[.int .i64 0, .bool false, .int .i64 0, .int .i32 0, .slice none 0 0], .bool false, .int .i64 0]) (by obtain ⟨j0, j1, j2, j3, j4⟩ := (zb_end2 (v0 := .int .i64 0) (v1 := .bool false) (v2 := .int .i64 0) (v3 := .int .i32 0) (v4 := .slice none 0 0) Z5.out).1; simp [results, Try.results6, go_sem, j0, j1, j2, j3, j4]) rfl (by
      have hk := (zb_end2 (v0 := .int .i64 0) (v1 := .bool false) (v2 := .int .i64 0) (v3 := .int .i32 0) (v4 := .slice none 0 0) Z5.out).2
      have hx := wait_lift2 HW.out B4.out hgl (Nat.le_succ _) (lt_of_heap F4.out.zb) hk
      exact ⟨rfl, jb, bb, hx.1, hcc.out.ng Z5.out (by decide) (by decide) hk, hx.2, HJ.out.1, HJ.out.2⟩)
end Go.Proofs.Ytlbkkeoffeohnab
namespace Go.Proofs.Ytlbkkeoffeohnab
open Go.RowKit
theorem set_same {x : World} {p i : Nat} {c : Array Value} {T : TypeId} {v : Value} (h : x.heap[p]? = some (.cells c T (0, 0))) (hv : c[i]? = some v) : (x.setCell ⟨p, i, none⟩ v).heap[p]? = x.heap[p]? := by
  rw [heap_set h, h]
  congr 2
  exact Array.ext_getElem? (fun j => by
    rw [Array.getElem?_setIfInBounds]
    split
    · rename_i e; subst e
      split
      · exact hv.symm
      · rename_i h; have := (Array.getElem?_eq_some_iff.1 hv).1; exact absurd this h
    · rfl)
theorem clone_end {w wr z4 : World} {v vn : Value} {rs rs' : List RI} {c0 c1 c2 c3 c4 c6 : Value}
    (h : ∀ kv, ∀ y, y = (z4.setCell ⟨w.heap.size, 5, none⟩ vn).setCell ⟨w.heap.size, 6, none⟩ kv → y.heap[w.heap.size]? = some (.cells #[c0, c1, c2, c3, c4, vn, kv] 30 (0, 0)) ∧ Held y 0 vn rs' ∧ Ch (fun i => i = w.heap.size ∨ v.ownBlock = some i) wr y ∧ ∀ i, HS vn rs' i → HS v rs i ∨ wr.heap.size ≤ i)
    (hb : Below w.heap.size w wr) (hN : ∀ i, HS v rs i → w.heap.size < i) (hg : w.heap.size < wr.heap.size) (hg4 : z4.heap[w.heap.size]? = some (.cells #[c0, c1, c2, c3, c4, v, c6] 30 (0, 0))) :
    (z4.setCell ⟨w.heap.size, 5, none⟩ vn).heap[w.heap.size]? = some (.cells #[c0, c1, c2, c3, c4, vn, c6] 30 (0, 0)) ∧ Held (z4.setCell ⟨w.heap.size, 5, none⟩ vn) 0 vn rs' ∧ (∀ i, HS vn rs' i → w.heap.size < i) ∧ Below w.heap.size w (z4.setCell ⟨w.heap.size, 5, none⟩ vn) := by
  have hx : (z4.setCell ⟨w.heap.size, 5, none⟩ vn).heap[w.heap.size]? = some (.cells #[c0, c1, c2, c3, c4, vn, c6] 30 (0, 0)) := heap_set hg4
  obtain ⟨_, h2, h3, h4⟩ := h c6 _ rfl
  have he : ∀ i, ((z4.setCell ⟨w.heap.size, 5, none⟩ vn).setCell ⟨w.heap.size, 6, none⟩ c6).heap[i]? = (z4.setCell ⟨w.heap.size, 5, none⟩ vn).heap[i]? := fun i => by
    by_cases e : i = w.heap.size
    · subst e; exact set_same hx rfl
    · exact Below.heap_setCell _ _ _ _ e
  have hs : ((z4.setCell ⟨w.heap.size, 5, none⟩ vn).setCell ⟨w.heap.size, 6, none⟩ c6).heap.size = (z4.setCell ⟨w.heap.size, 5, none⟩ vn).heap.size := by simp [World.setCell]
  refine ⟨hx, h2.kept (fun i _ _ => (he i).symm), fun i hi => (h4 i hi).elim (hN i) (fun e => by omega), ?_⟩
  refine ⟨h3.os.trans hb.os, h3.tape.trans hb.tape, h3.output.trans hb.output, Nat.le_trans hb.size (hs ▸ h3.size), fun i hi => ?_⟩
  refine ((he i).symm.trans (h3.block i (Nat.lt_of_lt_of_le hi hb.size) ?_)).trans (hb.block i hi)
  rintro (e | e)
  · omega
  · have := hN i (Or.inl e); omega
set_option maxRecDepth 20000 in
set_option maxHeartbeats 4000000 in
theorem clone_any (g jb : Nat) (s : Gs) (v : Value) (rs : List RI) (w : World) (h : Gcell w g jb s v) (hH : Held w 0 v rs) (hz : ∀ x ∈ rs, x.r.hs.length ≤ 1048576) (hn : rs.length ≤ 65536) :
    Calls Try.prog 11 #[.pointer (some ⟨g, 0, none⟩)] w fun e w' => (e = .returned (.pointer (some ⟨w.heap.size, 0, none⟩)) ∧ ∃ v' rs', Gcell w' w.heap.size jb s v' ∧ Held w' 0 v' rs' ∧ rs'.map RI.r = rs.map (fun x => cln x.r) ∧ ∀ i, HS v' rs' i → w.heap.size < i) ∧ Below w.heap.size w w' := by
  obtain ⟨i0, hi, hz0, hz1, hz2⟩ := info_parts Try.infoRec
  obtain ⟨aw, cw, rfl, hR⟩ := hH.slice
  obtain ⟨⟨R, P, F, sp, pk, pr, sq⟩, l, k, q⟩ := s
  unfold Gcell at *
  dsimp only at *
  obtain ⟨c0, c1, c2, c3, c4, c5, c6⟩ := cells7 h
  have hlt := lt_of_heap h
  have HRR := hid hR
  have HZ := hid hz
  have HNN := hid hn
  have HL : Hid (∀ g0, (w.alloc (.cells #[.slice (some ⟨jb, 0, none⟩) 5 5, .int .i64 0, .bool pk, .int .i64 pr, .int .i32 q, g0, .int .i64 k] 30)).heap[w.heap.size]? = some (.cells #[.slice (some ⟨jb, 0, none⟩) 5 5, .int .i64 0, .bool pk, .int .i64 pr, .int .i32 q, g0, .int .i64 k] 30 (0, 0)) ∧ Below w.heap.size w (w.alloc (.cells #[.slice (some ⟨jb, 0, none⟩) 5 5, .int .i64 0, .bool pk, .int .i64 pr, .int .i32 q, g0, .int .i64 k] 30))) := fun g0 => ⟨heap_new _ _, (Below.refl _ w).alloc (Nat.le_refl _) _⟩
  clear h hH hR hz
  go_enter Try.func11, Try.ntmps11
  go_wp2_with fail
  go_loopg [19] rs.length (fun kk vi wr => ∃ (j : Nat) (acc : List RI) (vc : Value), j + kk = rs.length ∧ vi = .int .i64 j ∧ Hid (acc.length = j) ∧ Hid (acc.map RI.r = (rs.take j).map (fun x => cln x.r)) ∧ Hid (wr.heap[w.heap.size]? = some (.cells #[.slice (some ⟨jb, 0, none⟩) 5 5, .int .i64 0, .bool pk, .int .i64 pr, .int .i32 q, vc, .int .i64 k] 30 (0, 0))) ∧ Hid (Held wr 0 vc acc) ∧ Hid (∀ i, HS vc acc i → w.heap.size < i) ∧ Hid (Below w.heap.size w wr))
  case atStart => exact ⟨0, [], .slice none 0 0, by omega, rfl, rfl, rfl, (HL.out _).1, held_nil _, fun i hi => by (rcases hi with hi | ⟨x, hx, _⟩; (cases hi); (simp at hx)), (HL.out _).2⟩
  case round =>
    obtain ⟨j, acc, vc, hk, rfl, hal, HA, HG, HHe, HN, HB⟩ := hrel
    by_cases hj : j < rs.length
    · obtain ⟨kk, rfl⟩ : ∃ kk, gk = kk + 1 := ⟨gk - 1, by omega⟩
      have hTK : (rs.take (j + 1)).map (fun x => cln x.r) = (rs.take j).map (fun x => cln x.r) ++ [cln (rs.getD j dri).r] := by rw [take_getD hj, List.map_append]; rfl
      have HTK := hid hTK
      have hmem := riD_mem hj
      have V := (HRR.out.1 _ hmem).below HB.out
      have hz' := HZ.out _ hmem
      rcases HRR.out.2 with h | ⟨sb, off, rfl, hbl, hc⟩
      · rw [h] at hj; simp at hj
      obtain ⟨q0, q1, q2, q3, q4, q5⟩ := hc j hj
      have hcl := fun o => HB.out.cell (p := ⟨sb, o, none⟩) hbl
      have l0 := (hcl _).trans q0
      have l1 := (hcl _).trans q1
      have l2 := (hcl _).trans q2
      have l3 := (hcl _).trans q3
      have l4 := (hcl _).trans q4
      have l5 := (hcl _).trans q5
      have i1 : (0 : Int) ≤ (j : Int) := by omega
      have i2 : (j : Int) < rs.length := by omega
      have hsz := HB.out.size
      have hgl := lt_of_heap HG.out
      clear hc q0 q1 q2 q3 q4 q5 hcl hTK hmem
      generalize rs.getD j dri = o at *
      obtain ⟨⟨rt, rkh, rkd, rvh, rvd, rhs⟩, a, cap⟩ := o
      dsimp only at V hz' l0 l1 l2 l3 l4 l5 HTK
      have HCP : Hid (∀ x, Below wr.heap.size wr x → Calls Try.prog 20 #[recV ⟨rt, rkh, rkd, rvh, rvd, rhs⟩ a cap] x fun e w' => (∃ a' cap', e = .returned (recV (cln ⟨rt, rkh, rkd, rvh, rvd, rhs⟩) a' cap') ∧ OwnH w' x.heap.size (.slice a' (cln ⟨rt, rkh, rkd, rvh, rvd, rhs⟩).hs.length cap') (cln ⟨rt, rkh, rkd, rvh, rvd, rhs⟩).hs) ∧ Below x.heap.size x w') := fun x hx => copy_any rt rkh rvh rkd rvd rhs a cap x (V.below hx) hz'
      generalize cln ⟨rt, rkh, rkd, rvh, rvd, rhs⟩ = rc at *
      obtain ⟨t', kh', kd', vh', vd', hs'⟩ := rc
      simp only [recV] at HCP
      have HB1 : Hid (Below wr.heap.size wr (wr.alloc (.cells #[.int .i64 rt, .bool rkh, .string rkd, .bool rvh, .string rvd, .slice a rhs.length cap] 40))) := (Below.refl _ wr).alloc (Nat.le_refl _) _
      have HR : Hid ((wr.alloc (.cells #[.int .i64 rt, .bool rkh, .string rkd, .bool rvh, .string rvd, .slice a rhs.length cap] 40)).heap[wr.heap.size]? = some (.cells #[.int .i64 rt, .bool rkh, .string rkd, .bool rvh, .string rvd, .slice a rhs.length cap] 40 (0, 0))) := heap_new _ _
      clear V hz'
      go_wp2_with fail
      have hd0 : Below wr.heap.size wr (wr.alloc (.cells #[.int .i64 rt, .bool rkh, .string rkd, .bool rvh, .string rvd, .slice a rhs.length cap] 40)).drew := HB1.out.drew
      have hg0 : (wr.alloc (.cells #[.int .i64 rt, .bool rkh, .string rkd, .bool rvh, .string rvd, .slice a rhs.length cap] 40)).drew.heap[w.heap.size]? = some _ := heap_alloc_at HG.out
      have hr0 : (wr.alloc (.cells #[.int .i64 rt, .bool rkh, .string rkd, .bool rvh, .string rvd, .slice a rhs.length cap] 40)).drew.heap[wr.heap.size]? = some _ := HR.out
      have hs0 : wr.heap.size < (wr.alloc (.cells #[.int .i64 rt, .bool rkh, .string rkd, .bool rvh, .string rvd, .slice a rhs.length cap] 40)).drew.heap.size := lt_of_heap hr0
      refine wp_region_held_drew (S := fun y => y.cell? ⟨wr.heap.size, 0, none⟩ = some (.int .i64 rt) ∧ y.cell? ⟨wr.heap.size, 1, none⟩ = some (.bool rkh) ∧ y.cell? ⟨wr.heap.size, 2, none⟩ = some (.string rkd) ∧ y.cell? ⟨wr.heap.size, 3, none⟩ = some (.bool rvh) ∧ y.cell? ⟨wr.heap.size, 4, none⟩ = some (.string rvd) ∧ y.cell? ⟨wr.heap.size, 5, none⟩ = some (.slice a rhs.length cap)) (by kernel_rfl) (cells6 hr0) (fun hHeld => ?_)
      generalize (wr.alloc (.cells #[.int .i64 rt, .bool rkh, .string rkd, .bool rvh, .string rvd, .slice a rhs.length cap] 40)).drew = z0 at *
      refine wpAnyH_take (i := 0) (oi := { dst := some 23, op := Op.fieldAddr 30 (Operand.tmp 3) 1, type := 0, pos := "gather.go:115", after := #[], guard := none }) (v := ?_) rfl (by kernel_rfl) (by kernel_rfl) (by kernel_rfl) (fun _ _ _ h => h) (Or.inl ⟨by rfl, ?_⟩) (by assumption) ?_
      rotate_left
      · (intro z hSw; (try dsimp only at hSw); go_simp)
        all_goals with_reducible rfl
      try simp only [Act.put, List.setIfInBounds_toArray, List.set_cons_zero, List.set_cons_succ]
      refine wpAnyH_take (i := 1) (oi := { dst := some 24, op := Op.fieldAddr 28 (Operand.tmp 23) 4, type := 0, pos := "gather.go:115", after := #[{ on := 0, ground := Ground.data }], guard := none }) (v := ?_) rfl (by kernel_rfl) (by kernel_rfl) (by kernel_rfl) (fun _ _ _ h => h) (Or.inl ⟨by rfl, ?_⟩) (by assumption) ?_
      rotate_left
      · (intro z hSw; (try dsimp only at hSw); go_simp)
        all_goals with_reducible rfl
      try simp only [Act.put, List.setIfInBounds_toArray, List.set_cons_zero, List.set_cons_succ]
      refine wpAnyH_take (i := 3) (oi := { dst := some 26, op := Op.load 40 (Operand.tmp 5), type := 40, pos := "gather.go:115", after := #[], guard := none }) (v := ?_) rfl (by kernel_rfl) (by kernel_rfl) (by kernel_rfl) (fun _ _ _ h => h) (Or.inl ⟨by rfl, ?_⟩) (by assumption) ?_
      rotate_left
      · (intro z hSw; (try dsimp only at hSw); go_simp)
        all_goals with_reducible rfl
      try simp only [Act.put, List.setIfInBounds_toArray, List.set_cons_zero, List.set_cons_succ]
      refine wpAnyH_ready (rs := [2, 4]) (by kernel_rfl) (by simp) ?_
      refine AllReadyH.cons (o := { dst := some 25, op := Op.load 26 (Operand.tmp 24), type := 26, pos := "gather.go:115", after := #[{ on := 1, ground := Ground.data }], guard := none }) rfl (fun K hK => ?_) (AllReadyH.cons (o := { dst := some 27, op := Op.call { callee := Callee.value (Operand.func 20), args := #[Operand.tmp 26], argTypes := #[40] }, type := 40, pos := "gather.go:115", after := #[{ on := 3, ground := Ground.data }], guard := none }) rfl (fun K hK => ?_) AllReadyH.nil)
      · have q5 := (cells7 hg0).2.2.2.2.2.1
        go_simp
        refine hK.out _ _ (cells6 hr0) (fun hHeld => ?_)
        clear hK K
        try simp only [Act.put, List.setIfInBounds_toArray, List.set_cons_zero, List.set_cons_succ]
        clear q5
        refine wpAnyH_ready (rs := [4]) (by kernel_rfl) (by simp) ?_
        refine AllReadyH.cons (o := { dst := some 27, op := Op.call { callee := Callee.value (Operand.func 20), args := #[Operand.tmp 26], argTypes := #[40] }, type := 40, pos := "gather.go:115", after := #[{ on := 3, ground := Ground.data }], guard := none }) rfl (fun K hK => ?_) AllReadyH.nil
        go_simp
        go_at_call 20
        refine (HCP.out _ hd0).mono ?_
        rintro e z2 ⟨⟨ac, cc, rfl, ho2⟩, hb2⟩
        go_wp2_with fail
        have hg2 := (hb2.block w.heap.size (lt_of_heap hg0)).trans hg0
        have hr2 := (hb2.block wr.heap.size hs0).trans hr0
        refine hK.out _ _ (cells6 hr2) (fun hHeld => ?_)
        clear hK K
        try simp only [Act.put, List.setIfInBounds_toArray, List.set_cons_zero, List.set_cons_succ]
        refine wpAnyH_ready (rs := [5]) (by kernel_rfl) (by simp) ?_
        refine AllReadyH.cons (o := { dst := some 28, op := Op.buildSlice 26 1 #[(0, Operand.tmp 27)], type := 26, pos := "gather.go:115", after := #[{ on := 4, ground := Ground.data }], guard := none }) rfl (fun K hK => ?_) AllReadyH.nil
        go_simp
        have hg3 := (below_alloc (o := .cells (rc1 ⟨⟨t', kh', kd', vh', vd', hs'⟩, ac, cc⟩).toArray 40) (lt_of_heap hg2)).trans hg2
        have hr3 := (below_alloc (o := .cells (rc1 ⟨⟨t', kh', kd', vh', vd', hs'⟩, ac, cc⟩).toArray 40) (lt_of_heap hr2)).trans hr2
        refine hK.out _ _ (cells6 hr3) (fun hHeld => ?_)
        clear hK K
        try simp only [Act.put, List.setIfInBounds_toArray, List.set_cons_zero, List.set_cons_succ]
        refine wpAnyH_ready (rs := [6]) (by kernel_rfl) (by simp) ?_
        refine AllReadyH.cons (o := { dst := some 29, op := Op.call { callee := Callee.builtin Builtin.append, args := #[Operand.tmp 25, Operand.tmp 28], argTypes := #[26, 26] }, type := 26, pos := "gather.go:115", after := #[{ on := 2, ground := Ground.data }, { on := 5, ground := Ground.data }, { on := 4, ground := Ground.chain }], guard := none }) rfl (fun K hK => ?_) AllReadyH.nil
        refine wp_append_two _ _ _ 26 rfl 0 40 i0 (.agg #[.int .i64 0, .bool false, .string ⟨#[]⟩, .bool false, .string ⟨#[]⟩, .slice none 0 0]) 6 80 Try.underRecs hi hz0 hz1 hz2 rfl (by decide) vc acc.length (rcs acc) rfl ((wait_row HHe.out hd0 hb2).alloc _) ⟨z2.heap.size, 0, none⟩ 1 1 (rc1 ⟨⟨t', kh', kd', vh', vd', hs'⟩, ac, cc⟩) rfl rfl (cells_newN _ (rc1 ⟨⟨t', kh', kd', vh', vd', hs'⟩, ac, cc⟩) _ _ rfl) (rc1_one _) (by decide) (by have := HNN.out; have := hal.out; unfold maxLen; omega) (by have := HNN.out; have := hal.out; omega) (Nat.zero_le _) ?_
        intro g4 cap4 z4 hown4 hcase
        have hW := wait_mid (x := ⟨⟨t', kh', kd', vh', vd', hs'⟩, ac, cc⟩) HHe.out hd0 hb2 hg2 hr2 ho2 hown4 hcase hs0
        have hg4 := hW.2.1
        have hr4 := hW.1
        refine hK.out _ _ (cells6 hr4) (fun hHeld => ?_)
        clear hK K
        try simp only [Act.put, List.setIfInBounds_toArray, List.set_cons_zero, List.set_cons_succ]
        refine wpAnyH_take (i := 7) (oi := { dst := some 30, op := Op.fieldAddr 30 (Operand.tmp 3) 1, type := 0, pos := "gather.go:115", after := #[{ on := 0, ground := Ground.phase }, { on := 1, ground := Ground.phase }, { on := 2, ground := Ground.phase }, { on := 3, ground := Ground.phase }, { on := 4, ground := Ground.phase }, { on := 5, ground := Ground.phase }, { on := 6, ground := Ground.phase }], guard := none }) (v := ?_) rfl (by kernel_rfl) (by kernel_rfl) (by kernel_rfl) (fun _ _ _ h => h) (Or.inl ⟨by rfl, ?_⟩) (by assumption) ?_
        rotate_left
        · (intro z hSw; (try dsimp only at hSw); go_simp)
          all_goals with_reducible rfl
        try simp only [Act.put, List.setIfInBounds_toArray, List.set_cons_zero, List.set_cons_succ]
        refine wpAnyH_take (i := 8) (oi := { dst := some 31, op := Op.fieldAddr 28 (Operand.tmp 30) 4, type := 0, pos := "gather.go:115", after := #[{ on := 7, ground := Ground.data }, { on := 0, ground := Ground.phase }, { on := 1, ground := Ground.phase }, { on := 2, ground := Ground.phase }, { on := 3, ground := Ground.phase }, { on := 4, ground := Ground.phase }, { on := 5, ground := Ground.phase }, { on := 6, ground := Ground.phase }], guard := none }) (v := ?_) rfl (by kernel_rfl) (by kernel_rfl) (by kernel_rfl) (fun _ _ _ h => h) (Or.inl ⟨by rfl, ?_⟩) (by assumption) ?_
        rotate_left
        · (intro z hSw; (try dsimp only at hSw); go_simp)
          all_goals with_reducible rfl
        try simp only [Act.put, List.setIfInBounds_toArray, List.set_cons_zero, List.set_cons_succ]
        refine wpAnyH_ready (rs := [9]) (by kernel_rfl) (by simp) ?_
        refine AllReadyH.cons (o := { dst := none, op := Op.store 26 (Operand.tmp 31) (Operand.tmp 29), type := 0, pos := "gather.go:115", after := #[{ on := 8, ground := Ground.data }, { on := 6, ground := Ground.data }, { on := 6, ground := Ground.chain }, { on := 0, ground := Ground.phase }, { on := 1, ground := Ground.phase }, { on := 2, ground := Ground.phase }, { on := 3, ground := Ground.phase }, { on := 4, ground := Ground.phase }, { on := 5, ground := Ground.phase }, { on := 6, ground := Ground.phase }], guard := none }) rfl (fun K hK => ?_) AllReadyH.nil
        have q5 := (cells7 hg4).2.2.2.2.2.1
        have fz := fun o => froz_of (i := o) hg4
        go_simp
        have hr5 : (z4.setCell ⟨w.heap.size, 5, none⟩ (.slice (some ⟨g4, 0, none⟩) (acc.length + 1) cap4)).heap[wr.heap.size]? = _ := heap_set_far hr4 (fun e => Nat.lt_irrefl w.heap.size (Nat.lt_of_lt_of_eq hgl e))
        refine hK.out _ _ (cells6 hr5) (fun hHeld => ?_)
        clear hK K
        try simp only [Act.put, List.setIfInBounds_toArray, List.set_cons_zero, List.set_cons_succ]
        clear q5
        refine wpAnyH_done (by kernel_rfl) ?_ _
        have hE := hid (clone_end hW.2.2 HB.out HN.out hgl hg4)
        clear hW hr5 hg4 hr4 hg2 hr2 hown4 hcase fz
        go_wp2_with fail
        go_roundg kk
        case measure => omega
        case rel => exact ⟨j + 1, acc ++ [(⟨⟨t', kh', kd', vh', vd', hs'⟩, ac, cc⟩ : RI)], (.slice (some ⟨g4, 0, none⟩) (acc.length + 1) cap4), by omega, by go_num, by show _ = _; rw [List.length_append, hal.out]; rfl, by show _ = _; rw [List.map_append, HA.out, HTK.out]; rfl, hE.out.1, hE.out.2.1, hE.out.2.2.1, hE.out.2.2.2⟩
      · go_simp
        go_at_call 20
        refine (HCP.out _ hd0).mono ?_
        rintro e z2 ⟨⟨ac, cc, rfl, ho2⟩, hb2⟩
        go_wp2_with fail
        have hg2 := (hb2.block w.heap.size (lt_of_heap hg0)).trans hg0
        have hr2 := (hb2.block wr.heap.size hs0).trans hr0
        refine hK.out _ _ (cells6 hr2) (fun hHeld => ?_)
        clear hK K
        try simp only [Act.put, List.setIfInBounds_toArray, List.set_cons_zero, List.set_cons_succ]
        refine wpAnyH_ready (rs := [2, 5]) (by kernel_rfl) (by simp) ?_
        refine AllReadyH.cons (o := { dst := some 25, op := Op.load 26 (Operand.tmp 24), type := 26, pos := "gather.go:115", after := #[{ on := 1, ground := Ground.data }], guard := none }) rfl (fun K hK => ?_) (AllReadyH.cons (o := { dst := some 28, op := Op.buildSlice 26 1 #[(0, Operand.tmp 27)], type := 26, pos := "gather.go:115", after := #[{ on := 4, ground := Ground.data }], guard := none }) rfl (fun K hK => ?_) AllReadyH.nil)
        · have q5 := (cells7 hg2).2.2.2.2.2.1
          go_simp
          refine hK.out _ _ (cells6 hr2) (fun hHeld => ?_)
          clear hK K
          try simp only [Act.put, List.setIfInBounds_toArray, List.set_cons_zero, List.set_cons_succ]
          clear q5
          refine wpAnyH_ready (rs := [5]) (by kernel_rfl) (by simp) ?_
          refine AllReadyH.cons (o := { dst := some 28, op := Op.buildSlice 26 1 #[(0, Operand.tmp 27)], type := 26, pos := "gather.go:115", after := #[{ on := 4, ground := Ground.data }], guard := none }) rfl (fun K hK => ?_) AllReadyH.nil
          go_simp
          have hg3 := (below_alloc (o := .cells (rc1 ⟨⟨t', kh', kd', vh', vd', hs'⟩, ac, cc⟩).toArray 40) (lt_of_heap hg2)).trans hg2
          have hr3 := (below_alloc (o := .cells (rc1 ⟨⟨t', kh', kd', vh', vd', hs'⟩, ac, cc⟩).toArray 40) (lt_of_heap hr2)).trans hr2
          refine hK.out _ _ (cells6 hr3) (fun hHeld => ?_)
          clear hK K
          try simp only [Act.put, List.setIfInBounds_toArray, List.set_cons_zero, List.set_cons_succ]
          refine wpAnyH_ready (rs := [6]) (by kernel_rfl) (by simp) ?_
          refine AllReadyH.cons (o := { dst := some 29, op := Op.call { callee := Callee.builtin Builtin.append, args := #[Operand.tmp 25, Operand.tmp 28], argTypes := #[26, 26] }, type := 26, pos := "gather.go:115", after := #[{ on := 2, ground := Ground.data }, { on := 5, ground := Ground.data }, { on := 4, ground := Ground.chain }], guard := none }) rfl (fun K hK => ?_) AllReadyH.nil
          refine wp_append_two _ _ _ 26 rfl 0 40 i0 (.agg #[.int .i64 0, .bool false, .string ⟨#[]⟩, .bool false, .string ⟨#[]⟩, .slice none 0 0]) 6 80 Try.underRecs hi hz0 hz1 hz2 rfl (by decide) vc acc.length (rcs acc) rfl ((wait_row HHe.out hd0 hb2).alloc _) ⟨z2.heap.size, 0, none⟩ 1 1 (rc1 ⟨⟨t', kh', kd', vh', vd', hs'⟩, ac, cc⟩) rfl rfl (cells_newN _ (rc1 ⟨⟨t', kh', kd', vh', vd', hs'⟩, ac, cc⟩) _ _ rfl) (rc1_one _) (by decide) (by have := HNN.out; have := hal.out; unfold maxLen; omega) (by have := HNN.out; have := hal.out; omega) (Nat.zero_le _) ?_
          intro g4 cap4 z4 hown4 hcase
          have hW := wait_mid (x := ⟨⟨t', kh', kd', vh', vd', hs'⟩, ac, cc⟩) HHe.out hd0 hb2 hg2 hr2 ho2 hown4 hcase hs0
          have hg4 := hW.2.1
          have hr4 := hW.1
          refine hK.out _ _ (cells6 hr4) (fun hHeld => ?_)
          clear hK K
          try simp only [Act.put, List.setIfInBounds_toArray, List.set_cons_zero, List.set_cons_succ]
          refine wpAnyH_take (i := 7) (oi := { dst := some 30, op := Op.fieldAddr 30 (Operand.tmp 3) 1, type := 0, pos := "gather.go:115", after := #[{ on := 0, ground := Ground.phase }, { on := 1, ground := Ground.phase }, { on := 2, ground := Ground.phase }, { on := 3, ground := Ground.phase }, { on := 4, ground := Ground.phase }, { on := 5, ground := Ground.phase }, { on := 6, ground := Ground.phase }], guard := none }) (v := ?_) rfl (by kernel_rfl) (by kernel_rfl) (by kernel_rfl) (fun _ _ _ h => h) (Or.inl ⟨by rfl, ?_⟩) (by assumption) ?_
          rotate_left
          · (intro z hSw; (try dsimp only at hSw); go_simp)
            all_goals with_reducible rfl
          try simp only [Act.put, List.setIfInBounds_toArray, List.set_cons_zero, List.set_cons_succ]
          refine wpAnyH_take (i := 8) (oi := { dst := some 31, op := Op.fieldAddr 28 (Operand.tmp 30) 4, type := 0, pos := "gather.go:115", after := #[{ on := 7, ground := Ground.data }, { on := 0, ground := Ground.phase }, { on := 1, ground := Ground.phase }, { on := 2, ground := Ground.phase }, { on := 3, ground := Ground.phase }, { on := 4, ground := Ground.phase }, { on := 5, ground := Ground.phase }, { on := 6, ground := Ground.phase }], guard := none }) (v := ?_) rfl (by kernel_rfl) (by kernel_rfl) (by kernel_rfl) (fun _ _ _ h => h) (Or.inl ⟨by rfl, ?_⟩) (by assumption) ?_
          rotate_left
          · (intro z hSw; (try dsimp only at hSw); go_simp)
            all_goals with_reducible rfl
          try simp only [Act.put, List.setIfInBounds_toArray, List.set_cons_zero, List.set_cons_succ]
          refine wpAnyH_ready (rs := [9]) (by kernel_rfl) (by simp) ?_
          refine AllReadyH.cons (o := { dst := none, op := Op.store 26 (Operand.tmp 31) (Operand.tmp 29), type := 0, pos := "gather.go:115", after := #[{ on := 8, ground := Ground.data }, { on := 6, ground := Ground.data }, { on := 6, ground := Ground.chain }, { on := 0, ground := Ground.phase }, { on := 1, ground := Ground.phase }, { on := 2, ground := Ground.phase }, { on := 3, ground := Ground.phase }, { on := 4, ground := Ground.phase }, { on := 5, ground := Ground.phase }, { on := 6, ground := Ground.phase }], guard := none }) rfl (fun K hK => ?_) AllReadyH.nil
          have q5 := (cells7 hg4).2.2.2.2.2.1
          have fz := fun o => froz_of (i := o) hg4
          go_simp
          have hr5 : (z4.setCell ⟨w.heap.size, 5, none⟩ (.slice (some ⟨g4, 0, none⟩) (acc.length + 1) cap4)).heap[wr.heap.size]? = _ := heap_set_far hr4 (fun e => Nat.lt_irrefl w.heap.size (Nat.lt_of_lt_of_eq hgl e))
          refine hK.out _ _ (cells6 hr5) (fun hHeld => ?_)
          clear hK K
          try simp only [Act.put, List.setIfInBounds_toArray, List.set_cons_zero, List.set_cons_succ]
          clear q5
          refine wpAnyH_done (by kernel_rfl) ?_ _
          have hE := hid (clone_end hW.2.2 HB.out HN.out hgl hg4)
          clear hW hr5 hg4 hr4 hg2 hr2 hown4 hcase fz
          go_wp2_with fail
          go_roundg kk
          case measure => omega
          case rel => exact ⟨j + 1, acc ++ [(⟨⟨t', kh', kd', vh', vd', hs'⟩, ac, cc⟩ : RI)], (.slice (some ⟨g4, 0, none⟩) (acc.length + 1) cap4), by omega, by go_num, by show _ = _; rw [List.length_append, hal.out]; rfl, by show _ = _; rw [List.map_append, HA.out, HTK.out]; rfl, hE.out.1, hE.out.2.1, hE.out.2.2.1, hE.out.2.2.2⟩
        · go_simp
          have hg3 := (below_alloc (o := .cells (rc1 ⟨⟨t', kh', kd', vh', vd', hs'⟩, ac, cc⟩).toArray 40) (lt_of_heap hg2)).trans hg2
          have hr3 := (below_alloc (o := .cells (rc1 ⟨⟨t', kh', kd', vh', vd', hs'⟩, ac, cc⟩).toArray 40) (lt_of_heap hr2)).trans hr2
          refine hK.out _ _ (cells6 hr3) (fun hHeld => ?_)
          clear hK K
          try simp only [Act.put, List.setIfInBounds_toArray, List.set_cons_zero, List.set_cons_succ]
          refine wpAnyH_ready (rs := [2]) (by kernel_rfl) (by simp) ?_
          refine AllReadyH.cons (o := { dst := some 25, op := Op.load 26 (Operand.tmp 24), type := 26, pos := "gather.go:115", after := #[{ on := 1, ground := Ground.data }], guard := none }) rfl (fun K hK => ?_) AllReadyH.nil
          have hl2 := lt_of_heap hg2
          have q5 := (cells7 hg2).2.2.2.2.2.1
          go_simp
          refine hK.out _ _ (cells6 hr3) (fun hHeld => ?_)
          clear hK K
          try simp only [Act.put, List.setIfInBounds_toArray, List.set_cons_zero, List.set_cons_succ]
          clear q5
          refine wpAnyH_ready (rs := [6]) (by kernel_rfl) (by simp) ?_
          refine AllReadyH.cons (o := { dst := some 29, op := Op.call { callee := Callee.builtin Builtin.append, args := #[Operand.tmp 25, Operand.tmp 28], argTypes := #[26, 26] }, type := 26, pos := "gather.go:115", after := #[{ on := 2, ground := Ground.data }, { on := 5, ground := Ground.data }, { on := 4, ground := Ground.chain }], guard := none }) rfl (fun K hK => ?_) AllReadyH.nil
          refine wp_append_two _ _ _ 26 rfl 0 40 i0 (.agg #[.int .i64 0, .bool false, .string ⟨#[]⟩, .bool false, .string ⟨#[]⟩, .slice none 0 0]) 6 80 Try.underRecs hi hz0 hz1 hz2 rfl (by decide) vc acc.length (rcs acc) rfl ((wait_row HHe.out hd0 hb2).alloc _) ⟨z2.heap.size, 0, none⟩ 1 1 (rc1 ⟨⟨t', kh', kd', vh', vd', hs'⟩, ac, cc⟩) rfl rfl (cells_newN _ (rc1 ⟨⟨t', kh', kd', vh', vd', hs'⟩, ac, cc⟩) _ _ rfl) (rc1_one _) (by decide) (by have := HNN.out; have := hal.out; unfold maxLen; omega) (by have := HNN.out; have := hal.out; omega) (Nat.zero_le _) ?_
          intro g4 cap4 z4 hown4 hcase
          have hW := wait_mid (x := ⟨⟨t', kh', kd', vh', vd', hs'⟩, ac, cc⟩) HHe.out hd0 hb2 hg2 hr2 ho2 hown4 hcase hs0
          have hg4 := hW.2.1
          have hr4 := hW.1
          refine hK.out _ _ (cells6 hr4) (fun hHeld => ?_)
          clear hK K
          try simp only [Act.put, List.setIfInBounds_toArray, List.set_cons_zero, List.set_cons_succ]
          refine wpAnyH_take (i := 7) (oi := { dst := some 30, op := Op.fieldAddr 30 (Operand.tmp 3) 1, type := 0, pos := "gather.go:115", after := #[{ on := 0, ground := Ground.phase }, { on := 1, ground := Ground.phase }, { on := 2, ground := Ground.phase }, { on := 3, ground := Ground.phase }, { on := 4, ground := Ground.phase }, { on := 5, ground := Ground.phase }, { on := 6, ground := Ground.phase }], guard := none }) (v := ?_) rfl (by kernel_rfl) (by kernel_rfl) (by kernel_rfl) (fun _ _ _ h => h) (Or.inl ⟨by rfl, ?_⟩) (by assumption) ?_
          rotate_left
          · (intro z hSw; (try dsimp only at hSw); go_simp)
            all_goals with_reducible rfl
          try simp only [Act.put, List.setIfInBounds_toArray, List.set_cons_zero, List.set_cons_succ]
          refine wpAnyH_take (i := 8) (oi := { dst := some 31, op := Op.fieldAddr 28 (Operand.tmp 30) 4, type := 0, pos := "gather.go:115", after := #[{ on := 7, ground := Ground.data }, { on := 0, ground := Ground.phase }, { on := 1, ground := Ground.phase }, { on := 2, ground := Ground.phase }, { on := 3, ground := Ground.phase }, { on := 4, ground := Ground.phase }, { on := 5, ground := Ground.phase }, { on := 6, ground := Ground.phase }], guard := none }) (v := ?_) rfl (by kernel_rfl) (by kernel_rfl) (by kernel_rfl) (fun _ _ _ h => h) (Or.inl ⟨by rfl, ?_⟩) (by assumption) ?_
          rotate_left
          · (intro z hSw; (try dsimp only at hSw); go_simp)
            all_goals with_reducible rfl
          try simp only [Act.put, List.setIfInBounds_toArray, List.set_cons_zero, List.set_cons_succ]
          refine wpAnyH_ready (rs := [9]) (by kernel_rfl) (by simp) ?_
          refine AllReadyH.cons (o := { dst := none, op := Op.store 26 (Operand.tmp 31) (Operand.tmp 29), type := 0, pos := "gather.go:115", after := #[{ on := 8, ground := Ground.data }, { on := 6, ground := Ground.data }, { on := 6, ground := Ground.chain }, { on := 0, ground := Ground.phase }, { on := 1, ground := Ground.phase }, { on := 2, ground := Ground.phase }, { on := 3, ground := Ground.phase }, { on := 4, ground := Ground.phase }, { on := 5, ground := Ground.phase }, { on := 6, ground := Ground.phase }], guard := none }) rfl (fun K hK => ?_) AllReadyH.nil
          have q5 := (cells7 hg4).2.2.2.2.2.1
          have fz := fun o => froz_of (i := o) hg4
          go_simp
          have hr5 : (z4.setCell ⟨w.heap.size, 5, none⟩ (.slice (some ⟨g4, 0, none⟩) (acc.length + 1) cap4)).heap[wr.heap.size]? = _ := heap_set_far hr4 (fun e => Nat.lt_irrefl w.heap.size (Nat.lt_of_lt_of_eq hgl e))
          refine hK.out _ _ (cells6 hr5) (fun hHeld => ?_)
          clear hK K
          try simp only [Act.put, List.setIfInBounds_toArray, List.set_cons_zero, List.set_cons_succ]
          clear q5
          refine wpAnyH_done (by kernel_rfl) ?_ _
          have hE := hid (clone_end hW.2.2 HB.out HN.out hgl hg4)
          clear hW hr5 hg4 hr4 hg2 hr2 hown4 hcase fz
          go_wp2_with fail
          go_roundg kk
          case measure => omega
          case rel => exact ⟨j + 1, acc ++ [(⟨⟨t', kh', kd', vh', vd', hs'⟩, ac, cc⟩ : RI)], (.slice (some ⟨g4, 0, none⟩) (acc.length + 1) cap4), by omega, by go_num, by show _ = _; rw [List.length_append, hal.out]; rfl, by show _ = _; rw [List.map_append, HA.out, HTK.out]; rfl, hE.out.1, hE.out.2.1, hE.out.2.2.1, hE.out.2.2.2⟩
    · have hj' : j = rs.length := by omega
      have HAF : Hid (acc.map RI.r = rs.map (fun x => cln x.r)) := by show _ = _; rw [HA.out, hj', List.take_length]
      have i2 : ¬ (j : Int) < rs.length := by omega
      clear HRR
      go_wp2_with fail
      go_ret
      exact ⟨⟨rfl, vc, HG.out, acc, HHe.out, HAF.out, HN.out⟩, HB.out⟩
end Go.Proofs.Ytlbkkeoffeohnab
