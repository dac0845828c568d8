/- What a record offers behind those that wait. -/
import Derived.Test.YtlbkkeoffeohnabGa3
namespace Go.Proofs.Ytlbkkeoffeohnab
open Go.RowKit
/-- The time of the first of those that wait, or the record's own. -/
def fst (l : List Rec) (r : Rec) : Int := match l with
  | [] => r.t
  | x :: _ => x.t
/-- What a record offers. -/
def ofr (l : List Rec) (k : Nat) (r : Rec) : Ofr := ⟨l.length, fst l r, r.t, sze r (fst l r) l.length, k + szn r (fst l r) l.length⟩
theorem sze_le (r : Rec) (f n : Int) : sze r f n ≤ 66 := by unfold sze; (repeat' split) <;> omega
theorem szn_le (r : Rec) (f n : Int) : szn r f n ≤ 16777216 := by
  unfold szn
  by_cases h : sze r f n = 0
  · rw [if_pos h]; exact (sze_ok h).2.2.2
  · rw [if_neg h]; omega
theorem fst_in {l : List Rec} {r : Rec} (hr : I64 r.t) (hx : ∀ x ∈ l, I64 x.t) : I64 (fst l r) := by
  cases l with
  | nil => exact hr
  | cons x l => exact hx x (List.mem_cons_self ..)
theorem ofr_in {l : List Rec} {k : Nat} {r : Rec} (hl : l.length ≤ 65536) (hk : k ≤ 16777216) (hr : I64 r.t) (hx : ∀ x ∈ l, I64 x.t) : OfrIn (ofr l k r) where
  n := by have := hl; simp only [ofr]; omega
  first := fst_in hr hx
  t := hr
  e := by have := sze_le r (fst l r) l.length; simp only [ofr]; omega
  body := by
    have := szn_le r (fst l r) l.length
    simp only [ofr]
    constructor <;> omega
theorem offer_end {x : World} {p q : Nat} {T : TypeId} {z0 z1 z2 z3 z4 ve vk v0 v1 v2 v3 v4 : Value} (h : x.heap[p]? = some (.cells #[z0, z1, z2, z3, z4] T (0, 0))) (hne : p ≠ q) :
    let y := ((((((x.setCell ⟨q, 3, none⟩ ve).setCell ⟨q, 4, none⟩ vk).setCell ⟨p, 0, none⟩ v0).setCell ⟨p, 1, none⟩ v1).setCell ⟨p, 2, none⟩ v2).setCell ⟨p, 3, none⟩ v3).setCell ⟨p, 4, none⟩ v4
    y.cell? ⟨p, 0, none⟩ = some v0 ∧ y.cell? ⟨p, 1, none⟩ = some v1 ∧ y.cell? ⟨p, 2, none⟩ = some v2 ∧ y.cell? ⟨p, 3, none⟩ = some v3 ∧ y.cell? ⟨p, 4, none⟩ = some v4 := by
  intro y
  have hy : y.heap[p]? = some (.cells #[v0, v1, v2, v3, v4] T (0, 0)) := heap_set (heap_set (heap_set (heap_set (heap_set (heap_set_far (heap_set_far h hne) hne)))))
  exact cells5 hy
set_option maxRecDepth 20000 in
set_option maxHeartbeats 1000000 in
theorem offer_any (r : Rec) (a : Option Addr) (cap : Nat) (aw : Option Addr) (cw : Nat) (l : List RI) (k : Nat) (w : World) (V : Hds w a r.hs) (ht : I64 r.t) (hm : Mod r) (W : Rcs w aw l) (hx : ∀ x ∈ l, I64 x.r.t) (hl : l.length ≤ 65536) (hk : k ≤ 16777216) :
    Calls Try.prog 14 #[recV r a cap, .slice aw l.length cw, .int .i64 k] w fun e w' => e = .returned (ofrV (ofr (l.map RI.r) k r)) ∧ Below w.heap.size w w' := by
  have HS : Hid (∀ (f n : Int) (x : World), Below w.heap.size w x → I64 f → Calls Try.prog 23 #[recV r a cap, .int .i64 f, .int .i64 n] x fun e w' => e = .returned (.tuple #[.int .i64 (szn r f n), .int .i64 (sze r f n)]) ∧ Below x.heap.size x w') := fun f n x hx hf => size5_any r a cap f n x (V.below hx) ht hf hm
  have hsn := fun f n => szn_le r f n
  cases l with
  | nil =>
    have HE : Hid (ofrV (ofr [] k r) = .agg #[.int .i64 0, .int .i64 r.t, .int .i64 r.t, .int .i64 (sze r r.t 0), .int .i64 ((k : Int) + (szn r r.t 0 : Nat))]) := by show _ = _; simp [ofr, ofrV, fst]
    have h1 := HS.out r.t 0
    have h2 := hsn r.t 0
    rw [show List.map RI.r [] = [] from rfl, HE.out]
    clear W hl
    generalize sze r r.t 0 = E at *
    generalize szn r r.t 0 = N at *
    have H1 := hid h1
    have HT := hid ht
    clear HS hsn hm hx V h1 HE ht
    obtain ⟨t, kh, kd, vh, vd, hs⟩ := r
    simp only [recV] at *
    have HB : Hid (Below w.heap.size w (((w.alloc (.cells #[.int .i64 t, .bool kh, .string kd, .bool vh, .string vd, .slice a hs.length cap] 40)).alloc (.cells #[.int .i64 0, .int .i64 0, .int .i64 0, .int .i64 0, .int .i64 0] 57)).alloc (.cells #[.int .i64 0, .int .i64 t, .int .i64 t, .int .i64 0, .int .i64 0] 57))) := (((Below.refl _ w).alloc (Nat.le_refl _) _).alloc (by simp) _).alloc (by simp; omega) _
    have HG : Hid ((((w.alloc (.cells #[.int .i64 t, .bool kh, .string kd, .bool vh, .string vd, .slice a hs.length cap] 40)).alloc (.cells #[.int .i64 0, .int .i64 0, .int .i64 0, .int .i64 0, .int .i64 0] 57)).alloc (.cells #[.int .i64 0, .int .i64 t, .int .i64 t, .int .i64 0, .int .i64 0] 57)).heap[w.heap.size + 1 + 1]? = some (.cells #[.int .i64 0, .int .i64 t, .int .i64 t, .int .i64 0, .int .i64 0] 57 (0, 0))) := heap_new' _ _ _ (by simp)
    have HG1 : Hid ((((w.alloc (.cells #[.int .i64 t, .bool kh, .string kd, .bool vh, .string vd, .slice a hs.length cap] 40)).alloc (.cells #[.int .i64 0, .int .i64 0, .int .i64 0, .int .i64 0, .int .i64 0] 57)).alloc (.cells #[.int .i64 0, .int .i64 t, .int .i64 t, .int .i64 0, .int .i64 0] 57)).heap[w.heap.size + 1]? = some (.cells #[.int .i64 0, .int .i64 0, .int .i64 0, .int .i64 0, .int .i64 0] 57 (0, 0))) := heap_alloc_at (heap_new' _ _ _ (by simp))
    have HL : Hid (w.heap.size + 1 + 1 < (((w.alloc (.cells #[.int .i64 t, .bool kh, .string kd, .bool vh, .string vd, .slice a hs.length cap] 40)).alloc (.cells #[.int .i64 0, .int .i64 0, .int .i64 0, .int .i64 0, .int .i64 0] 57)).alloc (.cells #[.int .i64 0, .int .i64 t, .int .i64 t, .int .i64 0, .int .i64 0] 57)).heap.size) := by show _ < _; simp
    go_enter Try.func14, Try.ntmps14
    go_wp2_with (go_at_call 23; refine (H1.out _ HB.out HT.out).mono ?_; rintro e w2 ⟨rfl, hb2⟩; have g2 := (hb2.block (w.heap.size + 1 + 1) HL.out).trans HG.out; obtain ⟨u0, u1, u2, u3, u4⟩ := cells5 g2; have fz := fun o => froz_of (i := o) g2; have g1 := (hb2.block (w.heap.size + 1) (Nat.lt_of_succ_lt HL.out)).trans HG1.out; obtain ⟨z0, z1, z2, z3, z4⟩ := cells5 g1; have fz1 := fun o => froz_of (i := o) g1; have HP := hid g1; clear g1 g2; have HB2 := hid (HB.out.trans (hb2.mono HB.out.size)); clear hb2)
    exact bodyPost_ret (v := .agg #[.int .i64 0, .int .i64 t, .int .i64 t, .int .i64 E, .int .i64 ((k : Int) + N)]) (by obtain ⟨j0, j1, j2, j3, j4⟩ := offer_end (q := w.heap.size + 1 + 1) (ve := .int .i64 E) (vk := .int .i64 ((k : Int) + N)) (v0 := .int .i64 0) (v1 := .int .i64 t) (v2 := .int .i64 t) (v3 := .int .i64 E) (v4 := .int .i64 ((k : Int) + N)) HP.out (by omega); simp [results, Try.results14, go_sem, j0, j1, j2, j3, j4]) rfl ⟨rfl, (((((((HB2.out.setCell (Nat.le_succ_of_le (Nat.le_succ _)) _).setCell (Nat.le_succ_of_le (Nat.le_succ _)) _).setCell (Nat.le_succ _) _).setCell (Nat.le_succ _) _).setCell (Nat.le_succ _) _).setCell (Nat.le_succ _) _).setCell (Nat.le_succ _) _)⟩
  | cons x l =>
    have HE : Hid (ofrV (ofr (x.r :: l.map RI.r) k r) = .agg #[.int .i64 ((l.length : Int) + 1), .int .i64 x.r.t, .int .i64 r.t, .int .i64 (sze r x.r.t ((l.length : Int) + 1)), .int .i64 ((k : Int) + (szn r x.r.t ((l.length : Int) + 1) : Nat))]) := by show _ = _; simp [ofr, ofrV, fst]
    have h1 := HS.out x.r.t ((l.length : Int) + 1)
    have h2 := hsn x.r.t ((l.length : Int) + 1)
    rw [show List.map RI.r (x :: l) = (x.r :: l.map RI.r) from rfl, HE.out]
    have HF := hid (hx x (List.mem_cons_self ..))
    obtain ⟨b, off, rfl, hbl, hc⟩ := W.2.resolve_left (by simp)
    have q0 : w.cell? ⟨b, off, none⟩ = some (.int .i64 x.r.t) := by have := (hc 0 (by simp)).1; simpa using this
    have hlm : (l.map RI.r).length = l.length := List.length_map ..
    have q1 := fun t => fun (o : Obj) => (((((Below.refl w.heap.size w).alloc (Nat.le_refl _) o).alloc (by simp) (.cells #[.int .i64 0, .int .i64 0, .int .i64 0, .int .i64 0, .int .i64 0] 57)).alloc (by simp; omega) (.cells #[.int .i64 ((l.length : Int) + 1), .int .i64 t, .int .i64 t, .int .i64 0, .int .i64 0] 57)).cell (p := ⟨b, off, none⟩) hbl).trans q0
    clear hc W
    generalize sze r x.r.t ((l.length : Int) + 1) = E at *
    generalize szn r x.r.t ((l.length : Int) + 1) = N at *
    have H1 := hid h1
    have HT := hid ht
    clear HS hsn hm hx V h1 HE ht
    obtain ⟨t, kh, kd, vh, vd, hs⟩ := r
    simp only [recV] at *
    have HB : Hid (Below w.heap.size w (((w.alloc (.cells #[.int .i64 t, .bool kh, .string kd, .bool vh, .string vd, .slice a hs.length cap] 40)).alloc (.cells #[.int .i64 0, .int .i64 0, .int .i64 0, .int .i64 0, .int .i64 0] 57)).alloc (.cells #[.int .i64 ((l.length : Int) + 1), .int .i64 x.r.t, .int .i64 t, .int .i64 0, .int .i64 0] 57))) := (((Below.refl _ w).alloc (Nat.le_refl _) _).alloc (by simp) _).alloc (by simp; omega) _
    have HG : Hid ((((w.alloc (.cells #[.int .i64 t, .bool kh, .string kd, .bool vh, .string vd, .slice a hs.length cap] 40)).alloc (.cells #[.int .i64 0, .int .i64 0, .int .i64 0, .int .i64 0, .int .i64 0] 57)).alloc (.cells #[.int .i64 ((l.length : Int) + 1), .int .i64 x.r.t, .int .i64 t, .int .i64 0, .int .i64 0] 57)).heap[w.heap.size + 1 + 1]? = some (.cells #[.int .i64 ((l.length : Int) + 1), .int .i64 x.r.t, .int .i64 t, .int .i64 0, .int .i64 0] 57 (0, 0))) := heap_new' _ _ _ (by simp)
    have HG1 : Hid ((((w.alloc (.cells #[.int .i64 t, .bool kh, .string kd, .bool vh, .string vd, .slice a hs.length cap] 40)).alloc (.cells #[.int .i64 0, .int .i64 0, .int .i64 0, .int .i64 0, .int .i64 0] 57)).alloc (.cells #[.int .i64 ((l.length : Int) + 1), .int .i64 x.r.t, .int .i64 t, .int .i64 0, .int .i64 0] 57)).heap[w.heap.size + 1]? = some (.cells #[.int .i64 0, .int .i64 0, .int .i64 0, .int .i64 0, .int .i64 0] 57 (0, 0))) := heap_alloc_at (heap_new' _ _ _ (by simp))
    have HL : Hid (w.heap.size + 1 + 1 < (((w.alloc (.cells #[.int .i64 t, .bool kh, .string kd, .bool vh, .string vd, .slice a hs.length cap] 40)).alloc (.cells #[.int .i64 0, .int .i64 0, .int .i64 0, .int .i64 0, .int .i64 0] 57)).alloc (.cells #[.int .i64 ((l.length : Int) + 1), .int .i64 x.r.t, .int .i64 t, .int .i64 0, .int .i64 0] 57)).heap.size) := by show _ < _; simp
    generalize x.r.t = F at *
    have q2 := q1 t (.cells #[.int .i64 t, .bool kh, .string kd, .bool vh, .string vd, .slice a hs.length cap] 40)
    clear q1
    go_enter Try.func14, Try.ntmps14
    go_wp2_with (go_at_call 23; refine (H1.out _ HB.out HF.out).mono ?_; rintro e w2 ⟨rfl, hb2⟩; have g2 := (hb2.block (w.heap.size + 1 + 1) HL.out).trans HG.out; obtain ⟨u0, u1, u2, u3, u4⟩ := cells5 g2; have fz := fun o => froz_of (i := o) g2; have g1 := (hb2.block (w.heap.size + 1) (Nat.lt_of_succ_lt HL.out)).trans HG1.out; obtain ⟨z0, z1, z2, z3, z4⟩ := cells5 g1; have fz1 := fun o => froz_of (i := o) g1; have HP := hid g1; clear g1 g2; have HB2 := hid (HB.out.trans (hb2.mono HB.out.size)); clear hb2)
    exact bodyPost_ret (v := .agg #[.int .i64 ((l.length : Int) + 1), .int .i64 F, .int .i64 t, .int .i64 E, .int .i64 ((k : Int) + N)]) (by obtain ⟨j0, j1, j2, j3, j4⟩ := offer_end (q := w.heap.size + 1 + 1) (ve := .int .i64 E) (vk := .int .i64 ((k : Int) + N)) (v0 := .int .i64 ((l.length : Int) + 1)) (v1 := .int .i64 F) (v2 := .int .i64 t) (v3 := .int .i64 E) (v4 := .int .i64 ((k : Int) + N)) HP.out (by omega); simp [results, Try.results14, go_sem, j0, j1, j2, j3, j4]) rfl ⟨rfl, (((((((HB2.out.setCell (Nat.le_succ_of_le (Nat.le_succ _)) _).setCell (Nat.le_succ_of_le (Nat.le_succ _)) _).setCell (Nat.le_succ _) _).setCell (Nat.le_succ _) _).setCell (Nat.le_succ _) _).setCell (Nat.le_succ _) _).setCell (Nat.le_succ _) _)⟩
end Go.Proofs.Ytlbkkeoffeohnab
