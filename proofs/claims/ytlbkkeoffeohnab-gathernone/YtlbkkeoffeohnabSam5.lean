import Derived.Test.YtlbkkeoffeohnabRdr3
import Derived.Test.YtlbkkeoffeohnabWrec
import Derived.Laws.StructEq
import Derived.ProofKit
import Derived.OpenShut
import Derived.ShutString
import Derived.ChangeOld
import Derived.JoinedCond
import Derived.ChangeSame
import Derived.Deep.Slices
import Derived.Deep.Strs
/- Same of two records that say the same: true; nothing that was there before is turned. -/
namespace Go.Proofs.Ytlbkkeoffeohnab
open Go.RowKit
/-- What a text that may be null says. -/
def bd (h : Bool) (d : ByteArray) : ByteArray := if h then d else ⟨#[]⟩
set_option maxHeartbeats 1000000 in
set_option maxRecDepth 20000 in
theorem bare_any (h : Bool) (d : ByteArray) (w : World) :
    Calls Try.prog 25 #[.agg #[.bool h, .string d]] w fun e w' => e = .returned (.agg #[.bool h, .string (bd h d)]) ∧ Below w.heap.size w w' := by
  cases h with
  | false =>
    go_enter Try.func25, Try.ntmps25
    go_wp2_with fail
    exact bodyPost_ret (v := .agg #[.bool false, .string ⟨#[]⟩]) (by simp [results, Try.results25, go_sem]) rfl ⟨rfl, ((Below.refl _ w).alloc (Nat.le_refl _) _).alloc (by simp) _⟩
  | true =>
    go_enter Try.func25, Try.ntmps25
    go_wp2_with fail
    exact bodyPost_ret (v := .agg #[.bool true, .string d]) (by simp [results, Try.results25, go_sem]) rfl ⟨rfl, ((Below.refl _ w).alloc (Nat.le_refl _) _).alloc (by simp) _⟩
theorem bareB (h : Bool) (d : ByteArray) (B : Nat) (w0 w : World) (hB : B ≤ w0.heap.size) (hb : Below B w0 w) :
    Calls Try.prog 25 #[.agg #[.bool h, .string d]] w fun e w' => e = .returned (.agg #[.bool h, .string (bd h d)]) ∧ Below B w0 w' :=
  (bare_any h d w).mono fun _ _ h => ⟨h.1, bel_next hb hB h.2⟩
theorem store3 {x : World} {A R : Nat} {o : Obj} {v0 v1 v2 : Value} (h : x.heap[A]? = some o) (hne : A ≠ R) :
    (((x.setCell ⟨R, 0, none⟩ v0).setCell ⟨R, 1, none⟩ v1).setCell ⟨R, 2, none⟩ v2).heap[A]? = some o :=
  heap_set_far (heap_set_far (heap_set_far h hne) hne) hne
set_option maxHeartbeats 800000 in
set_option maxRecDepth 20000 in
theorem bareh_any (k : ByteArray) (h : Bool) (d : ByteArray) (w : World) :
    Calls Try.prog 26 #[.agg #[.string k, .bool h, .string d]] w fun e w' => e = .returned (.agg #[.string k, .bool h, .string (bd h d)]) ∧ Below w.heap.size w w' := by
  go_enter Try.func26, Try.ntmps26
  go_wp2_with fail
  have h1 : ((w.alloc (.cells #[.string k, .bool h, .string d] 72)).alloc (.cells #[.string ⟨#[]⟩, .bool false, .string ⟨#[]⟩] 72)).heap[w.heap.size]? = some (.cells #[.string k, .bool h, .string d] 72 (0, 0)) := heap_alloc_at (heap_new _ _)
  have h2 : ((w.alloc (.cells #[.string k, .bool h, .string d] 72)).alloc (.cells #[.string ⟨#[]⟩, .bool false, .string ⟨#[]⟩] 72)).heap[w.heap.size + 1]? = some (.cells #[.string ⟨#[]⟩, .bool false, .string ⟨#[]⟩] 72 (0, 0)) := heap_new' _ _ _ (by simp)
  have hb1 : Below w.heap.size w ((w.alloc (.cells #[.string k, .bool h, .string d] 72)).alloc (.cells #[.string ⟨#[]⟩, .bool false, .string ⟨#[]⟩] 72)) := ((Below.refl _ w).alloc (Nat.le_refl _) _).alloc (by simp) _
  have hs1 : ((w.alloc (.cells #[.string k, .bool h, .string d] 72)).alloc (.cells #[.string ⟨#[]⟩, .bool false, .string ⟨#[]⟩] 72)).heap.size = w.heap.size + 2 := by simp
  generalize (w.alloc (.cells #[.string k, .bool h, .string d] 72)).alloc (.cells #[.string ⟨#[]⟩, .bool false, .string ⟨#[]⟩] 72) = W2 at *
  have hB : w.heap.size + 2 ≤ W2.heap.size := by omega
  have C1 : Hid (∀ x, Below (w.heap.size + 2) W2 x → Calls Try.prog 25 #[.agg #[.bool h, .string d]] x fun e w' => e = .returned (.agg #[.bool h, .string (bd h d)]) ∧ Hid (Below (w.heap.size + 2) W2 w') ∧ w'.heap[w.heap.size]? = some (.cells #[.string k, .bool h, .string d] 72 (0, 0)) ∧ Hid (w'.heap[w.heap.size + 1]? = some (.cells #[.string ⟨#[]⟩, .bool false, .string ⟨#[]⟩] 72 (0, 0))) ∧ w'.cell? ⟨w.heap.size + 1, 0, none⟩ = some (.string ⟨#[]⟩) ∧ w'.cell? ⟨w.heap.size + 1, 1, none⟩ = some (.bool false) ∧ w'.cell? ⟨w.heap.size + 1, 2, none⟩ = some (.string ⟨#[]⟩) ∧ w'.frozen? ⟨w.heap.size + 1, 0, none⟩ = false ∧ w'.frozen? ⟨w.heap.size + 1, 1, none⟩ = false ∧ w'.frozen? ⟨w.heap.size + 1, 2, none⟩ = false) := by
    intro x hx
    refine (bareB h d (w.heap.size + 2) W2 x hB hx).mono ?_
    rintro e w' ⟨rfl, hb⟩
    have r1 := (hb.block (w.heap.size + 1) (by omega)).trans h2
    have m := cells3 r1
    exact ⟨rfl, hb, (hb.block w.heap.size (by omega)).trans h1, r1, m.1, m.2.1, m.2.2, froz_of r1, froz_of r1, froz_of r1⟩
  have HB1 := hid hb1
  have h0 : Below (w.heap.size + 2) W2 W2 := Below.refl _ _
  have h0' : Below (w.heap.size + 2) W2 W2.drew := h0.drew
  have H1 := hid h1
  have H1' : Hid (W2.drew.heap[w.heap.size]? = some (.cells #[.string k, .bool h, .string d] 72 (0, 0))) := h1
  have y1 : w.heap.size ≠ w.heap.size + 1 := by omega
  clear h1 h2 hb1
  go_region_held3 (fun x => x.cell? ⟨w.heap.size, 0, none⟩ = some (.string k) ∧ x.cell? ⟨w.heap.size, 1, none⟩ = some (.bool h) ∧ x.cell? ⟨w.heap.size, 2, none⟩ = some (.string d)) (first | with_reducible exact cells3 H1.out | with_reducible exact cells3 H1'.out | with_reducible exact cells3 g1 | with_reducible exact cells3 (store3 g1 y1)) (first | (go_at_call 25; refine (C1.out _ (by assumption)).mono ?_; rintro e w' ⟨rfl, hbel, g1, r1, m0, m1, m2, n0, n1, n2⟩))
  have f11 : (((w'.setCell ⟨w.heap.size + 1, 0, none⟩ (.string k)).setCell ⟨w.heap.size + 1, 1, none⟩ (.bool h)).setCell ⟨w.heap.size + 1, 2, none⟩ (.string (bd h d))).heap[w.heap.size + 1]? = some (.cells #[.string k, .bool h, .string (bd h d)] 72 (0, 0)) := heap_set (heap_set (heap_set r1.out))
  obtain ⟨j0, j1, j2⟩ := cells3 f11
  clear f11 m0 m1 m2 n0 n1 n2
  have HF : Hid (Below w.heap.size w (((w'.setCell ⟨w.heap.size + 1, 0, none⟩ (.string k)).setCell ⟨w.heap.size + 1, 1, none⟩ (.bool h)).setCell ⟨w.heap.size + 1, 2, none⟩ (.string (bd h d)))) := (((HB1.out.trans (hbel.out.mono (by omega))).setCell (by show w.heap.size ≤ w.heap.size + 1; omega) _).setCell (by show w.heap.size ≤ w.heap.size + 1; omega) _).setCell (by show w.heap.size ≤ w.heap.size + 1; omega) _
  go_wp2_with fail
  exact bodyPost_ret (v := .agg #[.string k, .bool h, .string (bd h d)]) (by simp [results, Try.results26, go_sem, j0, j1, j2]) rfl ⟨rfl, HF.out⟩
end Go.Proofs.Ytlbkkeoffeohnab
