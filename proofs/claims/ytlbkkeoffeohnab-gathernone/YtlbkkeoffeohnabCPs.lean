import Derived.Test.YtlbkkeoffeohnabSam5
import Derived.Test.YtlbkkeoffeohnabRfa
import Derived.Test.YtlbkkeoffeohnabRbd
import Derived.Test.YtlbkkeoffeohnabRdr3
import Derived.Test.YtlbkkeoffeohnabWrec
import Derived.ProofKit
import Derived.OpenShut
import Derived.ShutString
import Derived.ChangeOld
import Derived.JoinedCond
import Derived.ChangeSame
import Derived.Deep.Slices
import Derived.Deep.Strs
/- What a record's copy is while it is made. -/
namespace Go.Proofs.Ytlbkkeoffeohnab
open Go.RowKit
/-- The copy under way: its block, its headers so far, and what lies below B is as it was. -/
structure CpI (B : Nat) (W2 x : World) (G : Nat) (R : Rec) (v : Value) (l : List Hdr) : Prop where
  blk : x.heap[G]? = some (.cells #[.int .i64 R.t, .bool R.kh, .string R.kd, .bool R.vh, .string R.vd, v] 40 (0, 0))
  own : OwnH x B v l
  bel : Below B W2 x
  hB : B ≤ W2.heap.size
theorem CpI.next {B G : Nat} {W2 x y : World} {R : Rec} {v : Value} {l : List Hdr} (h : CpI B W2 x G R v l) (hb : Below x.heap.size x y) : CpI B W2 y G R v l :=
  ⟨(hb.block G (lt_of_heap h.blk)).trans h.blk, own_apart h.own (fun g hg => hb.block g (World.ownsRow.lt h.own g hg).2), bel_next h.bel h.hB hb, h.hB⟩
theorem CpI.grown {B G j : Nat} {W2 x y : World} {R : Rec} {v : Value} {l : List Hdr} {r : Hdr} {g cap : Nat} (h : CpI B W2 x G R v l) (ho : y.ownsRow B 72 3 (.slice (some ⟨g, 0, none⟩) (j + 1) cap) (j + 1) (hcs l ++ hc1 r)) (hg : x.grownBy y v.ownBlock) :
    y.heap[G]? = some (.cells #[.int .i64 R.t, .bool R.kh, .string R.kd, .bool R.vh, .string R.vd, v] 40 (0, 0)) ∧ y.ownsRow B 72 3 (.slice (some ⟨g, 0, none⟩) (j + 1) cap) (j + 1) (hcs l ++ hc1 r) ∧ Below B W2 y :=
  ⟨(hg.block G (lt_of_heap h.blk) (fun e => own_ne h.own h.blk (by decide) e.symm)).trans h.blk, ho, h.bel.grown hg (Nat.le_trans h.hB h.bel.size) (fun k hk => (World.ownsRow.lt h.own k hk).1)⟩
theorem CpI.put {B G j : Nat} {W2 y : World} {R : Rec} {v : Value} {l : List Hdr} {r : Hdr} {g cap : Nat} (h : y.heap[G]? = some (.cells #[.int .i64 R.t, .bool R.kh, .string R.kd, .bool R.vh, .string R.vd, v] 40 (0, 0)) ∧ y.ownsRow B 72 3 (.slice (some ⟨g, 0, none⟩) (j + 1) cap) (j + 1) (hcs l ++ hc1 r) ∧ Below B W2 y) (hl : l.length = j) (hG : B ≤ G) (hB : B ≤ W2.heap.size) :
    CpI B W2 (y.setCell ⟨G, 5, none⟩ (.slice (some ⟨g, 0, none⟩) (j + 1) cap)) G R (.slice (some ⟨g, 0, none⟩) (j + 1) cap) (l ++ [r]) :=
  ⟨heap_set h.1, own_apart (ownH_snoc h.2.1 hl) (fun k hk => Below.heap_setCell _ _ _ _ (fun e => own_ne h.2.1 h.1 (by decide) (hk.trans (congrArg some e)))), h.2.2.setCell hG _, hB⟩
theorem take_map {hs l : List Hdr} {j : Nat} {x : Hdr} (hl : l = (hs.map fun x => (x.1, x.2.1, bd x.2.1 x.2.2)).take j) (hj : j < hs.length) (hx : hs.getD j df = x) : l ++ [(x.1, x.2.1, bd x.2.1 x.2.2)] = (hs.map fun x => (x.1, x.2.1, bd x.2.1 x.2.2)).take (j + 1) := by
  have hj2 : j < (hs.map fun x => (x.1, x.2.1, bd x.2.1 x.2.2)).length := by rw [List.length_map]; exact hj
  rw [List.take_succ_eq_append_getElem hj2, hl, List.getElem_map]
  rw [List.getD_eq_getElem?_getD, List.getElem?_eq_getElem hj, Option.getD_some] at hx
  rw [hx]
theorem own_mono {w : World} {B B' n size : Nat} {e : TypeId} {v : Value} {l : List Value} (h : w.ownsRow B e size v n l) (hB : B' ≤ B) : w.ownsRow B' e size v n l := by
  obtain ⟨h1, h2⟩ := h
  rcases h2 with h2 | ⟨g, c, cur, e, hb, r⟩
  · exact ⟨h1, Or.inl h2⟩
  · exact ⟨h1, Or.inr ⟨g, c, cur, e, Nat.le_trans hB hb, r⟩⟩
theorem cp_end {w W2 x : World} {G j cap' : Nat} {t : Int} {kh vh : Bool} {kd vd : ByteArray} {hs l : List Hdr} {a' : Option Addr} (h : CpI (w.heap.size + 2) W2 x G ⟨t, kh, bd kh kd, vh, bd vh vd, []⟩ (.slice a' j cap') l) (hj : j = hs.length) (hl : l = (hs.map fun x => (x.1, x.2.1, bd x.2.1 x.2.2)).take j) (hb : Below w.heap.size w W2)
    (hr : x.heap[w.heap.size + 1]? = some (.cells #[.int .i64 0, .bool false, .string ⟨#[]⟩, .bool false, .string ⟨#[]⟩, .slice none 0 0] 40 (0, 0))) :
    let y := ((((((x.setCell ⟨w.heap.size + 1, 0, none⟩ (.int .i64 t)).setCell ⟨w.heap.size + 1, 1, none⟩ (.bool kh)).setCell ⟨w.heap.size + 1, 2, none⟩ (.string (bd kh kd))).setCell ⟨w.heap.size + 1, 3, none⟩ (.bool vh)).setCell ⟨w.heap.size + 1, 4, none⟩ (.string (bd vh vd))).setCell ⟨w.heap.size + 1, 5, none⟩ (.slice a' j cap'))
    (y.cell? ⟨w.heap.size + 1, 0, none⟩ = some (.int .i64 t) ∧ y.cell? ⟨w.heap.size + 1, 1, none⟩ = some (.bool kh) ∧ y.cell? ⟨w.heap.size + 1, 2, none⟩ = some (.string (bd kh kd)) ∧ y.cell? ⟨w.heap.size + 1, 3, none⟩ = some (.bool vh) ∧ y.cell? ⟨w.heap.size + 1, 4, none⟩ = some (.string (bd vh vd)) ∧ y.cell? ⟨w.heap.size + 1, 5, none⟩ = some (.slice a' j cap')) ∧
    Ending.returned (.agg #[.int .i64 t, .bool kh, .string (bd kh kd), .bool vh, .string (bd vh vd), .slice a' j cap']) = .returned (recV (cln ⟨t, kh, kd, vh, vd, hs⟩) a' cap') ∧ OwnH y w.heap.size (.slice a' (cln ⟨t, kh, kd, vh, vd, hs⟩).hs.length cap') (cln ⟨t, kh, kd, vh, vd, hs⟩).hs ∧ Below w.heap.size w y := by
  intro y
  have hlen : (hs.map fun x => (x.1, x.2.1, bd x.2.1 x.2.2)).length = j := by rw [List.length_map]; exact hj.symm
  have hll : l = (hs.map fun x => (x.1, x.2.1, bd x.2.1 x.2.2)) := by rw [hl, List.take_of_length_le (by rw [hlen]; exact Nat.le_refl _)]
  have hy : y.heap[w.heap.size + 1]? = some (.cells #[.int .i64 t, .bool kh, .string (bd kh kd), .bool vh, .string (bd vh vd), .slice a' j cap'] 40 (0, 0)) := heap_set (heap_set (heap_set (heap_set (heap_set (heap_set hr)))))
  have hle : w.heap.size ≤ w.heap.size + 1 := Nat.le_succ _
  refine ⟨cells6 hy, ?_, ?_, ?_⟩
  · unfold recV cln
    rw [hlen]
  · show World.ownsRow y w.heap.size 72 3 (.slice a' (hs.map fun x => (x.1, x.2.1, bd x.2.1 x.2.2)).length cap') (hs.map fun x => (x.1, x.2.1, bd x.2.1 x.2.2)).length (hcs (hs.map fun x => (x.1, x.2.1, bd x.2.1 x.2.2)))
    rw [← hll]
    have hlj : l.length = j := by rw [hll]; exact hlen
    rw [hlj]
    have ho := own_mono (B' := w.heap.size) h.own (Nat.le_trans hle (Nat.le_succ _))
    rw [hlj] at ho
    refine own_apart ho (fun g hg => ?_)
    have hne : g ≠ w.heap.size + 1 := fun e => by have := (World.ownsRow.lt h.own g hg).1; omega
    exact (Below.heap_setCell _ _ _ _ hne).trans ((Below.heap_setCell _ _ _ _ hne).trans ((Below.heap_setCell _ _ _ _ hne).trans ((Below.heap_setCell _ _ _ _ hne).trans ((Below.heap_setCell _ _ _ _ hne).trans (Below.heap_setCell _ _ _ _ hne)))))
  · exact ((((((hb.trans (h.bel.mono (by omega))).setCell hle _).setCell hle _).setCell hle _).setCell hle _).setCell hle _).setCell hle _
end Go.Proofs.Ytlbkkeoffeohnab
