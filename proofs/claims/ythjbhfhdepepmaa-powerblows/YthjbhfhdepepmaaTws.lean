/- A clone's loop: what holds in it, and a file's way through it. -/
import Derived.Test.YthjbhfhdepepmaaTwn
namespace Go.Proofs.Ythjbhfhdepepmaa
open Go.RowKit
def Tw (w0 wr : World) (b rm : Nat) (cl cb : Int) (fs : List Fl) (left : Lit → Bool) (cnt : Nat) (gs : List Fl) : Prop :=
  wr.ranges Try.prog 9 RP b (w0.heap.size + 2) fs.length (dm fs) left cnt ∧ Par (w0.heap.size + 3) wr (w0.heap.size + 1) fs gs left ∧ gs.length + cnt ≤ fs.length ∧ Below w0.heap.size w0 wr ∧
    wr.heap[w0.heap.size]? = some (.cells #[.int .i64 rm, .int .i64 (tot fs), .map (some (w0.heap.size + 1)), .int .i64 cl, .int .i64 cb] 107 (0, 0)) ∧ w0.heap.size + 3 ≤ wr.heap.size
theorem Tw.cell {w0 wr : World} {b rm : Nat} {cl cb : Int} {fs gs : List Fl} {left : Lit → Bool} {cnt : Nat} (h : Tw w0 wr b rm cl cb fs left cnt gs) : wr.cell? ⟨w0.heap.size, 2, none⟩ = some (.map (some (w0.heap.size + 1))) := (cell_of h.2.2.2.2.1).trans rfl
theorem Tw.next {w0 wr w1 : World} {d b rm : Nat} {cl cb : Int} {fs gs : List Fl} {left : Lit → Bool} {cnt cnt1 : Nat} {f : Fl} (h0 : Dk w0 d (some b) rm cl cb fs) (hm : fs.length ≤ 65536) (h : Tw w0 wr b rm cl cb fs left cnt gs)
    (hrg : w1.ranges Try.prog 9 RP b (w0.heap.size + 2) fs.length (dm fs) (fun z => left z && !z.sameKey (kl f.nm)) cnt1) (hlt : cnt1 < cnt) (hg : wr.grownBy w1 (some (w0.heap.size + 2))) (hf : f ∈ fs) (hl : left (kl f.nm) = true) :
    w1.cell? ⟨w0.heap.size, 2, none⟩ = some (.map (some (w0.heap.size + 1))) ∧ Calls Try.prog 72 #[.pointer (some ⟨f.bk, 0, none⟩)] w1.drew fun e w' => ∃ p, e = .returned (.pointer (some ⟨p, 0, none⟩)) ∧ w'.cell? ⟨w0.heap.size, 2, none⟩ = some (.map (some (w0.heap.size + 1))) ∧
      ∃ w4, (Instr.mapUpdate 103 (.map (some (w0.heap.size + 1))) (.string f.nm) (.pointer (some ⟨p, 0, none⟩))).run Try.prog w' = .ok () w4 ∧ ∃ gs', Tw w0 w4 b rm cl cb fs (fun z => left z && !z.sameKey (kl f.nm)) cnt1 gs' := by
  obtain ⟨r1, r2, r3, r4, r5, r6⟩ := h
  have hc1 : Ch (fun i => i = w0.heap.size + 2) wr w1 := ⟨hg.os, hg.tape, hg.output, hg.size, fun k hk hs => hg.block k hk (fun e => hs (by injection e))⟩
  have p1 : Par (w0.heap.size + 3) w1 (w0.heap.size + 1) fs gs left := r2.ch hc1 (by omega) (fun i hi e => by omega)
  have bl1 : Below w0.heap.size w0 w1 := ⟨hc1.os.trans r4.os, hc1.tape.trans r4.tape, hc1.output.trans r4.output, Nat.le_trans r4.size hc1.size, fun k hk => (hc1.block k (by omega) (by omega)).trans (r4.block k hk)⟩
  have k1 := (hc1.block w0.heap.size (by omega) (by omega)).trans r5
  have z1 := Nat.le_trans r6 hc1.size
  have hbl : b < w0.heap.size := Ft.lt h0 (Or.inr (Or.inl rfl))
  refine ⟨(cell_of k1).trans rfl, ?_⟩
  have hF : FA w1.drew f := (h0.fil f hf).ch (((Ch.of_below bl1 : Ch (fun _ => False) w0 w1)).drew) (fun e => e) (fun _ _ e => e)
  refine (fclone_any f w1.drew hF (h0.lng f hf).2.1).mono ?_
  rintro e w' ⟨p, v, rfl, hp, hF', hv, hb⟩
  have hb' : Ch (fun _ => False) w1 w' := (Ch.refl _ w1).drew.trans (Ch.of_below hb)
  have hp' : w1.heap.size ≤ p := hp
  have hv' : ∀ i, v.ownBlock = some i → w1.heap.size ≤ i := hv
  have p2 := p1.ch hb' (fun e => e) (fun _ _ e => e)
  have k2 := (hb'.block w0.heap.size (by omega) (fun e => e)).trans k1
  refine ⟨p, rfl, (cell_of k2).trans rfl, ?_⟩
  obtain ⟨w4, hr, ho, hg4⟩ := p2.own.update klaw Try.underMap (by unfold maxLen; omega) (keyS (h0.lng f hf).1) (RP_some p)
  have hc4 : Ch (fun i => i = w0.heap.size + 1) w' w4 := ⟨hg4.os, hg4.tape, hg4.output, hg4.size, fun k hk hs => hg4.block k hk (fun e => hs (by injection e))⟩
  have hc5 : Ch (fun i => i = w0.heap.size + 1) w1 w4 := (hb'.mono (fun _ _ e => e.elim)).trans hc4
  refine ⟨w4, hr, _, ranges_ch hrg (hc5.block b (by omega) (by omega)) (hc5.block (w0.heap.size + 2) (by omega) (by omega)), p1.step (by omega) hf hl hc5 hp' hv' z1 (hF'.ch hc4 (fun e => ?_) (fun i hi e => ?_)) ho, ?_, ?_, ?_, ?_⟩
  · have e' : p = w0.heap.size + 1 := e
    omega
  · have := hv' i hi
    omega
  · rw [(insF_perm _ gs).length_eq]
    simp only [List.length_cons]
    omega
  · exact ⟨hc5.os.trans bl1.os, hc5.tape.trans bl1.tape, hc5.output.trans bl1.output, Nat.le_trans bl1.size hc5.size, fun k hk => (hc5.block k (by omega) (by omega)).trans (bl1.block k hk)⟩
  · exact (hc5.block w0.heap.size (by omega) (by omega)).trans k1
  · exact Nat.le_trans z1 hc5.size
theorem tot_vw (fs : List Fl) : tot fs = ((vw fs).map (fun x => x.2.1.length)).sum := by
  unfold tot vw
  rw [List.map_map]
  rfl
/-- What the clone is, at the loop's end. -/
theorem Tw.done {w0 wr : World} {d b rm : Nat} {cl cb : Int} {fs gs : List Fl} {left : Lit → Bool} {cnt : Nat} (h0 : Dk w0 d (some b) rm cl cb fs) (h : Tw w0 wr b rm cl cb fs left cnt gs) (hl : ∀ z, left z = false) :
    Dk wr w0.heap.size (some (w0.heap.size + 1)) rm cl cb gs ∧ vw gs = vw fs ∧ (∀ i, Ft w0.heap.size (some (w0.heap.size + 1)) gs i → w0.heap.size ≤ i) ∧ Below w0.heap.size w0 wr := by
  obtain ⟨r1, r2, r3, r4, r5, r6⟩ := h
  have hv := r2.view h0.nms hl
  have ht : tot gs = tot fs := by rw [tot_vw, tot_vw, hv]
  refine ⟨⟨by rw [ht]; exact r5, r2.own, r2.fil, r2.apt, r2.nms, fun g hg => ?_, by rw [ht]; exact h0.rom⟩, hv, ?_, r4⟩
  · obtain ⟨f, hf, e1, e2, e3⟩ := (r2.frm g hg).2
    rw [e1, e2, e3]
    exact h0.lng f hf
  · rintro i (rfl | e | ⟨g, hg, rfl | e⟩)
    · exact Nat.le_refl _
    · injection e with e; omega
    · have := (r2.low g hg).1; omega
    · have := (r2.low g hg).2 i e; omega
end Go.Proofs.Ythjbhfhdepepmaa
