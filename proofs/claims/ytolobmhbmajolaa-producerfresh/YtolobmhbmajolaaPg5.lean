/- A book's clone; forgetting where there is no map. -/
import Derived.Test.YtolobmhbmajolaaPg4
import Derived.Sort.MapsRangeIn
namespace Go.Proofs.Ytolobmhbmajolaa
open Go.RowKit Go.Maps
theorem run_makeMap_hint (t k e : TypeId) (q : IntKind) (n : Int) (w : World) (hu : Try.prog.underlying t = some (.map k e)) : (Instr.makeMap t (some (.int q n))).run Try.prog w = .ok (.map (some w.heap.size)) (w.alloc (.map #[] 0)) := by
  simp [Instr.makeMap, run_underlying hu, asInt, asIntOf, Result.andThen]
structure Par (s : Nat) (w : World) (c : Nat) (fs gs : List Tl) (left : Lit → Bool) : Prop where
  own : w.ownsMap Try.prog 2 RP c gs.length (dm gs)
  til : ∀ g ∈ gs, TA w g.bk g.ns
  apt : gs.Pairwise (fun f g => f.bk ≠ g.bk)
  ids : gs.Pairwise (fun f g => f.id < g.id)
  low : ∀ g ∈ gs, s ≤ g.bk
  frm : ∀ g ∈ gs, left (kl g.id) = false ∧ ∃ f ∈ fs, g.id = f.id ∧ g.ns = f.ns
  all : ∀ f ∈ fs, left (kl f.id) = false → ∃ g ∈ gs, g.id = f.id
theorem Par.ch {S : Nat → Prop} {s c : Nat} {w w' : World} {fs gs : List Tl} {left : Lit → Bool} (h : Par s w c fs gs left) (hc : Ch S w w') (h1 : ¬ S c) (h2 : ∀ i, s ≤ i → ¬ S i) : Par s w' c fs gs left where
  own := map_ch (m := some c) h.own hc (fun i e => by cases e; exact h1)
  til := fun g hg => (h.til g hg).at (hc.block _ (h.til g hg).lt (h2 _ (h.low g hg)))
  apt := h.apt
  ids := h.ids
  low := h.low
  frm := h.frm
  all := h.all
theorem Par.step {s c : Nat} {w w' : World} {fs gs : List Tl} {left : Lit → Bool} {f : Tl} {p : Nat} (h : Par s w c fs gs left) (hcs : c < s) (hf : f ∈ fs) (hl : left (kl f.id) = true)
    (hc : Ch (fun i => i = c) w w') (hp : w.heap.size ≤ p) (hs : s ≤ w.heap.size) (hF : TA w' p f.ns)
    (ho : w'.ownsMap Try.prog 2 RP c (gs.length + 1) ((dm gs).put (kl f.id) (.lit (.int .i64 p)))) : Par s w' c fs (insF ⟨f.id, p, f.ns⟩ gs) (stk left f.id) := by
  obtain ⟨g, hg⟩ : ∃ g : Tl, g = ⟨f.id, p, f.ns⟩ := ⟨_, rfl⟩
  rw [← hg]
  have e1 : g.id = f.id := by rw [hg]
  have e2 : g.bk = p := by rw [hg]
  have e3 : g.ns = f.ns := by rw [hg]
  clear hg
  have hne : ∀ x ∈ gs, x.id ≠ g.id := fun x hx e => by
    have := (h.frm x hx).1
    rw [e, e1, hl] at this
    cases this
  have hlt : ∀ x ∈ gs, x.bk < w.heap.size := fun x hx => (h.til x hx).lt
  refine ⟨?_, ?_, ?_, insF_rise h.ids hne, ?_, ?_, ?_⟩
  · rw [← e1, ← e2, dm_put hne] at ho
    exact own_tight ho
  · intro x hx
    rcases insF_mem.1 hx with rfl | hx
    · rw [e2, e3]; exact hF
    · exact (h.til x hx).at (hc.block _ (hlt x hx) (fun e => by have := h.low x hx; omega))
  · refine insF_pair h.apt (fun x hx => ?_) (fun x hx => ?_)
    · have := hlt x hx; omega
    · have := hlt x hx; omega
  · intro x hx
    rcases insF_mem.1 hx with rfl | hx
    · omega
    · exact h.low x hx
  · intro x hx
    rcases insF_mem.1 hx with rfl | hx
    · exact ⟨by rw [e1]; exact stk_eq, f, hf, e1, e3⟩
    · refine ⟨?_, (h.frm x hx).2⟩
      show (left (kl x.id) && _) = false
      rw [(h.frm x hx).1, Bool.false_and]
  · intro x hx hlx
    by_cases e : x.id = f.id
    · exact ⟨g, insF_mem.2 (Or.inl rfl), e1.trans e.symm⟩
    · rw [stk_ne e] at hlx
      obtain ⟨y, hy, hyn⟩ := h.all x hx hlx
      exact ⟨y, insF_mem.2 (Or.inr hy), hyn⟩
def Tw (w0 wr : World) (mb : Nat) (fs : List Tl) (left : Lit → Bool) (cnt : Nat) (gs : List Tl) : Prop :=
  wr.ranges Try.prog 2 RP mb (w0.heap.size + 1) fs.length (dm fs) left cnt ∧ Par (w0.heap.size + 2) wr w0.heap.size fs gs left ∧ gs.length + cnt ≤ fs.length ∧ Below w0.heap.size w0 wr ∧ w0.heap.size + 2 ≤ wr.heap.size
theorem Tw.next {w0 wr w1 : World} {b mb : Nat} {fs gs : List Tl} {left : Lit → Bool} {cnt cnt1 : Nat} {f : Tl} (h0 : Bk w0 b (some mb) fs) (hm : fs.length < 4611686018427387904) (h : Tw w0 wr mb fs left cnt gs)
    (hrg : w1.ranges Try.prog 2 RP mb (w0.heap.size + 1) fs.length (dm fs) (stk left f.id) cnt1) (hlt : cnt1 < cnt) (hg : wr.grownBy w1 (some (w0.heap.size + 1))) (hf : f ∈ fs) (hl : left (kl f.id) = true) (hkey : keyOf Try.prog 2 (.int .i64 f.id) = some (kl f.id)) :
    ∃ (n : Nat) (a0 a1 a2 a3 a4 : Nt), w1.heap[f.bk]? = some (.cells (tc n a0 a1 a2 a3 a4) 71 (0, 0)) ∧
      ∃ w4, (Instr.mapUpdate 58 (.map (some w0.heap.size)) (.int .i64 f.id) (.pointer (some ⟨w1.heap.size, 0, none⟩))).run Try.prog (w1.alloc (.cells (tc n a0 a1 a2 a3 a4) 71)) = .ok () w4 ∧ ∃ gs', Tw w0 w4 mb fs (stk left f.id) cnt1 gs' := by
  obtain ⟨r1, r2, r3, r4, r5⟩ := h
  have hc1 : Ch (fun i => i = w0.heap.size + 1) wr w1 := ⟨hg.os, hg.tape, hg.output, hg.size, fun k hk hs => hg.block k hk (fun e => hs (by injection e))⟩
  have p1 : Par (w0.heap.size + 2) w1 w0.heap.size fs gs left := r2.ch hc1 (by omega) (fun i hi e => by omega)
  have bl1 : Below w0.heap.size w0 w1 := ⟨hc1.os.trans r4.os, hc1.tape.trans r4.tape, hc1.output.trans r4.output, Nat.le_trans r4.size hc1.size, fun k hk => (hc1.block k (by omega) (by omega)).trans (r4.block k hk)⟩
  have z1 := Nat.le_trans r5 hc1.size
  have hbl : mb < w0.heap.size := Ft.lt h0 (Or.inr (Or.inl rfl))
  have hF : TA w1 f.bk f.ns := (h0.til f hf).at (bl1.block _ (h0.til f hf).lt)
  obtain ⟨a0, a1, a2, a3, a4, g1, g2, g3⟩ := hF
  refine ⟨f.ns.length, a0, a1, a2, a3, a4, g3, ?_⟩
  have hb' : Ch (fun _ => False) w1 (w1.alloc (.cells (tc f.ns.length a0 a1 a2 a3 a4) 71)) := (Ch.refl _ w1).alloc _
  have hF' : TA (w1.alloc (.cells (tc f.ns.length a0 a1 a2 a3 a4) 71)) w1.heap.size f.ns := ⟨a0, a1, a2, a3, a4, g1, g2, heap_new _ _⟩
  have p2 := p1.ch hb' (fun e => e) (fun _ _ e => e)
  obtain ⟨w4, hr, ho, hg4⟩ := p2.own.update klaw Try.underMap (by unfold maxLen; omega) hkey (RP_some w1.heap.size)
  have hc4 : Ch (fun i => i = w0.heap.size) (w1.alloc (.cells (tc f.ns.length a0 a1 a2 a3 a4) 71)) w4 := ⟨hg4.os, hg4.tape, hg4.output, hg4.size, fun k hk hs => hg4.block k hk (fun e => hs (by injection e))⟩
  have hc5 : Ch (fun i => i = w0.heap.size) w1 w4 := (hb'.mono (fun _ _ e => e.elim)).trans hc4
  refine ⟨w4, hr, _, ranges_ch hrg (hc5.block mb (by omega) (by omega)) (hc5.block (w0.heap.size + 1) (by omega) (by omega)), p1.step (by omega) hf hl hc5 (Nat.le_refl _) z1 (hF'.at (hc4.block _ (by simp) (by omega))) ho, ?_, ?_, ?_⟩
  · rw [(insF_perm _ gs).length_eq]
    simp only [List.length_cons]
    omega
  · exact ⟨hc5.os.trans bl1.os, hc5.tape.trans bl1.tape, hc5.output.trans bl1.output, Nat.le_trans bl1.size hc5.size, fun k hk => (hc5.block k (by omega) (by omega)).trans (bl1.block k hk)⟩
  · exact Nat.le_trans z1 hc5.size
theorem Par.fv {s c : Nat} {w : World} {fs gs : List Tl} {left : Lit → Bool} (h : Par s w c fs gs left) (hids : fs.Pairwise (fun f g => f.id < g.id)) (hl : ∀ z, left z = false) (q : Int) : fv gs q = fv fs q := by
  cases hq : look q fs with
  | none =>
    rw [fv_no hq]
    refine fv_no (List.find?_eq_none.2 fun g hg => ?_)
    obtain ⟨_, f, hf, e, _⟩ := h.frm g hg
    have := look_no hq f hf
    rw [e]
    simpa using this
  | some f =>
    obtain ⟨hf, rfl⟩ := look_mem hq
    rw [fv_of hq]
    obtain ⟨g, hg, e⟩ := h.all f hf (hl _)
    obtain ⟨_, f', hf', e1, e2⟩ := h.frm g hg
    have h1 := look_of hids hf'
    rw [← e1, e, hq] at h1
    injection h1 with h1
    have h2 := look_of h.ids hg
    rw [e] at h2
    rw [fv_of h2, e2, h1]
/-- What a clone is. -/
def Cl (w : World) (fs : List Tl) (e : Ending) (w' : World) : Prop := ∃ b m gs, e = .returned (.pointer (some ⟨b, 0, none⟩)) ∧ Bk w' b m gs ∧ (∀ q, fv gs q = fv fs q) ∧ gs.length ≤ fs.length ∧ Below w.heap.size w w' ∧ ∀ i, Ft b m gs i → w.heap.size ≤ i
theorem Tw.done {w0 wr : World} {b mb : Nat} {fs gs : List Tl} {left : Lit → Bool} {cnt : Nat} (h0 : Bk w0 b (some mb) fs) (h : Tw w0 wr mb fs left cnt gs) (hl : ∀ z, left z = false) :
    Cl w0 fs (.returned (.pointer (some ⟨wr.heap.size, 0, none⟩))) (wr.alloc (.cells #[.map (some w0.heap.size)] 60)) := by
  obtain ⟨r1, r2, r3, r4, r5⟩ := h
  refine ⟨wr.heap.size, some w0.heap.size, gs, rfl, ⟨heap_new _ _, ?_, fun g hg => (r2.til g hg).at (Below.heap_alloc _ _ _ (r2.til g hg).lt), r2.apt, r2.ids, fun g hg => ?_⟩, fun q => r2.fv h0.ids hl q, by omega, r4.alloc (by omega) _, ?_⟩
  · exact map_ch (m := some w0.heap.size) r2.own ((Ch.refl (fun _ => False) wr).alloc _) (fun _ _ e => e)
  · obtain ⟨_, f, hf, e1, e2⟩ := r2.frm g hg
    rw [e1, e2]
    exact h0.ok f hf
  · rintro i (rfl | e | ⟨g, hg, rfl⟩)
    · omega
    · injection e with e; omega
    · have := r2.low g hg; omega
set_option maxHeartbeats 2000000 in
set_option maxRecDepth 20000 in
theorem bclone_some (b mb : Nat) (fs : List Tl) (hn : fs.length < 4611686018427387904) (w : World) (h : Bk w b (some mb) fs) :
    Calls Try.prog 11 #[.pointer (some ⟨b, 0, none⟩)] w (Cl w fs) := by
  have c2 : w.cell? ⟨b, 0, none⟩ = some (.map (some mb)) := (cell_of h.blk).trans rfl
  have hL := len_dm h.map w rfl 3
  obtain ⟨wB, hwB⟩ : ∃ wB, w.alloc (.map #[] 0) = wB := ⟨_, rfl⟩
  have hB : Bk wB b (some mb) fs := by rw [← hwB]; exact h.ch ((Ch.refl (fun _ => False) w).alloc _) (fun _ _ e => e)
  have d2 : wB.cell? ⟨b, 0, none⟩ = some (.map (some mb)) := (cell_of hB.blk).trans rfl
  have hZ : wB.heap.size = w.heap.size + 1 := by rw [← hwB]; simp
  have HT : Hid (∀ w1, wB.grownBy w1 none → w1.heap.size = wB.heap.size + 1 → w1.ranges Try.prog 2 RP mb wB.heap.size fs.length (dm fs) (Maps.has (dm fs)) (Maps.size (dm fs)) → Tw w w1 mb fs (Maps.has (dm fs)) (Maps.size (dm fs)) []) := by
    intro w1 hg hs hr
    rw [hZ] at hr hs
    have hc : Ch (fun _ => False) wB w1 := ⟨hg.os, hg.tape, hg.output, hg.size, fun k hk _ => hg.block k hk (by simp)⟩
    have hcw : Ch (fun _ => False) w wB := by rw [← hwB]; exact (Ch.refl (fun _ => False) w).alloc _
    refine ⟨hr, ⟨?_, by simp, by simp, by simp, by simp, by simp, ?_⟩, ?_, (hcw.trans hc).below (Nat.le_refl _) (fun _ _ e => e), by omega⟩
    · refine map_ch (m := some w.heap.size) (fs := []) ?_ hc (fun _ _ e => e)
      show wB.ownsMap Try.prog 2 RP w.heap.size 0 (.map [])
      rw [← hwB]
      exact World.ownsMap_made w Try.prog 2 RP
    · intro f hf hno
      exfalso
      have : Maps.has (dm fs) (kl f.id) = true := List.any_eq_true.2 ⟨ent f, List.mem_map.2 ⟨f, hf, rfl⟩, by rw [same_id]; simp⟩
      rw [this] at hno
      cases hno
    · simp [Maps.size, dm]
  have hown := Hid.mk (show wB.ownsMap Try.prog 2 RP mb fs.length (dm fs) from hB.map)
  have HM := fun n w => run_makeMap_hint 58 _ _ .i64 n w Try.underMap
  have HD := Hid.mk h
  have HN := Hid.mk hn
  have HZ := Hid.mk hZ
  clear h hn hB hZ
  go_enter Try.func11, Try.ntmps11
  go_wp2_with (first
    | (at_range; refine wpList_range_own _ rfl _ 58 rfl 2 66 klaw Try.underMap _ mb fs.length _ rfl hown.out ?_; intro w1 hrg0 hg0 hs0)
    | go_in)
  go_frame
  have t0 := Hid.mk (HT.out w1 hg0 hs0 hrg0)
  rw [HZ.out]
  clear hrg0 hg0 hs0 HT hown hwB d2 HZ hL c2
  go_loopw [4] (fun _ wr => ∃ (left : Lit → Bool) (cnt : Nat) (gs : List Tl), Hid (Tw w wr mb fs left cnt gs)) (fun _ wr => wr.rangeLeft mb (w.heap.size + 1))
  case atStart => exact ⟨_, _, _, t0⟩
  case round =>
    clear t0
    obtain ⟨left, cnt, gs, ht⟩ := hrel
    have hrg := ht.out.1
    go_wp2_with (first
      | (at_next; refine wpList_next_ranges _ rfl _ rfl 2 klaw RP (fun x : Int => Value.int .i64 x) Value.pointer (fun key kl hkey => by obtain ⟨x, e, _⟩ := Maps.keyOf_int_inv Try.under2 hkey; exact ⟨x, e⟩) RP_ptr mb (w.heap.size + 1) fs.length _ _ _ rfl hrg ?_ ?_)
      | go_in)
    · intro hc0 hl0
      have HE := Hid.mk (Tw.done HD.out ht.out hl0)
      clear hrg
      go_wp2
      go_ret
      exact HE.out
    · intro x c k y1 y2 w2 cnt1 hkey hlk hR hat hrg1 hlt hg1 hs1 hen
      obtain rfl := key_is hkey
      obtain ⟨f, hf, rfl, rfl⟩ := ent_is (y := (y1, y2)) hR hat
      obtain ⟨n, a0, a1, a2, a3, a4, hblk, w4, hup, gs', ht'⟩ := Tw.next HD.out HN.out ht.out hrg1 hlt hg1 hf hlk hkey
      obtain ⟨d0, d1, d2, d3, d4, d5, d6, d7, d8, d9, d10, d11, d12, d13, d14, d15⟩ := cells16 hblk
      have HG := Hid.mk hrg
      have HLT := Hid.mk hlt
      have HQ := Hid.mk ht'
      clear ht hrg hkey hlk hR hat hrg1 hlt hg1 hs1 hf hblk ht'
      go_wp2
      go_roundw
      case rel => exact ⟨_, _, _, HQ⟩
      case measure => rw [HQ.out.1.left_eq, HG.out.left_eq]; exact HLT.out
end Go.Proofs.Ytolobmhbmajolaa
