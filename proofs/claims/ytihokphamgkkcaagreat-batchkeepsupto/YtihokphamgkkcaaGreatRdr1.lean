/- The record's reader: what failed, what is refused, sums of times; rows of headers of a call's own. -/
import Derived.Test.YtihokphamgkkcaaGreatSz
import Derived.Test.YtihokphamgkkcaaGreatRmA
import Derived.Test.YtihokphamgkkcaaGreatRmD
import Derived.Test.YtihokphamgkkcaaGreatRmE
import Derived.Test.YtihokphamgkkcaaGreatRmF
import Derived.Laws.AppendOwnNone
import Derived.Laws.MakeOwn
namespace Go.Proofs.YtihokphamgkkcaaGreat
open Go.RowKit
/-- A record's reader: what it reads of, and its own fault. -/
def RR (w : World) (q pb f : Nat) : Prop := w.heap[q]? = some (.cells #[.pointer (some ⟨pb, 0, none⟩), .int .i64 f] 119 (0, 0))
theorem RR.c0 {w : World} {q pb f : Nat} (h : RR w q pb f) : w.cell? ⟨q, 0, none⟩ = some (.pointer (some ⟨pb, 0, none⟩)) := (cell_of h).trans rfl
theorem RR.c1 {w : World} {q pb f : Nat} (h : RR w q pb f) : w.cell? ⟨q, 1, none⟩ = some (.int .i64 f) := (cell_of h).trans rfl
theorem RR.lt {w : World} {q pb f : Nat} (h : RR w q pb f) : q < w.heap.size := lt_of_heap h
theorem RR.ch {S : Nat → Prop} {w w' : World} {q pb f : Nat} (h : RR w q pb f) (hc : Ch S w w') (hS : ¬ S q) : RR w' q pb f := (hc.block q h.lt hS).trans h
/-- The first thing that was wrong. -/
def fl (f e : Nat) : Nat := if f ≠ 0 then f else e
/-- A fault is kept unless something was wrong ahead of it. -/
def rf (b : Bool) (why f e : Nat) : Nat := if b = true ∧ fl f e = 0 then why else f
theorem failed_any (q pb f : Nat) (s : ByteArray) (k e : Nat) (w : World) (h : RR w q pb f) (hr : Rd w pb s k e) :
    Calls Tryz.prog 117 #[.pointer (some ⟨q, 0, none⟩)] w fun r w' => r = .returned (.int .i64 (fl f e)) ∧ w' = w := by
  have c0 := h.c0
  have c1 := h.c1
  by_cases hf : f = 0
  · subst hf
    have e1 : fl 0 e = e := rfl
    rw [e1]
    have CE := hid (rerr_any pb s k e w hr)
    clear e1 h hr
    go_enter Tryz.func117, Tryz.ntmps117
    go_wp2_with (go_at_call 166; refine CE.out.mono ?_; rintro e w' ⟨rfl, rfl⟩)
    go_ret
    exact ⟨rfl, rfl⟩
  · have e1 : fl f e = f := by unfold fl; rw [if_pos hf]
    rw [e1]
    have hne : ((f : Int) != 0) = true := by rw [bne_iff_ne]; omega
    clear e1 h hr hf
    go_enter Tryz.func117, Tryz.ntmps117
    go_wp2
    go_ret
    exact ⟨rfl, rfl⟩
/-- What a step of the record's reader leaves: the reader below it as it was, its own fault. -/
def Ref (q pb : Nat) (s : ByteArray) (k e f' : Nat) (w : World) (r : Ending) (w' : World) : Prop := r = .returned (.tuple #[]) ∧ RR w' q pb f' ∧ Rd w' pb s k e ∧ Ch (fun i => i = q) w w'
set_option maxHeartbeats 1000000 in
theorem refuse_any (q pb f : Nat) (s : ByteArray) (k e why : Nat) (b : Bool) (w : World) (h : RR w q pb f) (hr : Rd w pb s k e) (hq : pb ≠ q) :
    Calls Tryz.prog 115 #[.pointer (some ⟨q, 0, none⟩), .bool b, .int .i64 why] w (Ref q pb s k e (rf b why f e) w) := by
  have hfz := froz_of (i := 1) h
  have c1 := h.c1
  cases b with
  | false =>
    have e1 : rf false why f e = f := by unfold rf; rw [if_neg (by simp)]
    rw [e1]
    go_enter Tryz.func115, Tryz.ntmps115
    go_wp2
    go_end0
    exact ⟨rfl, h, hr, Ch.refl _ _⟩
  | true =>
    have CE := hid (failed_any q pb f s k e w h hr)
    have H := hid h
    have HR := hid hr
    by_cases hz : fl f e = 0
    · have e1 : rf true why f e = why := by unfold rf; rw [if_pos ⟨rfl, hz⟩]
      rw [e1]
      rw [hz] at CE
      clear h hr e1 hz
      go_enter Tryz.func115, Tryz.ntmps115
      go_wp2_with (go_at_call 117; refine CE.out.mono ?_; rintro e w' ⟨rfl, rfl⟩)
      go_end0
      exact ⟨rfl, heap_set H.out, HR.out.far _ hq, (Ch.refl _ _).setCell _ _ (fun _ => rfl)⟩
    · have e1 : rf true why f e = f := by unfold rf; rw [if_neg (fun h => hz h.2)]
      rw [e1]
      have hne : (((fl f e : Nat) : Int) == 0) = false := by rw [beq_eq_false_iff_ne]; omega
      generalize fl f e = FE at *
      clear h hr e1 hz
      go_enter Tryz.func115, Tryz.ntmps115
      go_wp2_with (go_at_call 117; refine CE.out.mono ?_; rintro e w' ⟨rfl, rfl⟩)
      go_end0
      exact ⟨rfl, H.out, HR.out, Ch.refl _ _⟩
theorem sum_any (t f : Int) (w : World) (ht : I64 t) (hf : I64 f) : Calls Tryz.prog 163 #[.int .i64 t, .int .i64 f] w fun e w' => e = .returned (.tuple #[.int .i64 (wrap64 (t + f)), .bool (decide (I64 (t + f)))]) ∧ w' = w := by
  have e : ((decide (t ≤ wrap64 (t + f))) == (decide (0 ≤ f))) = decide (I64 (t + f)) := by
    obtain ⟨ht1, ht2⟩ := ht
    obtain ⟨hf1, hf2⟩ := hf
    by_cases h : 0 ≤ f
    · rw [decide_eq_true h]
      by_cases h2 : t + f ≤ 9223372036854775807
      · rw [decide_eq_true (show t ≤ wrap64 (t + f) by unfold wrap64; omega), decide_eq_true (show I64 (t + f) from ⟨by omega, h2⟩)]; rfl
      · rw [decide_eq_false (show ¬ t ≤ wrap64 (t + f) by unfold wrap64; omega), decide_eq_false (show ¬ I64 (t + f) from fun h => h2 h.2)]; rfl
    · rw [decide_eq_false h]
      by_cases h2 : -9223372036854775808 ≤ t + f
      · rw [decide_eq_false (show ¬ t ≤ wrap64 (t + f) by unfold wrap64; omega), decide_eq_true (show I64 (t + f) from ⟨h2, by omega⟩)]; rfl
      · rw [decide_eq_true (show t ≤ wrap64 (t + f) by unfold wrap64; omega), decide_eq_false (show ¬ I64 (t + f) from fun h => h2 h.1)]; rfl
  have HE := hid e
  clear e
  go_enter Tryz.func163, Tryz.ntmps163
  go_wp2
  refine bodyPost_ret (v := .tuple #[.int .i64 (wrap64 (t + f)), .bool ((decide (t ≤ wrap64 (t + f))) == (decide (0 ≤ f)))]) (by simp [results, Tryz.results163, go_sem]) rfl ⟨by rw [HE.out], rfl⟩
def hc1 (r : Hdr) : List Value := [.string r.1, .bool r.2.1, .string r.2.2]
def hcs (rs : List Hdr) : List Value := rs.flatMap hc1
theorem hcs_len (rs : List Hdr) : (hcs rs).length = rs.length * 3 := by
  induction rs with
  | nil => rfl
  | cons r rs ih => simp only [hcs, List.flatMap_cons, List.length_append] at *; rw [ih]; simp [hc1]; omega
theorem hcs_app (a b : List Hdr) : hcs (a ++ b) = hcs a ++ hcs b := by simp [hcs]
theorem hcs_one (rs : List Hdr) : ∀ u ∈ hcs rs, u.oneCell' = true := by
  intro u hu
  simp only [hcs, List.mem_flatMap] at hu
  obtain ⟨r, _, h⟩ := hu
  simp only [hc1, List.mem_cons, List.not_mem_nil, or_false] at h
  rcases h with rfl | rfl | rfl <;> rfl
theorem hcs_at (rs : List Hdr) : ∀ j, j < rs.length → (hcs rs)[j * 3]? = some (.string (rs.getD j df).1) ∧ (hcs rs)[j * 3 + 1]? = some (.bool (rs.getD j df).2.1) ∧ (hcs rs)[j * 3 + 2]? = some (.string (rs.getD j df).2.2) := by
  induction rs with
  | nil => intro j hj; simp at hj
  | cons r rs ih =>
    intro j hj
    have e : hcs (r :: rs) = hc1 r ++ hcs rs := rfl
    cases j with
    | zero => rw [e]; exact ⟨rfl, rfl, rfl⟩
    | succ j =>
      have h := ih j (by simpa using hj)
      rw [e]
      have e3 : (hc1 r).length = 3 := rfl
      refine ⟨?_, ?_, ?_⟩
      · rw [List.getElem?_append_right (by omega), e3, show (j + 1) * 3 - 3 = j * 3 from by omega]; exact h.1
      · rw [List.getElem?_append_right (by omega), e3, show (j + 1) * 3 + 1 - 3 = j * 3 + 1 from by omega]; exact h.2.1
      · rw [List.getElem?_append_right (by omega), e3, show (j + 1) * 3 + 2 - 3 = j * 3 + 2 from by omega]; exact h.2.2
/-- A row of headers of the call's own, from B on. -/
def OwnH (w : World) (B : Nat) (v : Value) (rs : List Hdr) : Prop := w.ownsRow B 51 3 v rs.length (hcs rs)
theorem OwnH.slice {w : World} {B : Nat} {v : Value} {rs : List Hdr} (h : OwnH w B v rs) : ∃ a cap, v = .slice a rs.length cap ∧ (a = none → v = .slice none 0 0 ∧ rs.length = 0) ∧ Hds w a rs := by
  have hlt := World.ownsRow.lt h
  have hcell := fun (g : Nat) (hg : v.ownBlock = some g) => World.ownsRow.cells h hg
  obtain ⟨hl, h⟩ := h
  rcases h with ⟨rfl, h1⟩ | ⟨g, cap, cur, rfl, _⟩
  · exact ⟨none, 0, by rw [h1], fun _ => ⟨rfl, h1⟩, Or.inl (List.eq_nil_of_length_eq_zero h1)⟩
  · refine ⟨some ⟨g, 0, none⟩, cap, rfl, fun hh => (by cases hh), Or.inr ⟨g, 0, rfl, (hlt g rfl).2, fun j hj => ?_⟩⟩
    have hr := hcs_at rs j hj
    have e : ∀ i, (⟨g, 0, none⟩ : Addr).add i = ⟨g, 0 + i, none⟩ := fun i => Go.WideShapes.add_plain _ _ _
    refine ⟨?_, ?_, ?_⟩
    · have := hcell g rfl _ _ hr.1; rw [e] at this; exact this
    · have := hcell g rfl _ _ hr.2.1; rw [e] at this; exact this
    · have := hcell g rfl _ _ hr.2.2; rw [e] at this; exact this
theorem ownH_snoc {w : World} {B n : Nat} {v : Value} {rs : List Hdr} {r : Hdr} (h : w.ownsRow B 51 3 v (n + 1) (hcs rs ++ hc1 r)) (hn : rs.length = n) : OwnH w B v (rs ++ [r]) := by
  unfold OwnH
  rw [List.length_append, hn, hcs_app]
  have : hcs [r] = hc1 r := by simp [hcs]
  rw [this]
  exact h
theorem ownH_nil (w : World) (B : Nat) : OwnH w B (.slice none 0 0) [] := World.ownsRow_nil _ _ _ _
theorem Tryz.infoHdr : (Tryz.prog.info? 51).map (fun i => (i.zero, i.size, i.bytes)) = some (some (.agg #[.string ⟨#[]⟩, .bool false, .string ⟨#[]⟩]), 3, 40) := by kernel_rfl
theorem Tryz.underHdrs : Tryz.prog.underlying 47 = some (.slice 51) := by kernel_rfl
theorem cells_new (w : World) (xs : List Value) (t : TypeId) : ∀ j u, xs[j]? = some u → (w.alloc (.cells xs.toArray t)).cell? ((⟨w.heap.size, 0, none⟩ : Addr).add j) = some u := by
  intro j u hj
  have h := cell_of (i := j) (heap_new w (.cells xs.toArray t))
  have e : (⟨w.heap.size, 0, none⟩ : Addr).add j = ⟨w.heap.size, j, none⟩ := by
    by_cases h0 : j = 0
    · subst h0; simp [Addr.add]
    · simp [Addr.add, h0]
  rw [e, h]
  simpa using hj
theorem own_apart {w w' : World} {B n size : Nat} {e : TypeId} {v : Value} {l : List Value} (h : w.ownsRow B e size v n l) (hc : ∀ g, v.ownBlock = some g → w'.heap[g]? = w.heap[g]?) : w'.ownsRow B e size v n l := by
  obtain ⟨h1, h2⟩ := h
  refine ⟨h1, ?_⟩
  rcases h2 with h2 | ⟨g, cap, cur, rfl, hg, hh, r⟩
  · exact Or.inl h2
  · exact Or.inr ⟨g, cap, cur, rfl, hg, (hc g rfl).trans hh, r⟩
theorem own_ne {w : World} {B n size : Nat} {e T : TypeId} {v : Value} {l : List Value} {k : Nat} {c : Array Value} {fz : Nat × Nat} (h : w.ownsRow B e size v n l) (hk : w.heap[k]? = some (.cells c T fz)) (hT : T ≠ e) : v.ownBlock ≠ some k := by
  intro hv
  obtain ⟨h1, h2⟩ := h
  rcases h2 with ⟨rfl, h0⟩ | ⟨g, cap, cur, rfl, hg, hh, r⟩
  · cases hv
  · have e1 : g = k := by simpa [Value.ownBlock] using hv
    subst e1
    rw [hk] at hh
    injection hh with hh
    injection hh with h3 h4 h5
    exact hT h4
theorem cells_newN (w : World) (xs : List Value) (t : TypeId) (n : Nat) (h : w.heap.size = n) : ∀ j u, xs[j]? = some u → (w.alloc (.cells xs.toArray t)).cell? ((⟨n, 0, none⟩ : Addr).add j) = some u := by subst h; exact cells_new w xs t
theorem hc1_one (r : Hdr) : ∀ u ∈ hc1 r, u.oneCell' = true := fun u hu => hcs_one [r] u (by simpa [hcs] using hu)
end Go.Proofs.YtihokphamgkkcaaGreat
