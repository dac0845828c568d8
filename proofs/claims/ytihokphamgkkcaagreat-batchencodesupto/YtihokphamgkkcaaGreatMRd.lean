/- Texts of the proof, put together: Rdr1, Rdr2, RdS, Wrec, Rdr3, Rdr4, Rdr5. -/
import Derived.Test.YtihokphamgkkcaaGreatSz
import Derived.Test.YtihokphamgkkcaaGreatRmA
import Derived.Test.YtihokphamgkkcaaGreatRmD
import Derived.Test.YtihokphamgkkcaaGreatRmE
import Derived.Test.YtihokphamgkkcaaGreatRmF
import Derived.Laws.AppendOwnNone
import Derived.Laws.MakeOwn
namespace Go.Proofs.YtihokphamgkkcaaGreat
open Go.RowKit
/-- A record's reader: what it reads of, and its own fault. -/
def RR (w : World) (q pb f : Nat) : Prop := w.heap[q]? = some (.cells #[.pointer (some ⟨pb, 0, none⟩), .int .i64 f] 119 (0, 0))
theorem RR.c0 {w : World} {q pb f : Nat} (h : RR w q pb f) : w.cell? ⟨q, 0, none⟩ = some (.pointer (some ⟨pb, 0, none⟩)) := (cell_of h).trans rfl
theorem RR.c1 {w : World} {q pb f : Nat} (h : RR w q pb f) : w.cell? ⟨q, 1, none⟩ = some (.int .i64 f) := (cell_of h).trans rfl
theorem RR.lt {w : World} {q pb f : Nat} (h : RR w q pb f) : q < w.heap.size := lt_of_heap h
theorem RR.ch {S : Nat → Prop} {w w' : World} {q pb f : Nat} (h : RR w q pb f) (hc : Ch S w w') (hS : ¬ S q) : RR w' q pb f := (hc.block q h.lt hS).trans h
/-- The first thing that was wrong. -/
def fl (f e : Nat) : Nat := if f ≠ 0 then f else e
/-- A fault is kept unless something was wrong ahead of it. -/
def rf (b : Bool) (why f e : Nat) : Nat := if b = true ∧ fl f e = 0 then why else f
theorem failed_any (q pb f : Nat) (s : ByteArray) (k e : Nat) (w : World) (h : RR w q pb f) (hr : Rd w pb s k e) :
    Calls Tryz.prog 117 #[.pointer (some ⟨q, 0, none⟩)] w fun r w' => r = .returned (.int .i64 (fl f e)) ∧ w' = w := by
  have c0 := h.c0
  have c1 := h.c1
  by_cases hf : f = 0
  · subst hf
    have e1 : fl 0 e = e := rfl
    rw [e1]
    have CE := hid (rerr_any pb s k e w hr)
    clear e1 h hr
    go_enter Tryz.func117, Tryz.ntmps117
    go_wp2_with (go_at_call 166; refine CE.out.mono ?_; rintro e w' ⟨rfl, rfl⟩)
    go_ret
    exact ⟨rfl, rfl⟩
  · have e1 : fl f e = f := by unfold fl; rw [if_pos hf]
    rw [e1]
    have hne : ((f : Int) != 0) = true := by rw [bne_iff_ne]; omega
    clear e1 h hr hf
    go_enter Tryz.func117, Tryz.ntmps117
    go_wp2
    go_ret
    exact ⟨rfl, rfl⟩
/-- What a step of the record's reader leaves: the reader below it as it was, its own fault. -/
def Ref (q pb : Nat) (s : ByteArray) (k e f' : Nat) (w : World) (r : Ending) (w' : World) : Prop := r = .returned (.tuple #[]) ∧ RR w' q pb f' ∧ Rd w' pb s k e ∧ Ch (fun i => i = q) w w'
set_option maxHeartbeats 1000000 in
theorem refuse_any (q pb f : Nat) (s : ByteArray) (k e why : Nat) (b : Bool) (w : World) (h : RR w q pb f) (hr : Rd w pb s k e) (hq : pb ≠ q) :
    Calls Tryz.prog 115 #[.pointer (some ⟨q, 0, none⟩), .bool b, .int .i64 why] w (Ref q pb s k e (rf b why f e) w) := by
  have hfz := froz_of (i := 1) h
  have c1 := h.c1
  cases b with
  | false =>
    have e1 : rf false why f e = f := by unfold rf; rw [if_neg (by simp)]
    rw [e1]
    go_enter Tryz.func115, Tryz.ntmps115
    go_wp2
    go_end0
    exact ⟨rfl, h, hr, Ch.refl _ _⟩
  | true =>
    have CE := hid (failed_any q pb f s k e w h hr)
    have H := hid h
    have HR := hid hr
    by_cases hz : fl f e = 0
    · have e1 : rf true why f e = why := by unfold rf; rw [if_pos ⟨rfl, hz⟩]
      rw [e1]
      rw [hz] at CE
      clear h hr e1 hz
      go_enter Tryz.func115, Tryz.ntmps115
      go_wp2_with (go_at_call 117; refine CE.out.mono ?_; rintro e w' ⟨rfl, rfl⟩)
      go_end0
      exact ⟨rfl, heap_set H.out, HR.out.far _ hq, (Ch.refl _ _).setCell _ _ (fun _ => rfl)⟩
    · have e1 : rf true why f e = f := by unfold rf; rw [if_neg (fun h => hz h.2)]
      rw [e1]
      have hne : (((fl f e : Nat) : Int) == 0) = false := by rw [beq_eq_false_iff_ne]; omega
      generalize fl f e = FE at *
      clear h hr e1 hz
      go_enter Tryz.func115, Tryz.ntmps115
      go_wp2_with (go_at_call 117; refine CE.out.mono ?_; rintro e w' ⟨rfl, rfl⟩)
      go_end0
      exact ⟨rfl, H.out, HR.out, Ch.refl _ _⟩
theorem sum_any (t f : Int) (w : World) (ht : I64 t) (hf : I64 f) : Calls Tryz.prog 163 #[.int .i64 t, .int .i64 f] w fun e w' => e = .returned (.tuple #[.int .i64 (wrap64 (t + f)), .bool (decide (I64 (t + f)))]) ∧ w' = w := by
  have e : ((decide (t ≤ wrap64 (t + f))) == (decide (0 ≤ f))) = decide (I64 (t + f)) := by
    obtain ⟨ht1, ht2⟩ := ht
    obtain ⟨hf1, hf2⟩ := hf
    by_cases h : 0 ≤ f
    · rw [decide_eq_true h]
      by_cases h2 : t + f ≤ 9223372036854775807
      · rw [decide_eq_true (show t ≤ wrap64 (t + f) by unfold wrap64; omega), decide_eq_true (show I64 (t + f) from ⟨by omega, h2⟩)]; rfl
      · rw [decide_eq_false (show ¬ t ≤ wrap64 (t + f) by unfold wrap64; omega), decide_eq_false (show ¬ I64 (t + f) from fun h => h2 h.2)]; rfl
    · rw [decide_eq_false h]
      by_cases h2 : -9223372036854775808 ≤ t + f
      · rw [decide_eq_false (show ¬ t ≤ wrap64 (t + f) by unfold wrap64; omega), decide_eq_true (show I64 (t + f) from ⟨h2, by omega⟩)]; rfl
      · rw [decide_eq_true (show t ≤ wrap64 (t + f) by unfold wrap64; omega), decide_eq_false (show ¬ I64 (t + f) from fun h => h2 h.1)]; rfl
  have HE := hid e
  clear e
  go_enter Tryz.func163, Tryz.ntmps163
  go_wp2
  refine bodyPost_ret (v := .tuple #[.int .i64 (wrap64 (t + f)), .bool ((decide (t ≤ wrap64 (t + f))) == (decide (0 ≤ f)))]) (by simp [results, Tryz.results163, go_sem]) rfl ⟨by rw [HE.out], rfl⟩
def hc1 (r : Hdr) : List Value := [.string r.1, .bool r.2.1, .string r.2.2]
def hcs (rs : List Hdr) : List Value := rs.flatMap hc1
theorem hcs_len (rs : List Hdr) : (hcs rs).length = rs.length * 3 := by
  induction rs with
  | nil => rfl
  | cons r rs ih => simp only [hcs, List.flatMap_cons, List.length_append] at *; rw [ih]; simp [hc1]; omega
theorem hcs_app (a b : List Hdr) : hcs (a ++ b) = hcs a ++ hcs b := by simp [hcs]
theorem hcs_one (rs : List Hdr) : ∀ u ∈ hcs rs, u.oneCell' = true := by
  intro u hu
  simp only [hcs, List.mem_flatMap] at hu
  obtain ⟨r, _, h⟩ := hu
  simp only [hc1, List.mem_cons, List.not_mem_nil, or_false] at h
  rcases h with rfl | rfl | rfl <;> rfl
theorem hcs_at (rs : List Hdr) : ∀ j, j < rs.length → (hcs rs)[j * 3]? = some (.string (rs.getD j df).1) ∧ (hcs rs)[j * 3 + 1]? = some (.bool (rs.getD j df).2.1) ∧ (hcs rs)[j * 3 + 2]? = some (.string (rs.getD j df).2.2) := by
  induction rs with
  | nil => intro j hj; simp at hj
  | cons r rs ih =>
    intro j hj
    have e : hcs (r :: rs) = hc1 r ++ hcs rs := rfl
    cases j with
    | zero => rw [e]; exact ⟨rfl, rfl, rfl⟩
    | succ j =>
      have h := ih j (by simpa using hj)
      rw [e]
      have e3 : (hc1 r).length = 3 := rfl
      refine ⟨?_, ?_, ?_⟩
      · rw [List.getElem?_append_right (by omega), e3, show (j + 1) * 3 - 3 = j * 3 from by omega]; exact h.1
      · rw [List.getElem?_append_right (by omega), e3, show (j + 1) * 3 + 1 - 3 = j * 3 + 1 from by omega]; exact h.2.1
      · rw [List.getElem?_append_right (by omega), e3, show (j + 1) * 3 + 2 - 3 = j * 3 + 2 from by omega]; exact h.2.2
/-- A row of headers of the call's own, from B on. -/
def OwnH (w : World) (B : Nat) (v : Value) (rs : List Hdr) : Prop := w.ownsRow B 51 3 v rs.length (hcs rs)
theorem OwnH.slice {w : World} {B : Nat} {v : Value} {rs : List Hdr} (h : OwnH w B v rs) : ∃ a cap, v = .slice a rs.length cap ∧ (a = none → v = .slice none 0 0 ∧ rs.length = 0) ∧ Hds w a rs := by
  have hlt := World.ownsRow.lt h
  have hcell := fun (g : Nat) (hg : v.ownBlock = some g) => World.ownsRow.cells h hg
  obtain ⟨hl, h⟩ := h
  rcases h with ⟨rfl, h1⟩ | ⟨g, cap, cur, rfl, _⟩
  · exact ⟨none, 0, by rw [h1], fun _ => ⟨rfl, h1⟩, Or.inl (List.eq_nil_of_length_eq_zero h1)⟩
  · refine ⟨some ⟨g, 0, none⟩, cap, rfl, fun hh => (by cases hh), Or.inr ⟨g, 0, rfl, (hlt g rfl).2, fun j hj => ?_⟩⟩
    have hr := hcs_at rs j hj
    have e : ∀ i, (⟨g, 0, none⟩ : Addr).add i = ⟨g, 0 + i, none⟩ := fun i => Go.WideShapes.add_plain _ _ _
    refine ⟨?_, ?_, ?_⟩
    · have := hcell g rfl _ _ hr.1; rw [e] at this; exact this
    · have := hcell g rfl _ _ hr.2.1; rw [e] at this; exact this
    · have := hcell g rfl _ _ hr.2.2; rw [e] at this; exact this
theorem ownH_snoc {w : World} {B n : Nat} {v : Value} {rs : List Hdr} {r : Hdr} (h : w.ownsRow B 51 3 v (n + 1) (hcs rs ++ hc1 r)) (hn : rs.length = n) : OwnH w B v (rs ++ [r]) := by
  unfold OwnH
  rw [List.length_append, hn, hcs_app]
  have : hcs [r] = hc1 r := by simp [hcs]
  rw [this]
  exact h
theorem ownH_nil (w : World) (B : Nat) : OwnH w B (.slice none 0 0) [] := World.ownsRow_nil _ _ _ _
theorem Tryz.infoHdr : (Tryz.prog.info? 51).map (fun i => (i.zero, i.size, i.bytes)) = some (some (.agg #[.string ⟨#[]⟩, .bool false, .string ⟨#[]⟩]), 3, 40) := by kernel_rfl
theorem Tryz.underHdrs : Tryz.prog.underlying 47 = some (.slice 51) := by kernel_rfl
theorem cells_new (w : World) (xs : List Value) (t : TypeId) : ∀ j u, xs[j]? = some u → (w.alloc (.cells xs.toArray t)).cell? ((⟨w.heap.size, 0, none⟩ : Addr).add j) = some u := by
  intro j u hj
  have h := cell_of (i := j) (heap_new w (.cells xs.toArray t))
  have e : (⟨w.heap.size, 0, none⟩ : Addr).add j = ⟨w.heap.size, j, none⟩ := by
    by_cases h0 : j = 0
    · subst h0; simp [Addr.add]
    · simp [Addr.add, h0]
  rw [e, h]
  simpa using hj
theorem own_apart {w w' : World} {B n size : Nat} {e : TypeId} {v : Value} {l : List Value} (h : w.ownsRow B e size v n l) (hc : ∀ g, v.ownBlock = some g → w'.heap[g]? = w.heap[g]?) : w'.ownsRow B e size v n l := by
  obtain ⟨h1, h2⟩ := h
  refine ⟨h1, ?_⟩
  rcases h2 with h2 | ⟨g, cap, cur, rfl, hg, hh, r⟩
  · exact Or.inl h2
  · exact Or.inr ⟨g, cap, cur, rfl, hg, (hc g rfl).trans hh, r⟩
theorem own_ne {w : World} {B n size : Nat} {e T : TypeId} {v : Value} {l : List Value} {k : Nat} {c : Array Value} {fz : Nat × Nat} (h : w.ownsRow B e size v n l) (hk : w.heap[k]? = some (.cells c T fz)) (hT : T ≠ e) : v.ownBlock ≠ some k := by
  intro hv
  obtain ⟨h1, h2⟩ := h
  rcases h2 with ⟨rfl, h0⟩ | ⟨g, cap, cur, rfl, hg, hh, r⟩
  · cases hv
  · have e1 : g = k := by simpa [Value.ownBlock] using hv
    subst e1
    rw [hk] at hh
    injection hh with hh
    injection hh with h3 h4 h5
    exact hT h4
theorem cells_newN (w : World) (xs : List Value) (t : TypeId) (n : Nat) (h : w.heap.size = n) : ∀ j u, xs[j]? = some u → (w.alloc (.cells xs.toArray t)).cell? ((⟨n, 0, none⟩ : Addr).add j) = some u := by subst h; exact cells_new w xs t
theorem hc1_one (r : Hdr) : ∀ u ∈ hc1 r, u.oneCell' = true := fun u hu => hcs_one [r] u (by simpa [hcs] using hu)
end Go.Proofs.YtihokphamgkkcaaGreat
namespace Go.Proofs.YtihokphamgkkcaaGreat
open Go.RowKit
theorem uq_le {s : ByteArray} {k e : Nat} (hk : k ≤ s.size) : (uq s k e).2.1 ≤ s.size := by
  unfold uq
  split
  · exact hk
  · split
    · have := (rd_bds (tl s k)).2.2; rw [tl_size] at this; dsimp only; omega
    · exact hk
theorem vq_le {s : ByteArray} {k e : Nat} (hk : k ≤ s.size) : (vq s k e).2.1 ≤ s.size := by
  unfold vq
  split
  · exact hk
  · split
    · have := (rd_bds (tl s k)).2.2; rw [tl_size] at this; dsimp only; omega
    · exact hk
theorem vq_bd {s : ByteArray} {k e : Nat} : I64 (vq s k e).1 := by
  unfold vq
  split
  · exact ⟨by dsimp only; omega, by dsimp only; omega⟩
  · split
    · have := (rd_bds (tl s k)).1; exact M.uz_bd (by omega) this
    · exact ⟨by dsimp only; omega, by dsimp only; omega⟩
theorem uq_bd {s : ByteArray} {k e : Nat} : (uq s k e).1 < 18446744073709551616 := by
  unfold uq
  split
  · dsimp only; omega
  · split
    · have := (rd_bds (tl s k)).1; dsimp only; omega
    · dsimp only; omega
theorem fx_le {n : Nat} {s : ByteArray} {k e : Nat} (hk : k ≤ s.size) : (fx n s k e).2.1 ≤ s.size := by
  unfold fx
  split
  · exact hk
  · split
    · assumption
    · exact hk
theorem tq_le {m : Int} {s : ByteArray} {k e : Nat} (hk : k ≤ s.size) : (tq m s k e).2.1 ≤ s.size := by
  unfold tq
  split
  · exact hk
  · split
    · exact hk
    · split
      · rename_i h; exact h.2
      · exact hk
theorem oq_le {m : Int} {s : ByteArray} {k e : Nat} (hk : k ≤ s.size) : (oq m s k e).2.2.1 ≤ s.size := by
  unfold oq
  split
  · exact hk
  · split
    · exact hk
    · split
      · have := (rd_bds (tl s k)).2.2; rw [tl_size] at this; dsimp only; omega
      · split
        · rename_i h; exact h.2.2
        · exact hk
theorem fl_zero {f e : Nat} (h : fl f e = 0) : f = 0 ∧ e = 0 := by
  unfold fl at h
  split at h
  · exact absurd h (by assumption)
  · exact ⟨by omega, h⟩
theorem fl_read {f e e' : Nat} (h : fl f e ≠ 0) (he : e ≠ 0 → e' = e) : fl f e' = fl f e := by
  unfold fl at *
  split
  · rfl
  · rename_i hf; rw [if_neg hf] at h; exact he h
theorem fl_rf {f e : Nat} (b : Bool) (why : Nat) (h : fl f e ≠ 0) : fl (rf b why f e) e = fl f e := by
  unfold rf
  rw [if_neg (fun x => h x.2)]
theorem rf_no (why f e : Nat) : rf false why f e = f := by unfold rf; rw [if_neg (by simp)]
theorem rf_yes {why f e : Nat} (h : fl f e = 0) : rf true why f e = why := by unfold rf; rw [if_pos ⟨rfl, h⟩]
/-- What headers are read, of a reader at k with the faults f and e. -/
def hres (f e : Nat) (p : ByteArray) (k : Nat) : Except Nat (List Hdr × Nat) := if fl f e ≠ 0 then .error (fl f e) else if (uq p k 0).2.2 ≠ 0 then .error (uq p k 0).2.2 else if 1024 < (uq p k 0).1 then .error 5 else hdq p (uq p k 0).1 (uq p k 0).2.1
theorem hstep (f e : Nat) (p : ByteArray) (k c k1 e1 f4 : Nat) (hu : uq p k e = (c, k1, e1)) (h4 : f4 = rf (decide ((1024 : Int) < (c : Int))) 5 f e1) :
    (fl f4 e1 ≠ 0 → hres f e p k = .error (fl f4 e1)) ∧ (fl f4 e1 = 0 → f4 = 0 ∧ e1 = 0 ∧ c ≤ 1024 ∧ hres f e p k = hdq p c k1) := by
  unfold hres
  by_cases h0 : fl f e = 0
  · obtain ⟨rfl, rfl⟩ := fl_zero h0
    rw [if_neg (by simpa using h0), hu]
    dsimp only
    by_cases he : e1 = 0
    · subst he
      rw [if_neg (by simp)]
      by_cases hc : 1024 < c
      · rw [decide_eq_true (show (1024 : Int) < (c : Int) by omega), rf_yes (by rfl)] at h4
        subst h4
        rw [if_pos hc]
        exact ⟨fun _ => rfl, fun h => by cases h⟩
      · rw [decide_eq_false (show ¬ (1024 : Int) < (c : Int) by omega), rf_no] at h4
        subst h4
        rw [if_neg hc]
        exact ⟨fun h => absurd rfl h, fun _ => ⟨rfl, rfl, by omega, rfl⟩⟩
    · have e4 : fl f4 e1 = e1 := by
        rw [h4, fl_rf _ _ (show fl 0 e1 ≠ 0 from he)]; rfl
      rw [e4, if_pos he]
      exact ⟨fun _ => rfl, fun h => absurd h he⟩
  · rw [if_pos h0]
    have e1' : e ≠ 0 → e1 = e := fun he => by rw [uq_stale he] at hu; injection hu with _ hu; injection hu with _ hu; exact hu.symm
    have h1 := fl_read h0 e1'
    have e4 : fl f4 e1 = fl f e := by rw [h4, fl_rf _ _ (by rw [h1]; exact h0), h1]
    rw [e4]
    exact ⟨fun _ => rfl, fun h => absurd h h0⟩
theorem hdq_step (p : ByteArray) (g kk : Nat) (T : ByteArray) (kt et : Nat) (O : Bool) (D : ByteArray) (ko eo : Nat) (hT : tq MX p kk 0 = (T, kt, et)) (hO : oq MX p kt et = (O, D, ko, eo)) :
    (eo ≠ 0 → hdq p (g + 1) kk = .error eo) ∧ (eo = 0 → hdq p (g + 1) kk = pre [(T, O, D)] (hdq p g ko)) := by
  conv => rhs; rhs; lhs; unfold hdq
  conv => lhs; rhs; lhs; unfold hdq
  rw [hT]
  dsimp only
  by_cases he : et = 0
  · subst he
    rw [if_neg (by simp), hO]
    dsimp only
    exact ⟨fun h => by rw [if_pos h], fun h => by rw [if_neg (by simpa using h)]⟩
  · rw [oq_stale he] at hO
    injection hO with _ hO
    injection hO with _ hO
    injection hO with _ hO
    rw [if_pos he, hO]
    exact ⟨fun _ => rfl, fun h => absurd (hO.trans h) he⟩
/-- What headers leaves. -/
def HPost (q pb : Nat) (p : ByteArray) (B : Nat) (R : Except Nat (List Hdr × Nat)) (w : World) (r : Ending) (w' : World) : Prop :=
  ∃ v hs f' k' e', r = .returned v ∧ OwnH w' B v hs ∧ RR w' q pb f' ∧ Rd w' pb p k' e' ∧ k' ≤ p.size ∧ Ch (fun i => i = pb ∨ i = q) w w' ∧ (fl f' e' ≠ 0 → R = .error (fl f' e')) ∧ (fl f' e' = 0 → R = .ok (hs, k'))
set_option maxHeartbeats 1000000 in
set_option maxRecDepth 20000 in
theorem headers_bad (q pb f : Nat) (p : ByteArray) (k e : Nat) (w : World) (h : RR w q pb f) (hr : Rd w pb p k e) (hq : pb ≠ q) (hk : k ≤ p.size) (hs : p.size ≤ 9223372036854775807) (c k1 e1 f4 : Nat) (hu : uq p k e = (c, k1, e1)) (h4 : f4 = rf (decide ((1024 : Int) < (c : Int))) 5 f e1) (hz : fl f4 e1 ≠ 0) :
    Calls Tryz.prog 165 #[.pointer (some ⟨q, 0, none⟩)] w (HPost q pb p w.heap.size (hres f e p k) w) := by
  have hst := hstep f e p k c k1 e1 f4 hu h4
  have hk1 := uq_le (e := e) hk
  have hcb := uq_bd (s := p) (k := k) (e := e)
  have cu := uvarint_any pb p k e w hr hk hs
  rw [hu] at hk1 hcb cu
  dsimp only at hk1 hcb cu
  have c0 := h.c0
  have hlq := h.lt
  have hlb := hr.lt
  have CU := hid cu
  have H := hid h
  have HK1 := hid hk1
  have HCB := hid hcb
  have HSZ := hid hs
  have HST := hid hst
  have HF4 := hid h4
  clear cu h hr hu hk1 hcb hk hs hst h4
  have hne : (((fl f4 e1 : Nat) : Int) != 0) = true := by rw [bne_iff_ne]; omega
  have HS := hid (HST.out.1 hz)
  have HZ := hid hz
  go_enter Tryz.func165, Tryz.ntmps165
  go_wp2_with fail
  refine CU.out.mono ?_
  rintro r w1 ⟨rfl, hr1, hc1⟩
  have h1 : RR w1 q pb f := H.out.ch hc1 (fun h => hq h.symm)
  have cr := refuse_any q pb f p k1 e1 5 (decide ((1024 : Int) < (c : Int))) w1 h1 hr1 hq
  rw [← HF4.out] at cr
  have CR := hid cr
  have HC1 := hid hc1
  clear h1 hr1 hc1 cr
  go_wp2_with fail
  refine CR.out.mono ?_
  rintro r w2 ⟨rfl, h2, hr2, hc2⟩
  have HC2 : Hid (Ch (fun i => i = pb ∨ i = q) w w2) := (HC1.out.mono (fun _ _ h => Or.inl h)).then hc2 (fun _ _ h => Or.inr h)
  have CF := hid (failed_any q pb f4 p k1 e1 w2 h2 hr2)
  have H2 := hid h2
  have HR2 := hid hr2
  have d0 := h2.c0
  clear h2 hr2 hc2
  generalize hFE : fl f4 e1 = FE at *
  have HFE := hid hFE
  clear hFE hz
  go_wp2_with (go_at_call 117; refine CF.out.mono ?_; rintro e w' ⟨rfl, rfl⟩)
  go_ret
  exact ⟨_, [], f4, k1, e1, rfl, ownH_nil _ _, H2.out, HR2.out, HK1.out, HC2.out, fun _ => by rw [HFE.out]; exact HS.out, fun h => absurd (HFE.out.symm.trans h) HZ.out⟩
set_option maxHeartbeats 1000000 in
set_option maxRecDepth 20000 in
theorem headers_none (q pb f : Nat) (p : ByteArray) (k e : Nat) (w : World) (h : RR w q pb f) (hr : Rd w pb p k e) (hq : pb ≠ q) (hk : k ≤ p.size) (hs : p.size ≤ 9223372036854775807) (c k1 e1 f4 : Nat) (hu : uq p k e = (c, k1, e1)) (h4 : f4 = rf (decide ((1024 : Int) < (c : Int))) 5 f e1) (hz : fl f4 e1 = 0) (hc : c = 0) :
    Calls Tryz.prog 165 #[.pointer (some ⟨q, 0, none⟩)] w (HPost q pb p w.heap.size (hres f e p k) w) := by
  have hst := hstep f e p k c k1 e1 f4 hu h4
  have hk1 := uq_le (e := e) hk
  have hcb := uq_bd (s := p) (k := k) (e := e)
  have cu := uvarint_any pb p k e w hr hk hs
  rw [hu] at hk1 hcb cu
  dsimp only at hk1 hcb cu
  have c0 := h.c0
  have hlq := h.lt
  have hlb := hr.lt
  have CU := hid cu
  have H := hid h
  have HK1 := hid hk1
  have HCB := hid hcb
  have HSZ := hid hs
  have HST := hid hst
  have HF4 := hid h4
  clear cu h hr hu hk1 hcb hk hs hst h4
  obtain ⟨s1, s2, s3, s4⟩ := HST.out.2 hz
  subst s1 s2
  rw [hc] at s4
  have HS : Hid (hres f e p k = .ok ([], k1)) := s4
  have hceq : ((c : Int) == 0) = true := by rw [beq_iff_eq]; omega
  clear hc
  go_enter Tryz.func165, Tryz.ntmps165
  go_wp2_with fail
  refine CU.out.mono ?_
  rintro r w1 ⟨rfl, hr1, hc1⟩
  have h1 : RR w1 q pb f := H.out.ch hc1 (fun h => hq h.symm)
  have cr := refuse_any q pb f p k1 0 5 (decide ((1024 : Int) < (c : Int))) w1 h1 hr1 hq
  rw [← HF4.out] at cr
  have CR := hid cr
  have HC1 := hid hc1
  clear h1 hr1 hc1 cr
  go_wp2_with fail
  refine CR.out.mono ?_
  rintro r w2 ⟨rfl, h2, hr2, hc2⟩
  have HC2 : Hid (Ch (fun i => i = pb ∨ i = q) w w2) := (HC1.out.mono (fun _ _ h => Or.inl h)).then hc2 (fun _ _ h => Or.inr h)
  have CF := hid (failed_any q pb 0 p k1 0 w2 h2 hr2)
  have H2 := hid h2
  have HR2 := hid hr2
  have d0 := h2.c0
  clear h2 hr2 hc2
  have e0 : fl 0 0 = 0 := rfl
  rw [e0] at CF
  clear hz s3 s4 e0
  go_wp2_with (go_at_call 117; refine CF.out.mono ?_; rintro e w' ⟨rfl, rfl⟩)
  go_ret
  exact ⟨_, [], 0, k1, 0, rfl, ownH_nil _ _, H2.out, HR2.out, HK1.out, HC2.out, fun h => absurd rfl h, fun _ => HS.out⟩
set_option maxHeartbeats 1000000 in
set_option maxRecDepth 20000 in
theorem headers_some (q pb f : Nat) (p : ByteArray) (k e : Nat) (w : World) (h : RR w q pb f) (hr : Rd w pb p k e) (hq : pb ≠ q) (hk : k ≤ p.size) (hs : p.size ≤ 9223372036854775807) (c k1 e1 f4 : Nat) (hu : uq p k e = (c, k1, e1)) (h4 : f4 = rf (decide ((1024 : Int) < (c : Int))) 5 f e1) (hz : fl f4 e1 = 0) (hc : c ≠ 0) :
    Calls Tryz.prog 165 #[.pointer (some ⟨q, 0, none⟩)] w (HPost q pb p w.heap.size (hres f e p k) w) := by
  have hst := hstep f e p k c k1 e1 f4 hu h4
  have hk1 := uq_le (e := e) hk
  have hcb := uq_bd (s := p) (k := k) (e := e)
  have cu := uvarint_any pb p k e w hr hk hs
  rw [hu] at hk1 hcb cu
  dsimp only at hk1 hcb cu
  have c0 := h.c0
  have hlq := h.lt
  have hlb := hr.lt
  have CU := hid cu
  have H := hid h
  have HK1 := hid hk1
  have HCB := hid hcb
  have HSZ := hid hs
  have HST := hid hst
  have HF4 := hid h4
  clear cu h hr hu hk1 hcb hk hs hst h4
  obtain ⟨i0, hi, hz0, hz1, hz2⟩ := info_parts Tryz.infoHdr
  obtain ⟨s1, s2, s3, s4⟩ := HST.out.2 hz
  subst s1 s2
  have HS := hid s4
  have HS3 := hid s3
  clear s3
  have hcne : ((c : Int) == 0) = false := by rw [beq_eq_false_iff_ne]; omega
  go_enter Tryz.func165, Tryz.ntmps165
  go_wp2_with fail
  refine CU.out.mono ?_
  rintro r w1 ⟨rfl, hr1, hc1⟩
  have h1 : RR w1 q pb f := H.out.ch hc1 (fun h => hq h.symm)
  have cr := refuse_any q pb f p k1 0 5 (decide ((1024 : Int) < (c : Int))) w1 h1 hr1 hq
  rw [← HF4.out] at cr
  have CR := hid cr
  have HC1 := hid hc1
  clear h1 hr1 hc1 cr
  go_wp2_with fail
  refine CR.out.mono ?_
  rintro r w2 ⟨rfl, h2, hr2, hc2⟩
  have HC2 : Hid (Ch (fun i => i = pb ∨ i = q) w w2) := (HC1.out.mono (fun _ _ h => Or.inl h)).then hc2 (fun _ _ h => Or.inr h)
  have CF := hid (failed_any q pb 0 p k1 0 w2 h2 hr2)
  have H2 := hid h2
  have HR2 := hid hr2
  have d0 := h2.c0
  clear h2 hr2 hc2
  have e0 : fl 0 0 = 0 := rfl
  rw [e0] at CF
  clear hz s4 e0
  have CL := hid (rleft_any pb p k1 0 w2 HR2.out HK1.out HSZ.out)
  go_wp2_with (go_at_call 117; refine CF.out.mono ?_; rintro e w2 ⟨rfl, rfl⟩)
  refine CL.out.mono ?_
  rintro r w3 ⟨rfl, nd, rfl⟩
  have hsz2 := HC2.out.size
  have hs := HSZ.out
  have hk1 := HK1.out
  have s3 := HS3.out
  obtain ⟨CAP, hCAP, hle⟩ : ∃ CAP : Nat, min (wrap64 (c : Int)) (((p.size : Int) - k1) / 2) = (CAP : Int) ∧ CAP ≤ 1024 := ⟨(min (wrap64 (c : Int)) (((p.size : Int) - k1) / 2)).toNat, by unfold wrap64; omega, by unfold wrap64; omega⟩
  obtain ⟨w4, hmk, hown, hgrow⟩ := run_make_own (P := Tryz.prog) (w2.drewN nd) w.heap.size 47 51 i0 (.agg #[.string ⟨#[]⟩, .bool false, .string ⟨#[]⟩]) 3 Tryz.underHdrs hi hz0 hz1 .i64 .i64 CAP (by rw [hz2]; omega) (by unfold maxLen; omega) hsz2
  have HO4 := hid (show OwnH w4 w.heap.size _ [] from hown)
  have hb4 : Below (w2.drewN nd).heap.size (w2.drewN nd) w4 := (Below.refl _ _).grown hgrow (Nat.le_refl _) (fun k hk => by cases hk)
  have HC4 : Hid (Ch (fun i => i = pb ∨ i = q) w w4) := (HC2.out.drewN nd).trans (Ch.of_below hb4)
  have H4 : Hid (RR w4 q pb 0) := (hb4.block q H2.out.lt).trans H2.out
  have HR4 : Hid (Rd w4 pb p k1 0) := (HR2.out.drewN nd).below hb4 HR2.out.lt
  clear hown hgrow hb4
  go_wp2_with fail
  clear hmk hCAP
  go_loopg [5, 6, 7, 8, 9, 40] c (fun g o x6 x7 x8 x9 i wr => ∃ (j kk : Nat) (acc : List Hdr), j + g = c ∧ i = .int .u64 j ∧ Hid (acc.length = j) ∧ Hid (kk ≤ p.size) ∧ Hid (hdq p c k1 = pre acc (hdq p g kk)) ∧ Hid (OwnH wr w.heap.size o acc) ∧ Hid (RR wr q pb 0) ∧ Hid (Rd wr pb p kk 0) ∧ Hid (Ch (fun i => i = pb ∨ i = q) w wr))
  case atStart => exact ⟨0, k1, [], by omega, rfl, rfl, hk1, (pre_nil _).symm, HO4, H4, HR4, HC4⟩
  case round =>
    clear HO4 H4 HR4 HC4
    obtain ⟨j, kk, acc, hk, rfl, HA, HKK, HP, HO, HRR, HRD, HCH⟩ := hrel
    by_cases hlt : j < c
    · obtain ⟨g, rfl⟩ : ∃ g, gk = g + 1 := ⟨gk - 1, by omega⟩
      have c0' := HRR.out.c0
      obtain ⟨T, kt, et, hT⟩ : ∃ T kt et, tq MX p kk 0 = (T, kt, et) := ⟨_, _, _, rfl⟩
      obtain ⟨O, D, ko, eo, hO⟩ : ∃ O D ko eo, oq MX p kt et = (O, D, ko, eo) := ⟨_, _, _, _, rfl⟩
      have HST2 := hid (hdq_step p g kk T kt et O D ko eo hT hO)
      have ct := rtext_any pb p kk 0 9223372036854775807 wr HRD.out HKK.out hs (by omega) (by omega)
      have hkt := tq_le (m := MX) (e := 0) HKK.out
      rw [hT] at ct hkt
      have hko := oq_le (m := MX) (e := et) hkt
      have co := fun w5 h5 => ropt_any pb p kt et 9223372036854775807 w5 h5 hkt hs (by omega) (by omega)
      rw [hO] at hko
      simp only [hO] at co
      dsimp only at ct hkt hko
      have CT := hid ct
      have CO := hid co
      have HKO := hid hko
      have hlt' : (j : Int) < c := by omega
      have HLT := hid hlt
      clear ct co hT hO hkt hko
      go_wp2_with fail
      refine CT.out.mono ?_
      rintro r w5 ⟨rfl, hr5, hc5⟩
      have h5 : RR w5 q pb 0 := HRR.out.ch hc5 (fun h => hq h.symm)
      have c5 := h5.c0
      have HC5 := hid hc5
      have H5 := hid h5
      have HR5 := hid hr5
      clear hc5 h5 hr5
      go_wp2_with fail
      refine (CO.out w5 HR5.out).mono ?_
      rintro r w6 ⟨rfl, hr6, hc6⟩
      have h6 : RR w6 q pb 0 := H5.out.ch hc6 (fun h => hq h.symm)
      have HC6 : Hid (Ch (fun i => i = pb ∨ i = q) w w6) := (HCH.out.then HC5.out (fun _ _ h => Or.inl h)).then hc6 (fun _ _ h => Or.inl h)
      have hown0 : wr.ownsRow w.heap.size 51 3 u5 acc.length (hcs acc) := HO.out
      have ho6 : w6.ownsRow w.heap.size 51 3 u5 acc.length (hcs acc) := own_apart hown0 (fun x hx => by
        have hb := World.ownsRow.lt hown0 x hx
        have h1 := HC5.out.block x hb.2 (by omega)
        exact (hc6.block x (Nat.lt_of_lt_of_le hb.2 HC5.out.size) (by omega)).trans h1)
      have H6 := hid h6
      have HR6 := hid hr6
      clear h6 hr6 hc6 hown0 HO
      have hsz6 := HC6.out.size
      by_cases he : eo = 0
      · subst he
        have HN := hid (HST2.out.2 rfl)
        have hal := HA.out
        rw [hal] at ho6
        clear HST2
        go_wp2_with (at_builtin; refine wpList_append_own _ rfl _ _ 47 rfl w.heap.size 51 i0 (.agg #[.string ⟨#[]⟩, .bool false, .string ⟨#[]⟩]) 3 40 Tryz.underHdrs hi hz0 hz1 hz2 rfl (by decide) _ _ _ rfl ((ho6.alloc _).alloc _) ⟨w6.heap.size + 1, 0, none⟩ 1 1 (hc1 (T, O, D)) rfl rfl ?c1 ?c2 ?c3 ?c4 ?c5 ?_)
        case c1 => exact cells_newN _ (hc1 (T, O, D)) _ _ (by simp)
        case c2 => exact hc1_one _
        case c3 => unfold maxLen; omega
        case c4 => omega
        case c5 => simp; omega
        intro v' w7 hown7 hgrow7 _
        have hb7 : Below w.heap.size (w6.alloc (.cells #[.bool O, .string D] 46)) w7 := bel_step (Below.refl _ _) (ho6.alloc _) (by simp; omega) hgrow7
        have hc7 : Ch (fun i => i = pb ∨ i = q) w w7 := ⟨hb7.os.trans HC6.out.os, hb7.tape.trans HC6.out.tape, hb7.output.trans HC6.out.output, Nat.le_trans hsz6 (Nat.le_trans (by simp) hb7.size), fun i hi hs => ((hb7.block i hi).trans (Below.heap_alloc _ _ _ (by omega))).trans (HC6.out.block i hi hs)⟩
        have H7 : Hid (RR w7 q pb 0) := ((hb7.block q hlq).trans (Below.heap_alloc _ _ _ (by omega))).trans H6.out
        have HR7 : Hid (Rd w7 pb p ko 0) := ((hb7.block pb hlb).trans (Below.heap_alloc _ _ _ (by omega))).trans HR6.out
        have HC7 := hid hc7
        have HO7 : Hid (OwnH w7 w.heap.size v' (acc ++ [(T, O, D)])) := ownH_snoc hown7 HA.out
        clear hown7 hgrow7 ho6 hb7 hc7
        go_wp2_with fail
        go_roundg g
        case measure => omega
        case rel => exact ⟨j + 1, ko, acc ++ [(T, O, D)], by omega, by go_num, by show _ = _; rw [List.length_append, HA.out]; rfl, HKO, by show _ = _; rw [HP.out, HN.out, pre_pre], HO7, H7, HR7, HC7⟩
      · have hne : ((eo : Int) != 0) = true := by rw [bne_iff_ne]; omega
        have HN := hid (HST2.out.1 he)
        have HE := hid he
        clear he HST2 ho6
        go_wp2_with fail
        go_ret
        have hfl : fl 0 eo = eo := rfl
        refine ⟨_, [], 0, ko, eo, rfl, ownH_nil _ _, heap_alloc_at H6.out, HR6.out.alloc _, HKO.out, HC6.out.alloc _, fun _ => ?_, fun h => absurd h HE.out⟩
        rw [hfl, HS.out, HP.out, HN.out]
        rfl
    · have hj : gk = 0 := by omega
      subst hj
      have HF : Hid (hres f e p k = .ok (acc, kk)) := by show _ = _; rw [HS.out, HP.out]; simp [hdq, pre]
      go_wp2_with fail
      go_ret
      exact ⟨_, acc, 0, kk, 0, rfl, HO.out, HRR.out, HRD.out, HKK.out, HCH.out, fun h => absurd rfl h, fun _ => HF.out⟩
theorem headers_any (q pb f : Nat) (p : ByteArray) (k e : Nat) (w : World) (h : RR w q pb f) (hr : Rd w pb p k e) (hq : pb ≠ q) (hk : k ≤ p.size) (hs : p.size ≤ 9223372036854775807) :
    Calls Tryz.prog 165 #[.pointer (some ⟨q, 0, none⟩)] w (HPost q pb p w.heap.size (hres f e p k) w) := by
  obtain ⟨c, k1, e1, hu⟩ : ∃ c k1 e1, uq p k e = (c, k1, e1) := ⟨_, _, _, rfl⟩
  by_cases hz : fl (rf (decide ((1024 : Int) < (c : Int))) 5 f e1) e1 = 0
  · by_cases hc : c = 0
    · exact headers_none q pb f p k e w h hr hq hk hs c k1 e1 _ hu rfl hz hc
    · exact headers_some q pb f p k e w h hr hq hk hs c k1 e1 _ hu rfl hz hc
  · exact headers_bad q pb f p k e w h hr hq hk hs c k1 e1 _ hu rfl hz
end Go.Proofs.YtihokphamgkkcaaGreat
namespace Go.Proofs.YtihokphamgkkcaaGreat
open Go.RowKit
theorem stop_fl {f1 e1 e2 : Nat} (b : Bool) (why : Nat) (h : fl f1 e1 ≠ 0) (he : e1 ≠ 0 → e2 = e1) : fl (rf b why f1 e2) e2 = fl f1 e1 := by
  have := fl_read h he
  rw [fl_rf _ _ (by rw [this]; exact h), this]
theorem vq_keep {s : ByteArray} {k e k' e' : Nat} {d : Int} (h : vq s k e = (d, k', e')) : e ≠ 0 → e' = e := fun he => by rw [vq_stale he] at h; injection h with _ h; injection h with _ h; exact h.symm
theorem uq_keep {s : ByteArray} {k e k' e' d : Nat} (h : uq s k e = (d, k', e')) : e ≠ 0 → e' = e := fun he => by rw [uq_stale he] at h; injection h with _ h; injection h with _ h; exact h.symm
theorem oq_keep {m : Int} {s : ByteArray} {k e k' e' : Nat} {b : Bool} {d : ByteArray} (h : oq m s k e = (b, d, k', e')) : e ≠ 0 → e' = e := fun he => by rw [oq_stale he] at h; injection h with _ h; injection h with _ h; injection h with _ h; exact h.symm
theorem rf_zero {b : Bool} {why e : Nat} (h : fl (rf b why 0 e) e = 0) (hw : why ≠ 0) : e = 0 ∧ b = false := by
  obtain ⟨h1, h2⟩ := fl_zero h
  refine ⟨h2, ?_⟩
  cases b with
  | false => rfl
  | true => subst h2; rw [rf_yes rfl] at h1; exact absurd h1 hw
theorem rf_one {b : Bool} {why e : Nat} (h : fl (rf b why 0 e) e ≠ 0) : (e ≠ 0 ∧ fl (rf b why 0 e) e = e) ∨ (e = 0 ∧ b = true ∧ fl (rf b why 0 e) e = why) := by
  by_cases he : e = 0
  · subst he
    right
    cases b with
    | false => rw [rf_no] at h; exact absurd rfl h
    | true =>
      rw [rf_yes rfl] at h ⊢
      refine ⟨rfl, rfl, ?_⟩
      unfold fl at *
      split
      · rfl
      · rename_i h'; rw [if_neg h'] at h; exact absurd rfl h
  · left
    exact ⟨he, by rw [fl_rf _ _ (show fl 0 e ≠ 0 from he)]; rfl⟩
theorem chain {p : ByteArray} {first : Int} {n : Nat} {a k1 e1 : Nat} {b1 : Bool} {f1 : Nat} {d : Int} {k2 e2 : Nat} {b2 : Bool} {f2 m k3 e3 : Nat} {b3 : Bool} {f3 : Nat} {kh : Bool} {kd : ByteArray} {k4 e4 : Nat} {vh : Bool} {vd : ByteArray} {k5 e5 : Nat} {hs : List Hdr} {f' k' e' : Nat}
    (hA : fx 1 p 0 0 = (a, k1, e1)) (hb1 : b1 = true ↔ a ≠ 0) (hf1 : f1 = rf b1 26 0 e1)
    (hD : vq p k1 e1 = (d, k2, e2)) (hb2 : b2 = true ↔ ¬ I64 (first + d)) (hf2 : f2 = rf b2 27 f1 e2)
    (hU : uq p k2 e2 = (m, k3, e3)) (hb3 : b3 = true ↔ m ≠ n) (hf3 : f3 = rf b3 27 f2 e3)
    (hK : oq MX p k3 e3 = (kh, kd, k4, e4)) (hV : oq MX p k4 e4 = (vh, vd, k5, e5))
    (h1 : fl f' e' ≠ 0 → hres f3 e5 p k5 = .error (fl f' e')) (h2 : fl f' e' = 0 → hres f3 e5 p k5 = .ok (hs, k')) :
    (fl f' e' ≠ 0 → r1 p first n = .error (fl f' e')) ∧ (fl f' e' = 0 → r1 p first n = (if k' < p.size then .error 26 else .ok ⟨first + d, kh, kd, vh, vd, hs⟩) ∧ I64 (first + d)) := by
  have stop : ∀ X, X ≠ 0 → fl f3 e5 = X → r1 p first n = .error X → (fl f' e' ≠ 0 → r1 p first n = .error (fl f' e')) ∧ (fl f' e' = 0 → r1 p first n = (if k' < p.size then .error 26 else .ok ⟨first + d, kh, kd, vh, vd, hs⟩) ∧ I64 (first + d)) := by
    intro X hX h3 hr
    have hh : hres f3 e5 p k5 = .error X := by unfold hres; rw [h3, if_pos hX]
    refine ⟨fun h => ?_, fun h => ?_⟩
    · have := h1 h
      rw [hh] at this
      injection this with this
      rw [hr, this]
    · have := h2 h
      rw [hh] at this
      cases this
  by_cases z1 : fl f1 e1 = 0
  · rw [hf1] at z1
    obtain ⟨rfl, hb⟩ := rf_zero z1 (by decide)
    have ha : a = 0 := by
      apply Classical.byContradiction
      intro h
      have := hb1.2 h
      rw [hb] at this
      cases this
    subst ha
    have f10 : f1 = 0 := by rw [hf1, hb, rf_no]
    subst f10
    have q1 : r1 p first n = r2 p first n k1 := by
      unfold r1
      rw [hA, if_neg (by simp)]
      dsimp only
      rw [if_neg (by simp)]
    by_cases z2 : fl f2 e2 = 0
    · rw [hf2] at z2
      obtain ⟨rfl, hb⟩ := rf_zero z2 (by decide)
      have hi : I64 (first + d) := by
        apply Classical.byContradiction
        intro h
        have := hb2.2 h
        rw [hb] at this
        cases this
      have f20 : f2 = 0 := by rw [hf2, hb, rf_no]
      subst f20
      have q2 : r2 p first n k1 = r3 p (first + d) n k2 := by
        unfold r2
        rw [hD, if_neg (by simp)]
        dsimp only
        rw [if_neg (by simpa using hi)]
      by_cases z3 : fl f3 e3 = 0
      · rw [hf3] at z3
        obtain ⟨rfl, hb⟩ := rf_zero z3 (by decide)
        have hm : m = n := by
          apply Classical.byContradiction
          intro h
          have := hb3.2 h
          rw [hb] at this
          cases this
        subst hm
        have f30 : f3 = 0 := by rw [hf3, hb, rf_no]
        subst f30
        have q3 : r3 p (first + d) m k2 = r4 p (first + d) k3 := by
          unfold r3
          rw [hU, if_neg (by simp)]
          dsimp only
          rw [if_neg (by simp)]
        by_cases z4 : e4 = 0
        · subst z4
          have q4 : r4 p (first + d) k3 = r5 p (first + d) kh kd k4 := by
            unfold r4
            rw [hK, if_neg (by simp)]
          by_cases z5 : e5 = 0
          · subst z5
            have q5 : r5 p (first + d) kh kd k4 = r6 p (first + d) kh kd vh vd k5 := by
              unfold r5
              rw [hV, if_neg (by simp)]
            have q6 : r6 p (first + d) kh kd vh vd k5 = (match hres 0 0 p k5 with
                | .error e => .error e
                | .ok (hs, k') => if k' < p.size then .error 26 else .ok ⟨first + d, kh, kd, vh, vd, hs⟩) := by
              unfold r6 hres
              rw [if_neg (show ¬ fl 0 0 ≠ 0 by simp [fl])]
              dsimp only
              split
              · rfl
              · split
                · rfl
                · rfl
            rw [q1, q2, q3, q4, q5, q6]
            refine ⟨fun h => by rw [h1 h], fun h => ⟨by rw [h2 h], hi⟩⟩
          · refine stop e5 z5 rfl ?_
            rw [q1, q2, q3, q4]
            unfold r5
            rw [hV, if_pos z5]
        · have e54 := oq_keep hV z4
          refine stop e4 z4 (by rw [e54]; rfl) ?_
          rw [q1, q2, q3]
          unfold r4
          rw [hK, if_pos z4]
      · rw [hf3] at z3
        have k4 := oq_keep hK
        have k5 := oq_keep hV
        have x4 := fl_read z3 k4
        have x5 := fl_read (f := rf b3 27 0 e3) (e := e4) (e' := e5) (by rw [x4]; exact z3) k5
        refine stop (fl (rf b3 27 0 e3) e3) z3 (by rw [hf3, x5, x4]) ?_
        rw [q1, q2]
        unfold r3
        rw [hU]
        dsimp only
        rcases rf_one z3 with ⟨he, e⟩ | ⟨he, hb, e⟩
        · rw [e, if_pos he]
        · rw [e, if_neg (by simpa using he), if_pos (hb3.1 hb)]
    · rw [hf2] at z2
      have x3 : fl f3 e3 = fl (rf b2 27 0 e2) e2 := by rw [hf3, hf2]; exact stop_fl _ _ z2 (uq_keep hU)
      have x4 := fl_read (f := f3) (e := e3) (e' := e4) (by rw [x3]; exact z2) (oq_keep hK)
      have x5 := fl_read (f := f3) (e := e4) (e' := e5) (by rw [x4, x3]; exact z2) (oq_keep hV)
      refine stop (fl (rf b2 27 0 e2) e2) z2 (by rw [x5, x4, x3]) ?_
      rw [q1]
      unfold r2
      rw [hD]
      dsimp only
      rcases rf_one z2 with ⟨he, e⟩ | ⟨he, hb, e⟩
      · rw [e, if_pos he]
      · rw [e, if_neg (by simpa using he), if_pos (hb2.1 hb)]
  · rw [hf1] at z1
    have x2 : fl f2 e2 = fl (rf b1 26 0 e1) e1 := by rw [hf2, hf1]; exact stop_fl _ _ z1 (vq_keep hD)
    have x3 : fl f3 e3 = fl f2 e2 := by rw [hf3]; exact stop_fl _ _ (by rw [x2]; exact z1) (uq_keep hU)
    have x4 := fl_read (f := f3) (e := e3) (e' := e4) (by rw [x3, x2]; exact z1) (oq_keep hK)
    have x5 := fl_read (f := f3) (e := e4) (e' := e5) (by rw [x4, x3, x2]; exact z1) (oq_keep hV)
    refine stop (fl (rf b1 26 0 e1) e1) z1 (by rw [x5, x4, x3, x2]) ?_
    unfold r1
    rw [hA]
    dsimp only
    rcases rf_one z1 with ⟨he, e⟩ | ⟨he, hb, e⟩
    · rw [e, if_pos he]
    · rw [e, if_neg (by simpa using he), if_pos (hb1.1 hb)]
end Go.Proofs.YtihokphamgkkcaaGreat
namespace Go.Proofs.YtihokphamgkkcaaGreat
open Go.RowKit
/-- A writer at work, beside a block of another kind that stays. -/
structure WK (p B Q : Nat) (c : Array Value) (T : TypeId) (w x : World) (l : List Nat) : Prop where
  wr : Wr x p B l
  ch : Ch (WU p B w) w x
  q : x.heap[Q]? = some (.cells c T (0, 0))
theorem WK.drew {p B Q : Nat} {c : Array Value} {T : TypeId} {w x : World} {l : List Nat} (h : WK p B Q c T w x l) : WK p B Q c T w x.drew l := ⟨h.wr.ch ((Ch.refl (fun _ => False) _).drew) (fun h => h) (fun _ _ h => h), h.ch.drew, h.q⟩
theorem WK.next {p B Q : Nat} {c : Array Value} {T : TypeId} {w x x' : World} {l l' : List Nat} {e : Ending} (h : WK p B Q c T w x l) (hQ : Q ≠ p) (hT : T ≠ 5) (k : Lays p B l' x e x') : WK p B Q c T w x' l' := ⟨k.2.1, h.ch.tu k.2.2, k.2.2.other h.q hQ hT⟩
theorem WK.below {p B Q : Nat} {c : Array Value} {T : TypeId} {w x x' : World} {l : List Nat} (h : WK p B Q c T w x l) (hb : Below x.heap.size x x') : WK p B Q c T w x' l := ⟨h.wr.below hb, h.ch.tu (Ch.of_below hb), (hb.block _ (lt_of_heap h.q)).trans h.q⟩
theorem Wr.pB {w : World} {p B : Nat} {l : List Nat} (h : Wr w p B l) : p < B ∧ B ≤ w.heap.size := by
  obtain ⟨_, _, _, _, _, _, hp, hB, _⟩ := h
  exact ⟨hp, hB⟩
theorem hds_ch {w0 w x : World} {p B : Nat} {a : Option Addr} {hs : List Hdr} (V : Hds w0 a hs) (h0 : Below w0.heap.size w0 w) (hp : w0.heap.size ≤ p) (hB : p < B) (hc : Ch (WU p B w) w x) : Hds x a hs :=
  V.below (h0.trans (hc.below h0.size (fun i hi hs => by rcases hs with rfl | ⟨h, _⟩ <;> omega)))
theorem wol_any (p B : Nat) (l : List Nat) (b : Bool) (t : ByteArray) (w : World) (h : Wr w p B l) (hl : l.length + (ol b t).length ≤ 140737488350000) :
    Calls Tryz.prog 125 #[.pointer (some ⟨p, 0, none⟩), .agg #[.bool b, .string t]] w (Lays p B (l ++ ol b t) w) := by
  cases b with
  | false => exact wnull_any p B l t w h (by omega)
  | true =>
    have := wopt_any p B l t w h (by omega) (by
      unfold ol at hl
      rw [if_pos rfl, List.length_append, bl_len] at hl
      omega)
    unfold ol
    rw [if_pos rfl, ← List.append_assoc]
    exact this
theorem wtx_any (p B : Nat) (l : List Nat) (t : ByteArray) (w : World) (h : Wr w p B l) (hl : l.length + (tx t).length ≤ 140737488350000) :
    Calls Tryz.prog 126 #[.pointer (some ⟨p, 0, none⟩), .string t] w (Lays p B (l ++ tx t) w) := by
  have := wtext_any p B l t w h (by omega) (by
    unfold tx at hl
    rw [List.length_append, bl_len] at hl
    omega)
  unfold tx
  rw [← List.append_assoc]
  exact this
theorem cells6 {x : World} {Q : Nat} {T : TypeId} {v0 v1 v2 v3 v4 v5 : Value} (h : x.heap[Q]? = some (.cells #[v0, v1, v2, v3, v4, v5] T (0, 0))) :
    x.cell? ⟨Q, 0, none⟩ = some v0 ∧ x.cell? ⟨Q, 1, none⟩ = some v1 ∧ x.cell? ⟨Q, 2, none⟩ = some v2 ∧ x.cell? ⟨Q, 3, none⟩ = some v3 ∧ x.cell? ⟨Q, 4, none⟩ = some v4 ∧ x.cell? ⟨Q, 5, none⟩ = some v5 :=
  ⟨(cell_of h).trans rfl, (cell_of h).trans rfl, (cell_of h).trans rfl, (cell_of h).trans rfl, (cell_of h).trans rfl, (cell_of h).trans rfl⟩
theorem cells3 {x : World} {Q : Nat} {T : TypeId} {v0 v1 v2 : Value} (h : x.heap[Q]? = some (.cells #[v0, v1, v2] T (0, 0))) :
    x.cell? ⟨Q, 0, none⟩ = some v0 ∧ x.cell? ⟨Q, 1, none⟩ = some v1 ∧ x.cell? ⟨Q, 2, none⟩ = some v2 :=
  ⟨(cell_of h).trans rfl, (cell_of h).trans rfl, (cell_of h).trans rfl⟩
set_option maxHeartbeats 2000000 in
set_option maxRecDepth 20000 in
theorem wrec_any (p B : Nat) (l : List Nat) (r : Rec) (a : Option Addr) (cap : Nat) (first : Int) (n : Nat) (w0 w : World) (V : Hds w0 a r.hs) (h0 : Below w0.heap.size w0 w) (hp : w0.heap.size ≤ p) (h : Wr w p B l) (hi : I64 (r.t - first)) (hn : n ≤ 65536) (hm : Mod r) (hll : l.length + (fm (r.t - first) n r).length ≤ 140737488000000) :
    Calls Tryz.prog 86 #[.pointer (some ⟨p, 0, none⟩), recV r a cap, .int .i64 first, .int .i64 n] w (Lays p B (l ++ fm (r.t - first) n r) w) := by
  obtain ⟨hpB, hBw⟩ := h.pB
  have ho := fun x V => ownsize_any r a cap (r.t - first) n x V hi (by omega) (own_le _ _ _ hm) hm.n hm.k hm.v hm.h
  have hlen : l.length + (M.form (own (r.t - first) n r).length).length + (1 + (M.form (M.zz (r.t - first)).toNat).length + (M.form n).length + (ol r.kh r.kd).length + (ol r.vh r.vd).length + (M.form r.hs.length).length + (hl r.hs).length) ≤ 140737488000000 := by
    simp only [fm, own, List.length_append, List.length_cons, List.length_nil] at hll ⊢
    omega
  have hown := own_le (r.t - first) n r hm
  have HF : Hid (l ++ fm (r.t - first) n r = l ++ M.form (own (r.t - first) n r).length ++ nb 1 0 ++ M.form (M.zz (r.t - first)).toNat ++ M.form n ++ ol r.kh r.kd ++ ol r.vh r.vd ++ M.form r.hs.length ++ hl r.hs) := by
    unfold Hid fm
    conv => lhs; rhs; rhs; unfold own
    simp only [List.append_assoc]
    rfl
  have hz := hm.n
  rw [HF.out]
  generalize (own (r.t - first) n r).length = OL at *
  obtain ⟨t, kh, kd, vh, vd, hs⟩ := r
  simp only [recV] at *
  have hx : IntKind.i64.wrap (t - first) = t - first := wrap_in hi.1 hi.2
  have HI := hid hi
  have hi1 := hi.1
  have hi2 := hi.2
  have HVV := hid V
  have H0 := hid h0
  have CO := hid ho
  clear V h0 ho hm hll HF hi
  go_enter Tryz.func86, Tryz.ntmps86
  go_wp2_with fail
  have hw1 : Wr (w.alloc (.cells #[.int .i64 t, .bool kh, .string kd, .bool vh, .string vd, .slice a hs.length cap] 49)) p B l := h.alloc _
  have hq1 : (w.alloc (.cells #[.int .i64 t, .bool kh, .string kd, .bool vh, .string vd, .slice a hs.length cap] 49)).heap[w.heap.size]? = some (.cells #[.int .i64 t, .bool kh, .string kd, .bool vh, .string vd, .slice a hs.length cap] 49 (0, 0)) := heap_new _ _
  have hb1 : Below w0.heap.size w0 (w.alloc (.cells #[.int .i64 t, .bool kh, .string kd, .bool vh, .string vd, .slice a hs.length cap] 49)) := H0.out.alloc H0.out.size _
  have hc1 : Ch (WU p B w) w (w.alloc (.cells #[.int .i64 t, .bool kh, .string kd, .bool vh, .string vd, .slice a hs.length cap] 49)) := Ch.alloc (Ch.refl _ _) _
  have hQ : w.heap.size ≠ p := by omega
  generalize hW : w.alloc (.cells #[.int .i64 t, .bool kh, .string kd, .bool vh, .string vd, .slice a hs.length cap] 49) = W at *
  generalize w.heap.size = Q at *
  have k1 : WK p B Q #[.int .i64 t, .bool kh, .string kd, .bool vh, .string vd, .slice a hs.length cap] 49 W W l := ⟨hw1, Ch.refl _ _, hq1⟩
  have HB1 := hid hb1
  have HC1 := hid hc1
  clear hw1 hq1 hb1 hc1 hW h
  have C1 := hid (fun x (k : WK p B Q #[.int .i64 t, .bool kh, .string kd, .bool vh, .string vd, .slice a hs.length cap] 49 W x l) => (CO.out x (hds_ch HVV.out HB1.out hp hpB k.ch)).mono fun _ _ h => And.intro h.1 (k.below h.2))
  have C2 := hid (fun x (k : WK p B Q #[.int .i64 t, .bool kh, .string kd, .bool vh, .string vd, .slice a hs.length cap] 49 W x l) => (wuvarint_any p B l OL x k.wr (by omega) (by omega)).mono fun _ _ h => And.intro h.1 (k.next hQ (by decide) h))
  have x1 : IntKind.u64.wrap (OL : Int) = OL := by rw [IntKind.wrap_u64]; omega
  go_region_held3 (fun x => x.cell? ⟨Q, 0, none⟩ = some (.int .i64 t) ∧ x.cell? ⟨Q, 1, none⟩ = some (.bool kh) ∧ x.cell? ⟨Q, 2, none⟩ = some (.string kd) ∧ x.cell? ⟨Q, 3, none⟩ = some (.bool vh) ∧ x.cell? ⟨Q, 4, none⟩ = some (.string vd) ∧ x.cell? ⟨Q, 5, none⟩ = some (.slice a hs.length cap)) (first | exact cells6 (WK.q (by assumption)) | exact cells6 (WK.q (WK.drew (by assumption)))) (first | (go_at_call 123; refine (C1.out _ ?_).mono ?_; (first | assumption | exact WK.drew (by assumption)); rintro e w' ⟨rfl, hk⟩) | (go_at_call 122; refine (C2.out _ ?_).mono ?_; (first | assumption | exact WK.drew (by assumption)); rintro e w' ⟨rfl, hk⟩))
  clear C1 C2 CO x1
  go_wp2_with fail
  refine (wu8_any p B _ 0 _ hk.wr (by omega) (by simp only [List.length_append]; omega)).mono ?_
  rintro e w2 he
  have k2 := hk.next hQ (by decide) he
  obtain ⟨rfl, _, _⟩ := he
  clear hk
  go_wp2_with fail
  refine (wvarint_any p B _ (t - first) _ k2.wr hi1 hi2 (by simp only [List.length_append, nb_len]; omega)).mono ?_
  rintro e w3 he
  have k3 := k2.next hQ (by decide) he
  obtain ⟨rfl, _, _⟩ := he
  clear k2
  go_wp2_with fail
  refine (wuvarint_any p B _ n _ k3.wr (by omega) (by simp only [List.length_append, nb_len]; omega)).mono ?_
  rintro e w4 he
  have k4 := k3.next hQ (by decide) he
  obtain ⟨rfl, _, _⟩ := he
  clear k3
  go_wp2_with fail
  have C4 := hid (fun x (k : WK p B Q #[.int .i64 t, .bool kh, .string kd, .bool vh, .string vd, .slice a hs.length cap] 49 W x (l ++ M.form OL ++ nb 1 0 ++ M.form (M.zz (t - first)).toNat ++ M.form n)) => (wol_any p B _ kh kd x k.wr (by simp only [List.length_append, nb_len]; omega)).mono fun _ _ h => And.intro h.1 (k.next hQ (by decide) h))
  go_region_held3 (fun x => x.cell? ⟨Q, 0, none⟩ = some (.int .i64 t) ∧ x.cell? ⟨Q, 1, none⟩ = some (.bool kh) ∧ x.cell? ⟨Q, 2, none⟩ = some (.string kd) ∧ x.cell? ⟨Q, 3, none⟩ = some (.bool vh) ∧ x.cell? ⟨Q, 4, none⟩ = some (.string vd) ∧ x.cell? ⟨Q, 5, none⟩ = some (.slice a hs.length cap)) (first | exact cells6 (WK.q (by assumption)) | exact cells6 (WK.q (WK.drew (by assumption)))) (first | (go_at_call 125; refine (C4.out _ ?_).mono ?_; (first | assumption | exact WK.drew (by assumption)); rintro e w' ⟨rfl, k5⟩))
  clear C4 k4
  go_wp2_with fail
  have C5 := hid (fun x (k : WK p B Q #[.int .i64 t, .bool kh, .string kd, .bool vh, .string vd, .slice a hs.length cap] 49 W x (l ++ M.form OL ++ nb 1 0 ++ M.form (M.zz (t - first)).toNat ++ M.form n ++ ol kh kd)) => (wol_any p B _ vh vd x k.wr (by simp only [List.length_append, nb_len]; omega)).mono fun _ _ h => And.intro h.1 (k.next hQ (by decide) h))
  go_region_held3 (fun x => x.cell? ⟨Q, 0, none⟩ = some (.int .i64 t) ∧ x.cell? ⟨Q, 1, none⟩ = some (.bool kh) ∧ x.cell? ⟨Q, 2, none⟩ = some (.string kd) ∧ x.cell? ⟨Q, 3, none⟩ = some (.bool vh) ∧ x.cell? ⟨Q, 4, none⟩ = some (.string vd) ∧ x.cell? ⟨Q, 5, none⟩ = some (.slice a hs.length cap)) (first | exact cells6 (WK.q (by assumption)) | exact cells6 (WK.q (WK.drew (by assumption)))) (first | (go_at_call 125; refine (C5.out _ ?_).mono ?_; (first | assumption | exact WK.drew (by assumption)); rintro e w' ⟨rfl, k6⟩))
  clear C5 k5
  go_wp2_with fail
  have x1 : IntKind.u64.wrap (hs.length : Int) = hs.length := by rw [IntKind.wrap_u64]; omega
  have C6 := hid (fun x (k : WK p B Q #[.int .i64 t, .bool kh, .string kd, .bool vh, .string vd, .slice a hs.length cap] 49 W x (l ++ M.form OL ++ nb 1 0 ++ M.form (M.zz (t - first)).toNat ++ M.form n ++ ol kh kd ++ ol vh vd)) => (wuvarint_any p B _ hs.length x k.wr (by omega) (by simp only [List.length_append, nb_len]; omega)).mono fun _ _ h => And.intro h.1 (k.next hQ (by decide) h))
  go_region_held3 (fun x => x.cell? ⟨Q, 0, none⟩ = some (.int .i64 t) ∧ x.cell? ⟨Q, 1, none⟩ = some (.bool kh) ∧ x.cell? ⟨Q, 2, none⟩ = some (.string kd) ∧ x.cell? ⟨Q, 3, none⟩ = some (.bool vh) ∧ x.cell? ⟨Q, 4, none⟩ = some (.string vd) ∧ x.cell? ⟨Q, 5, none⟩ = some (.slice a hs.length cap)) (first | exact cells6 (WK.q (by assumption)) | exact cells6 (WK.q (WK.drew (by assumption)))) (first | (go_at_call 122; refine (C6.out _ ?_).mono ?_; (first | assumption | exact WK.drew (by assumption)); rintro e w' ⟨rfl, k7⟩))
  clear C6 k6
  clear x1
  have c5 := (cells6 k7.q).2.2.2.2.2
  have K7 := hid k7
  obtain ⟨l7, e7⟩ : ∃ l7, l7 = l ++ M.form OL ++ nb 1 0 ++ M.form (M.zz (t - first)).toNat ++ M.form n ++ ol kh kd ++ ol vh vd ++ M.form hs.length := ⟨_, rfl⟩
  rw [← e7] at K7 ⊢
  have hl7 : l7.length + (hl hs).length ≤ 140737488000000 := by rw [e7]; simp only [List.length_append, nb_len]; omega
  have E7 := hid e7
  clear k7 e7
  go_wp2_with fail
  go_loopg [62] hs.length (fun k i wr => ∃ j : Nat, j + k = hs.length ∧ i = .int .i64 j ∧ Wr wr p B (l7 ++ hl (hs.take j)) ∧ Ch (WU p B W) W wr)
  case atStart => exact ⟨0, by omega, rfl, by simp only [List.take_zero]; simpa [hl] using K7.out.wr, K7.out.ch⟩
  case round =>
    obtain ⟨j, hk, rfl, hwr, hch⟩ := hrel
    by_cases hlt : j < hs.length
    · obtain ⟨k, rfl⟩ : ∃ k, gk = k + 1 := ⟨gk - 1, by omega⟩
      have HTK := hid (hl_take hs j hlt)
      have htl2 := hl_take_le hs (j + 1)
      have HV2 := hid (hds_ch HVV.out HB1.out hp hpB hch)
      rcases HV2.out with h | ⟨b, off, rfl, hbl, hc⟩
      · rw [h] at hlt; simp at hlt
      obtain ⟨q0, q1, q2⟩ := hc j hlt
      rw [HTK.out, List.length_append, hl1, List.length_append] at htl2
      generalize hs.getD j df = x at *
      obtain ⟨xk, xh, xd⟩ := x
      simp only at q0 q1 q2 htl2
      have b1 : (0 : Int) ≤ (j : Int) := by omega
      have b2 : (j : Int) < hs.length := by omega
      have hpw := hwr.lt
      clear hc
      go_wp2_with fail
      have kk : WK p B wr.heap.size #[.string xk, .bool xh, .string xd] 51 (wr.alloc (.cells #[.string xk, .bool xh, .string xd] 51)) (wr.alloc (.cells #[.string xk, .bool xh, .string xd] 51)) (l7 ++ hl (hs.take j)) := ⟨hwr.alloc _, Ch.refl _ _, heap_new _ _⟩
      have hcc : Ch (WU p B W) W (wr.alloc (.cells #[.string xk, .bool xh, .string xd] 51)) := hch.alloc _
      have hQ2 : wr.heap.size ≠ p := by omega
      generalize wr.alloc (.cells #[.string xk, .bool xh, .string xd] 51) = W2 at *
      have HCC := hid hcc
      clear hcc hwr hch
      have D1 := hid (fun x (k : WK p B wr.heap.size #[.string xk, .bool xh, .string xd] 51 W2 x (l7 ++ hl (hs.take j))) => (wtx_any p B _ xk x k.wr (by rw [List.length_append]; omega)).mono fun _ _ h => And.intro h.1 (k.next hQ2 (by decide) h))
      go_region_held3 (fun x => x.cell? ⟨wr.heap.size, 0, none⟩ = some (.string xk) ∧ x.cell? ⟨wr.heap.size, 1, none⟩ = some (.bool xh) ∧ x.cell? ⟨wr.heap.size, 2, none⟩ = some (.string xd)) (first | exact cells3 (WK.q (by assumption)) | exact cells3 (WK.q (WK.drew (by assumption)))) (first | (go_at_call 126; refine (D1.out _ ?_).mono ?_; (first | assumption | exact WK.drew (by assumption)); rintro e w' ⟨rfl, kk2⟩))
      clear D1 kk
      go_wp2_with fail
      have D2 := hid (fun x (k : WK p B wr.heap.size #[.string xk, .bool xh, .string xd] 51 W2 x (l7 ++ hl (hs.take j) ++ tx xk)) => (wol_any p B _ xh xd x k.wr (by rw [List.length_append, List.length_append]; omega)).mono fun _ _ h => And.intro h.1 (k.next hQ2 (by decide) h))
      go_region_held3 (fun x => x.cell? ⟨wr.heap.size, 0, none⟩ = some (.string xk) ∧ x.cell? ⟨wr.heap.size, 1, none⟩ = some (.bool xh) ∧ x.cell? ⟨wr.heap.size, 2, none⟩ = some (.string xd)) (first | exact cells3 (WK.q (by assumption)) | exact cells3 (WK.q (WK.drew (by assumption)))) (first | (go_at_call 125; refine (D2.out _ ?_).mono ?_; (first | assumption | exact WK.drew (by assumption)); rintro e w' ⟨rfl, kk3⟩))
      clear D2 kk2
      have K3 := hid kk3
      clear kk3
      go_wp2_with fail
      go_roundg k
      case measure => omega
      case rel =>
        refine ⟨j + 1, by omega, by go_num, ?_, HCC.out.tu K3.out.ch⟩
        rw [HTK.out, hl1, ← List.append_assoc, ← List.append_assoc]
        exact K3.out.wr
    · have hj : j = hs.length := by omega
      subst hj
      rw [List.take_length] at hwr
      go_wp2_with fail
      go_end0
      exact ⟨rfl, by rw [← E7.out]; exact hwr, HC1.out.tu hch⟩
end Go.Proofs.YtihokphamgkkcaaGreat
namespace Go.Proofs.YtihokphamgkkcaaGreat
open Go.RowKit
/-- What record leaves. -/
def RPost (q pb : Nat) (p : ByteArray) (B : Nat) (first : Int) (n : Nat) (w : World) (r : Ending) (w' : World) : Prop :=
  ∃ (x : Rec) (a : Option Addr) (cap : Nat) (f' k' e' : Nat), r = .returned (recV x a cap) ∧ OwnH w' B (.slice a x.hs.length cap) x.hs ∧ RR w' q pb f' ∧ Rd w' pb p k' e' ∧ k' ≤ p.size ∧ Ch (fun i => i = pb ∨ i = q) w w' ∧ (fl f' e' ≠ 0 → r1 p first n = .error (fl f' e')) ∧ (fl f' e' = 0 → r1 p first n = if k' < p.size then .error 26 else .ok x)
theorem own_base {w : World} {B B' : Nat} {v : Value} {rs : List Hdr} (hB : B ≤ B') (h : OwnH w B' v rs) : OwnH w B v rs := by
  obtain ⟨h1, h2⟩ := h
  refine ⟨h1, ?_⟩
  rcases h2 with h2 | ⟨g, cap, cur, rfl, hg, r⟩
  · exact Or.inl h2
  · exact Or.inr ⟨g, cap, cur, rfl, Nat.le_trans hB hg, r⟩
theorem cells22 {x : World} {A B : Nat} {T U : TypeId} {v0 v1 v2 v3 : Value} (h1 : x.heap[A]? = some (.cells #[v0, v1] T (0, 0))) (h2 : x.heap[B]? = some (.cells #[v2, v3] U (0, 0))) :
    x.cell? ⟨A, 0, none⟩ = some v0 ∧ x.cell? ⟨A, 1, none⟩ = some v1 ∧ x.cell? ⟨B, 0, none⟩ = some v2 ∧ x.cell? ⟨B, 1, none⟩ = some v3 :=
  ⟨(cell_of h1).trans rfl, (cell_of h1).trans rfl, (cell_of h2).trans rfl, (cell_of h2).trans rfl⟩
theorem store6 {x : World} {A R : Nat} {o : Obj} {v0 v1 v2 v3 v4 v5 : Value} (h : x.heap[A]? = some o) (hne : A ≠ R) :
    ((((((x.setCell ⟨R, 0, none⟩ v0).setCell ⟨R, 1, none⟩ v1).setCell ⟨R, 2, none⟩ v2).setCell ⟨R, 3, none⟩ v3).setCell ⟨R, 4, none⟩ v4).setCell ⟨R, 5, none⟩ v5).heap[A]? = some o :=
  heap_set_far (heap_set_far (heap_set_far (heap_set_far (heap_set_far (heap_set_far h hne) hne) hne) hne) hne) hne
theorem store6_eq {x : World} {A R : Nat} {v0 v1 v2 v3 v4 v5 : Value} (hne : A ≠ R) :
    ((((((x.setCell ⟨R, 0, none⟩ v0).setCell ⟨R, 1, none⟩ v1).setCell ⟨R, 2, none⟩ v2).setCell ⟨R, 3, none⟩ v3).setCell ⟨R, 4, none⟩ v4).setCell ⟨R, 5, none⟩ v5).heap[A]? = x.heap[A]? := by
  rw [Below.heap_setCell _ _ _ _ hne, Below.heap_setCell _ _ _ _ hne, Below.heap_setCell _ _ _ _ hne, Below.heap_setCell _ _ _ _ hne, Below.heap_setCell _ _ _ _ hne, Below.heap_setCell _ _ _ _ hne]
theorem World.drew_heap {x : World} {A : Nat} {o : Obj} (h : x.heap[A]? = some o) : x.drew.heap[A]? = some o := h
theorem wrap_id {x : Int} (h : I64 x) : wrap64 x = x := by
  obtain ⟨h1, h2⟩ := h
  unfold wrap64
  omega
set_option maxHeartbeats 800000 in
set_option maxRecDepth 20000 in
theorem record_any (q pb : Nat) (p : ByteArray) (first : Int) (n : Nat) (w : World) (h : RR w q pb 0) (hr : Rd w pb p 0 0) (hq : pb ≠ q) (hs : p.size ≤ 9223372036854775807) (hf : I64 first) (hn : n < 65536) :
    Calls Tryz.prog 114 #[.pointer (some ⟨q, 0, none⟩), .int .i64 first, .int .i64 n] w (RPost q pb p w.heap.size first n w) := by
  obtain ⟨a, k1, e1, hA⟩ : ∃ a k1 e1, fx 1 p 0 0 = (a, k1, e1) := ⟨_, _, _, rfl⟩
  obtain ⟨d, k2, e2, hD⟩ : ∃ d k2 e2, vq p k1 e1 = (d, k2, e2) := ⟨_, _, _, rfl⟩
  obtain ⟨m, k3, e3, hU⟩ : ∃ m k3 e3, uq p k2 e2 = (m, k3, e3) := ⟨_, _, _, rfl⟩
  obtain ⟨kh, kd, k4, e4, hK⟩ : ∃ kh kd k4 e4, oq MX p k3 e3 = (kh, kd, k4, e4) := ⟨_, _, _, _, rfl⟩
  obtain ⟨vh, vd, k5, e5, hV⟩ : ∃ vh vd k5 e5, oq MX p k4 e4 = (vh, vd, k5, e5) := ⟨_, _, _, _, rfl⟩
  have l1 := fx_le (n := 1) (e := 0) (Nat.zero_le p.size)
  rw [hA] at l1
  have l2 := vq_le (e := e1) l1
  have ld := vq_bd (s := p) (k := k1) (e := e1)
  rw [hD] at l2 ld
  have l3 := uq_le (e := e2) l2
  rw [hU] at l3
  have l4 := oq_le (m := MX) (e := e3) l3
  rw [hK] at l4
  have l5 := oq_le (m := MX) (e := e4) l4
  rw [hV] at l5
  dsimp only at l1 l2 l3 l4 l5 ld
  have C1 := hid (fun x hr => u8_any pb p 0 0 x hr (Nat.zero_le _) hs)
  have C2 := hid (fun x hr => varint_any pb p k1 e1 x hr l1 hs)
  have C3 := hid (fun x hr => uvarint_any pb p k2 e2 x hr l2 hs)
  have C4 := hid (fun x hr => ropt_any pb p k3 e3 9223372036854775807 x hr l3 hs (by omega) (by omega))
  have C5 := hid (fun x hr => ropt_any pb p k4 e4 9223372036854775807 x hr l4 hs (by omega) (by omega))
  have C6 := hid (fun f x h hr => headers_any q pb f p k5 e5 x h hr hq l5 hs)
  rw [hA] at C1
  rw [hD] at C2
  rw [hU] at C3
  rw [hK] at C4
  rw [hV] at C5
  have HCH := hid (fun b1 f1 b2 f2 b3 f3 hs f' k' e' => @chain p first n a k1 e1 b1 f1 d k2 e2 b2 f2 m k3 e3 b3 f3 kh kd k4 e4 vh vd k5 e5 hs f' k' e' hA)
  have HD := hid hD
  have HU := hid hU
  have HK := hid hK
  have HV := hid hV
  have HLD := hid ld
  have H := hid h
  have HR := hid hr
  have hlq := h.lt
  have hlb := hr.lt
  clear hA hD hU hK hV l1 l2 l3 l4 l5 ld h hr hs
  go_enter Tryz.func114, Tryz.ntmps114
  have c0 := H.out.c0
  go_wp2_with fail
  refine (C1.out _ (HR.out.alloc _)).mono ?_
  rintro r w1 ⟨rfl, hr1, hc1⟩
  have hres1 : w1.heap[w.heap.size]? = some (.cells #[.int .i64 0, .bool false, .string ⟨#[]⟩, .bool false, .string ⟨#[]⟩, .slice none 0 0] 49 (0, 0)) := (hc1.block _ (by simp) (by omega)).trans (heap_new _ _)
  have h1 : RR w1 q pb 0 := ((show RR _ q pb 0 from heap_alloc_at H.out)).ch hc1 (fun h => hq h.symm)
  have hcc1 : Ch (fun i => i = pb ∨ i = q) w w1 := ((Ch.refl _ _).alloc _).then hc1 (fun _ _ h => Or.inl h)
  have d1 := h1.c0
  have HRES := hid hres1
  have HCC := hid hcc1
  have H1 := hid h1
  have HR1 := hid hr1
  clear c0 hres1 h1 hr1 hcc1 hc1
  go_wp2_with fail
  refine (refuse_any q pb 0 p k1 e1 26 ((a : Int) != 0) w1 H1.out HR1.out hq).mono ?_
  rintro r w2 ⟨rfl, h2, hr2, hc2⟩
  obtain ⟨f1, hf1⟩ : ∃ x, x = rf ((a : Int) != 0) 26 0 e1 := ⟨_, rfl⟩
  rw [← hf1] at h2
  have HFf1 := hid hf1
  have HRES2 : Hid (w2.heap[w.heap.size]? = some (.cells #[.int .i64 0, .bool false, .string ⟨#[]⟩, .bool false, .string ⟨#[]⟩, .slice none 0 0] 49 (0, 0))) := (hc2.block _ (lt_of_heap HRES.out) (by omega)).trans HRES.out
  have HCC2 := hid (HCC.out.then hc2 (fun _ _ h => Or.inr h))
  have c0_2 := h2.c0
  have H2 := hid h2
  have HR2 := hid hr2
  clear h2 hr2 hc2 H1 HR1 d1 HCC HRES
  clear hf1
  go_wp2_with fail
  refine (C2.out w2 HR2.out).mono ?_
  rintro r w3 ⟨rfl, hr3, hc3⟩
  have h3 : RR w3 q pb f1 := H2.out.ch hc3 (fun h => hq h.symm)
  have HRES3 : Hid (w3.heap[w.heap.size]? = some (.cells #[.int .i64 0, .bool false, .string ⟨#[]⟩, .bool false, .string ⟨#[]⟩, .slice none 0 0] 49 (0, 0))) := (hc3.block _ (lt_of_heap HRES2.out) (by omega)).trans HRES2.out
  have HCC3 := hid (HCC2.out.then hc3 (fun _ _ h => Or.inl h))
  have c0_3 := h3.c0
  have H3 := hid h3
  have HR3 := hid hr3
  clear h3 hr3 hc3 H2 HR2 c0_2 HCC2 HRES2
  have CS := hid (fun x => sum_any first d x hf HLD.out)
  go_wp2_with (go_at_call 163; refine (CS.out _).mono ?_; rintro e w3 ⟨rfl, rfl⟩)
  refine (refuse_any q pb f1 p k2 e2 27 (!decide (I64 (first + d))) w3 H3.out HR3.out hq).mono ?_
  rintro r w4 ⟨rfl, h4, hr4, hc4⟩
  obtain ⟨f2, hf2⟩ : ∃ x, x = rf (!decide (I64 (first + d))) 27 f1 e2 := ⟨_, rfl⟩
  rw [← hf2] at h4
  have HFf2 := hid hf2
  have HRES4 : Hid (w4.heap[w.heap.size]? = some (.cells #[.int .i64 0, .bool false, .string ⟨#[]⟩, .bool false, .string ⟨#[]⟩, .slice none 0 0] 49 (0, 0))) := (hc4.block _ (lt_of_heap HRES3.out) (by omega)).trans HRES3.out
  have HCC4 := hid (HCC3.out.then hc4 (fun _ _ h => Or.inr h))
  have c0_4 := h4.c0
  have H4 := hid h4
  have HR4 := hid hr4
  clear h4 hr4 hc4 H3 HR3 c0_3 HCC3 HRES3
  clear hf2 CS
  go_wp2_with fail
  refine (C3.out w4 HR4.out).mono ?_
  rintro r w5 ⟨rfl, hr5, hc5⟩
  have h5 : RR w5 q pb f2 := H4.out.ch hc5 (fun h => hq h.symm)
  have HRES5 : Hid (w5.heap[w.heap.size]? = some (.cells #[.int .i64 0, .bool false, .string ⟨#[]⟩, .bool false, .string ⟨#[]⟩, .slice none 0 0] 49 (0, 0))) := (hc5.block _ (lt_of_heap HRES4.out) (by omega)).trans HRES4.out
  have HCC5 := hid (HCC4.out.then hc5 (fun _ _ h => Or.inl h))
  have c0_5 := h5.c0
  have H5 := hid h5
  have HR5 := hid hr5
  clear h5 hr5 hc5 H4 HR4 c0_4 HCC4 HRES4
  have hwn : IntKind.u64.wrap (n : Int) = n := by rw [IntKind.wrap_u64]; omega
  go_wp2_with fail
  refine (refuse_any q pb f2 p k3 e3 27 ((m : Int) != (n : Int)) w5 H5.out HR5.out hq).mono ?_
  rintro r w6 ⟨rfl, h6, hr6, hc6⟩
  obtain ⟨f3, hf3⟩ : ∃ x, x = rf ((m : Int) != (n : Int)) 27 f2 e3 := ⟨_, rfl⟩
  rw [← hf3] at h6
  have HFf3 := hid hf3
  have HRES6 : Hid (w6.heap[w.heap.size]? = some (.cells #[.int .i64 0, .bool false, .string ⟨#[]⟩, .bool false, .string ⟨#[]⟩, .slice none 0 0] 49 (0, 0))) := (hc6.block _ (lt_of_heap HRES5.out) (by omega)).trans HRES5.out
  have HCC6 := hid (HCC5.out.then hc6 (fun _ _ h => Or.inr h))
  have c0_6 := h6.c0
  have H6 := hid h6
  have HR6 := hid hr6
  clear h6 hr6 hc6 H5 HR5 c0_5 HCC5 HRES5
  clear hf3 hwn
  go_wp2_with fail
  refine (C4.out w6 HR6.out).mono ?_
  rintro r w7 ⟨rfl, hr7, hc7⟩
  have h7 : RR w7 q pb f3 := H6.out.ch hc7 (fun h => hq h.symm)
  have HRES7 : Hid (w7.heap[w.heap.size]? = some (.cells #[.int .i64 0, .bool false, .string ⟨#[]⟩, .bool false, .string ⟨#[]⟩, .slice none 0 0] 49 (0, 0))) := (hc7.block _ (lt_of_heap HRES6.out) (by omega)).trans HRES6.out
  have HCC7 := hid (HCC6.out.then hc7 (fun _ _ h => Or.inl h))
  have c0_7 := h7.c0
  have H7 := hid h7
  have HR7 := hid hr7
  clear h7 hr7 hc7 H6 HR6 c0_6 HCC6 HRES6
  have hq7 : q ≠ w7.heap.size := by have := H7.out.lt; omega
  have hb7 : pb ≠ w7.heap.size := by have := HR7.out.lt; omega
  have hs7 := lt_of_heap HRES7.out
  have hlt7 := H7.out.lt
  have k7c : (w7.alloc (.cells #[.bool kh, .string kd] 46)).cell? ⟨q, 0, none⟩ = some (.pointer (some ⟨pb, 0, none⟩)) := (show RR _ q pb f3 from heap_alloc_at H7.out).c0
  go_wp2_with fail
  refine (C5.out _ (HR7.out.alloc _)).mono ?_
  rintro r w8 ⟨rfl, hr8, hc8⟩
  have hg8 : w8.heap[w7.heap.size]? = some (.cells #[.bool kh, .string kd] 46 (0, 0)) := (hc8.block _ (by simp) (fun h => hb7 h.symm)).trans (heap_new _ _)
  have h8 : RR w8 q pb f3 := (show RR _ q pb f3 from heap_alloc_at H7.out).ch hc8 (fun h => hq h.symm)
  have hres8 : w8.heap[w.heap.size]? = some (.cells #[.int .i64 0, .bool false, .string ⟨#[]⟩, .bool false, .string ⟨#[]⟩, .slice none 0 0] 49 (0, 0)) := (hc8.block _ (by simp; omega) (by omega)).trans (heap_alloc_at HRES7.out)
  have hcc8 : Ch (fun i => i = pb ∨ i = q) w w8 := (HCC7.out.alloc _).then hc8 (fun _ _ h => Or.inl h)
  have h9 : RR (w8.alloc (.cells #[.bool vh, .string vd] 46)) q pb f3 := heap_alloc_at h8
  have hr9 : Rd (w8.alloc (.cells #[.bool vh, .string vd] 46)) pb p k5 e5 := hr8.alloc _
  have hg9 : (w8.alloc (.cells #[.bool vh, .string vd] 46)).heap[w7.heap.size]? = some (.cells #[.bool kh, .string kd] 46 (0, 0)) := heap_alloc_at hg8
  have hv9 : (w8.alloc (.cells #[.bool vh, .string vd] 46)).heap[w8.heap.size]? = some (.cells #[.bool vh, .string vd] 46 (0, 0)) := heap_new _ _
  have hres9 : (w8.alloc (.cells #[.bool vh, .string vd] 46)).heap[w.heap.size]? = some (.cells #[.int .i64 0, .bool false, .string ⟨#[]⟩, .bool false, .string ⟨#[]⟩, .slice none 0 0] 49 (0, 0)) := heap_alloc_at hres8
  have hcc9 : Ch (fun i => i = pb ∨ i = q) w (w8.alloc (.cells #[.bool vh, .string vd] 46)) := hcc8.alloc _
  have c0_8 := h8.c0
  have hs8 : w.heap.size < w8.heap.size := lt_of_heap hres8
  have y3 : w8.heap.size ≠ pb ∧ w8.heap.size ≠ q := ⟨by have := hr8.lt; omega, by have := h8.lt; omega⟩
  clear h8 hr8 hg8 hres8 hcc8 hc8 H7 HR7 HRES7 HCC7 c0_7 k7c
  go_wp2_with fail
  generalize w8.alloc (.cells #[.bool vh, .string vd] 46) = w9 at *
  have H9 := hid h9
  have HR9 := hid hr9
  have HG9 := hid hg9
  have HV9 := hid hv9
  have HRES9 := hid hres9
  have HCC9 := hid hcc9
  have y1 : w7.heap.size ≠ pb := fun h => hb7 h.symm
  have y2 : w7.heap.size ≠ q := fun h => hq7 h.symm
  have z1 := lt_of_heap hg9
  have z2 := lt_of_heap hv9
  have z3 := lt_of_heap hres9
  clear h9 hr9 hg9 hv9 hres9 hcc9 c0_8
  have C7 : Hid (Calls Tryz.prog 165 #[.pointer (some ⟨q, 0, none⟩)] w9.drew fun r w10 => ∃ (a1 : Option Addr) (cap1 : Nat) (hs : List Hdr) (f' k' e' : Nat), r = .returned (.slice a1 hs.length cap1) ∧ Hid (OwnH w10 w.heap.size (.slice a1 hs.length cap1) hs ∧ RR w10 q pb f' ∧ Rd w10 pb p k' e' ∧ k' ≤ p.size ∧ Ch (fun i => i = pb ∨ i = q) w w10 ∧ (fl f' e' ≠ 0 → hres f3 e5 p k5 = .error (fl f' e')) ∧ (fl f' e' = 0 → hres f3 e5 p k5 = .ok (hs, k'))) ∧ Hid (w10.heap[w.heap.size]? = some (.cells #[.int .i64 0, .bool false, .string ⟨#[]⟩, .bool false, .string ⟨#[]⟩, .slice none 0 0] 49 (0, 0))) ∧ w10.heap[w7.heap.size]? = some (.cells #[.bool kh, .string kd] 46 (0, 0)) ∧ w10.heap[w8.heap.size]? = some (.cells #[.bool vh, .string vd] 46 (0, 0)) ∧ w10.cell? ⟨w.heap.size, 0, none⟩ = some (.int .i64 0) ∧ w10.cell? ⟨w.heap.size, 1, none⟩ = some (.bool false) ∧ w10.cell? ⟨w.heap.size, 2, none⟩ = some (.string ⟨#[]⟩) ∧ w10.cell? ⟨w.heap.size, 3, none⟩ = some (.bool false) ∧ w10.cell? ⟨w.heap.size, 4, none⟩ = some (.string ⟨#[]⟩) ∧ w10.cell? ⟨w.heap.size, 5, none⟩ = some (.slice none 0 0) ∧ w10.frozen? ⟨w.heap.size, 0, none⟩ = false ∧ w10.frozen? ⟨w.heap.size, 1, none⟩ = false ∧ w10.frozen? ⟨w.heap.size, 2, none⟩ = false ∧ w10.frozen? ⟨w.heap.size, 3, none⟩ = false ∧ w10.frozen? ⟨w.heap.size, 4, none⟩ = false ∧ w10.frozen? ⟨w.heap.size, 5, none⟩ = false) := by
    refine (C6.out f3 w9.drew (show RR w9.drew q pb f3 from H9.out) (show Rd w9.drew pb p k5 e5 from HR9.out)).mono ?_
    rintro r w10 ⟨v, hs, f', k', e', rfl, ho', h', hr', hk', hc', t1, t2⟩
    obtain ⟨a1, cap1, rfl, _, _⟩ := OwnH.slice ho'
    have r10 : w10.heap[w.heap.size]? = some (.cells #[.int .i64 0, .bool false, .string ⟨#[]⟩, .bool false, .string ⟨#[]⟩, .slice none 0 0] 49 (0, 0)) := (hc'.block w.heap.size z3 (by omega)).trans HRES9.out
    have m := cells6 r10
    refine ⟨a1, cap1, hs, f', k', e', rfl, ⟨own_base (show w.heap.size ≤ w9.drew.heap.size from Nat.le_of_lt z3) ho', h', hr', hk', HCC9.out.drew.trans hc', t1, t2⟩, r10, ?_, ?_, m.1, m.2.1, m.2.2.1, m.2.2.2.1, m.2.2.2.2.1, m.2.2.2.2.2, froz_of r10, froz_of r10, froz_of r10, froz_of r10, froz_of r10, froz_of r10⟩
    · exact (hc'.block _ z1 (by rintro (h | h); exact y1 h; exact y2 h)).trans HG9.out
    · exact (hc'.block _ z2 (by rintro (h | h); exact y3.1 h; exact y3.2 h)).trans HV9.out
  clear C6 H9 HR9 z1 z2 y1 y2 y3
  have HZ3 := hid z3
  clear z3
  have HGd : Hid (w9.drew.heap[w7.heap.size]? = some (.cells #[.bool kh, .string kd] 46 (0, 0))) := HG9.out
  have HVd : Hid (w9.drew.heap[w8.heap.size]? = some (.cells #[.bool vh, .string vd] 46 (0, 0))) := HV9.out
  have y4 : w7.heap.size ≠ w.heap.size := by omega
  have y5 : w8.heap.size ≠ w.heap.size := by omega
  go_region_held3 (fun x => x.cell? ⟨w7.heap.size, 0, none⟩ = some (.bool kh) ∧ x.cell? ⟨w7.heap.size, 1, none⟩ = some (.string kd) ∧ x.cell? ⟨w8.heap.size, 0, none⟩ = some (.bool vh) ∧ x.cell? ⟨w8.heap.size, 1, none⟩ = some (.string vd)) (first | with_reducible exact cells22 HG9.out HV9.out | with_reducible exact cells22 HGd.out HVd.out | with_reducible exact cells22 g1 g2 | with_reducible exact cells22 (store6 g1 y4) (store6 g2 y5)) (first | (go_at_call 165; refine C7.out.mono ?_; rintro r w10 ⟨a1, cap1, hs, f', k', e', rfl, KK, r10, g1, g2, m0, m1, m2, m3, m4, m5, n0, n1, n2, n3, n4, n5⟩))
  clear m0 m1 m2 m3 m4 m5 n0 n1 n2 n3 n4 n5 g1 g2 C7 C1 C2 C3 C4 C5 HG9 HV9 HGd HVd
  have f11 : ((((((w10.setCell ⟨w.heap.size, 0, none⟩ (.int .i64 (wrap64 (first + d)))).setCell ⟨w.heap.size, 1, none⟩ (.bool kh)).setCell ⟨w.heap.size, 2, none⟩ (.string kd)).setCell ⟨w.heap.size, 3, none⟩ (.bool vh)).setCell ⟨w.heap.size, 4, none⟩ (.string vd)).setCell ⟨w.heap.size, 5, none⟩ (.slice a1 hs.length cap1)).heap[w.heap.size]? = some (.cells #[.int .i64 (wrap64 (first + d)), .bool kh, .string kd, .bool vh, .string vd, .slice a1 hs.length cap1] 49 (0, 0)) := heap_set (heap_set (heap_set (heap_set (heap_set (heap_set r10.out)))))
  obtain ⟨j0, j1, j2, j3, j4, j5⟩ := cells6 f11
  clear f11
  go_wp2_with fail
  refine bodyPost_ret (v := .agg #[.int .i64 (wrap64 (first + d)), .bool kh, .string kd, .bool vh, .string vd, .slice a1 hs.length cap1]) (by simp [results, Tryz.results114, go_sem, j0, j1, j2, j3, j4, j5]) rfl ?_
  obtain ⟨o1, o2, o3, o4, o5, t1, t2⟩ := KK.out
  have hx : ∀ g, (Value.slice a1 hs.length cap1).ownBlock = some g → g ≠ w.heap.size := fun g hg h => own_ne o1 (h ▸ r10.out) (by decide) hg
  have hsp := HCH.out _ _ _ _ _ _ hs f' k' e' (by rw [bne_iff_ne]; omega) HFf1.out HD.out (by simp) HFf2.out HU.out (by rw [bne_iff_ne]; omega) HFf3.out HK.out HV.out t1 t2
  refine ⟨⟨wrap64 (first + d), kh, kd, vh, vd, hs⟩, a1, cap1, f', k', e', rfl, own_apart o1 (fun g hg => store6_eq (hx g hg)), store6 o2 (by omega), store6 o3 (by omega), o4, ?_, hsp.1, fun h => ?_⟩
  · exact (((((o5.setCell _ _ (by simp)).setCell _ _ (by simp)).setCell _ _ (by simp)).setCell _ _ (by simp)).setCell _ _ (by simp)).setCell _ _ (by simp)
  · obtain ⟨e1', e2'⟩ := hsp.2 h
    rw [e1', wrap_id e2']
end Go.Proofs.YtihokphamgkkcaaGreat
namespace Go.Proofs.YtihokphamgkkcaaGreat
open Go.RowKit
/-- What own leaves of a form's number. -/
def OPost (q pb : Nat) (s : ByteArray) (k : Nat) (w : World) (r : Ending) (w' : World) : Prop :=
  Ch (fun i => i = pb) w w' ∧ (((uq s k 0).2.2 ≠ 0 ∧ r = .returned (.tuple #[.pointer none, .int .i64 (uq s k 0).2.2])) ∨
  ((uq s k 0).2.2 = 0 ∧ s.size < (uq s k 0).2.1 + (uq s k 0).1 ∧ r = .returned (.tuple #[.pointer none, .int .i64 21])) ∨
  ((uq s k 0).2.2 = 0 ∧ (uq s k 0).2.1 + (uq s k 0).1 ≤ s.size ∧ ∃ q2 pb2, r = .returned (.tuple #[.pointer (some ⟨q2, 0, none⟩), .int .i64 0]) ∧ RR w' q2 pb2 0 ∧ Rd w' pb2 (s.extract (uq s k 0).2.1 ((uq s k 0).2.1 + (uq s k 0).1)) 0 0 ∧ pb2 ≠ q2 ∧ w.heap.size ≤ q2 ∧ w.heap.size ≤ pb2 ∧ RR w' q pb 0 ∧ Rd w' pb s ((uq s k 0).2.1 + (uq s k 0).1) 0))
set_option maxHeartbeats 1000000 in
set_option maxRecDepth 20000 in
theorem own_any (q pb : Nat) (s : ByteArray) (k : Nat) (w : World) (h : RR w q pb 0) (hr : Rd w pb s k 0) (hq : pb ≠ q) (hk : k ≤ s.size) (hs : s.size ≤ 9223372036854775807) :
    Calls Tryz.prog 113 #[.pointer (some ⟨q, 0, none⟩)] w (OPost q pb s k w) := by
  obtain ⟨L, k1, e1, hu⟩ : ∃ L k1 e1, uq s k 0 = (L, k1, e1) := ⟨_, _, _, rfl⟩
  have hk1 := uq_le (e := 0) hk
  have hLb := uq_bd (s := s) (k := k) (e := 0)
  have cu := uvarint_any pb s k 0 w hr hk hs
  unfold OPost
  rw [hu] at cu hk1 hLb ⊢
  dsimp only at cu hk1 hLb ⊢
  have CU := hid cu
  have H := hid h
  have c0 := h.c0
  have hlb := hr.lt
  have HU := hid hu
  clear cu h hr hu
  by_cases he : e1 = 0
  · subst he
    by_cases hx : s.size < k1 + L
    · have hx' : (s.size : Int) - k1 < (L : Int) := by omega
      have hw : IntKind.u64.wrap ((s.size : Int) - k1) = (s.size : Int) - k1 := by rw [IntKind.wrap_u64]; omega
      have HX := hid hx
      have HK1 := hid hk1
      have HS := hid hs
      clear hx hk1 hs hLb hk
      go_enter Tryz.func113, Tryz.ntmps113
      go_wp2_with fail
      refine CU.out.mono ?_
      rintro r w1 ⟨rfl, hr1, hc1⟩
      have h1 : RR w1 q pb 0 := H.out.ch hc1 (fun h => hq h.symm)
      have d0 := h1.c0
      have CL := hid (rleft_any pb s k1 0 w1 hr1 HK1.out HS.out)
      have HC1 := hid hc1
      clear h1 hr1 hc1
      go_wp2_with (go_at_call 116; refine CL.out.mono ?_; rintro r w2 ⟨rfl, nd, rfl⟩)
      go_ret2
      exact ⟨HC1.out.drewN _, Or.inr (Or.inl ⟨trivial, HX.out, rfl⟩)⟩
    · have hx' : ¬ (s.size : Int) - k1 < (L : Int) := by omega
      have hw : IntKind.u64.wrap ((s.size : Int) - k1) = (s.size : Int) - k1 := by rw [IntKind.wrap_u64]; omega
      have hw2 : IntKind.i64.wrap (L : Int) = L := wrap_in (by omega) (by omega)
      have hw3 : wrap64 (L : Int) = L := by unfold wrap64; omega
      have hrq : rq (L : Int) s k1 0 = (s.extract k1 (k1 + L), k1 + L, 0) := rq_ok (by omega)
      have hL2 : (L : Int) ≤ 9223372036854775807 := by omega
      have HX := hid hx
      have HK1 := hid hk1
      have HS := hid hs
      have HL2 := hid hL2
      have HRQ := hid hrq
      clear hx hk1 hs hLb hk hrq hL2
      go_enter Tryz.func113, Tryz.ntmps113
      go_wp2_with fail
      refine CU.out.mono ?_
      rintro r w1 ⟨rfl, hr1, hc1⟩
      have h1 : RR w1 q pb 0 := H.out.ch hc1 (fun h => hq h.symm)
      have d0 := h1.c0
      have CL := hid (rleft_any pb s k1 0 w1 hr1 HK1.out HS.out)
      have H1 := hid h1
      have HR1 := hid hr1
      have HC1 := hid hc1
      clear h1 hr1 hc1
      go_wp2_with (go_at_call 116; refine CL.out.mono ?_; rintro r w2 ⟨rfl, nd, rfl⟩)
      refine (rpart_ok pb s k1 (L : Int) _ (HR1.out.drewN nd) HS.out (by omega) HL2.out (by rw [HRQ.out])).mono ?_
      rintro r w3 ⟨pb2, hp2, rfl, hr2, hr3, hc3⟩
      rw [HRQ.out] at hr2 hr3
      dsimp only at hr2 hr3
      have h3 : RR w3 q pb 0 := (show RR (w1.drewN nd) q pb 0 from H1.out).ch hc3 (fun h => hq h.symm)
      have hz1 := HC1.out.size
      have hz3 := hc3.size
      have hp2' : w1.heap.size ≤ pb2 := hp2
      have hz3' : w1.heap.size ≤ w3.heap.size := hz3
      have hlp := hr2.lt
      have HF : Hid (RR (w3.alloc (.cells #[.pointer (some ⟨pb2, 0, none⟩), .int .i64 0] 119)) w3.heap.size pb2 0 ∧ Rd (w3.alloc (.cells #[.pointer (some ⟨pb2, 0, none⟩), .int .i64 0] 119)) pb2 (s.extract k1 (k1 + L)) 0 0 ∧ pb2 ≠ w3.heap.size ∧ w.heap.size ≤ w3.heap.size ∧ w.heap.size ≤ pb2 ∧ RR (w3.alloc (.cells #[.pointer (some ⟨pb2, 0, none⟩), .int .i64 0] 119)) q pb 0 ∧ Rd (w3.alloc (.cells #[.pointer (some ⟨pb2, 0, none⟩), .int .i64 0] 119)) pb s (k1 + L) 0) :=
        ⟨heap_new _ _, hr2.alloc _, by omega, by omega, by omega, heap_alloc_at h3, hr3.alloc _⟩
      have HCF := hid (((HC1.out.drewN nd).trans hc3).alloc (.cells #[.pointer (some ⟨pb2, 0, none⟩), .int .i64 0] 119))
      clear hr2 hr3 hc3 h3 hz1 hz3 hp2
      go_wp2_with fail
      go_ret2
      exact ⟨HCF.out, Or.inr (Or.inr ⟨trivial, by have := HX.out; omega, _, pb2, rfl, HF.out⟩)⟩
  · have hne : ((e1 : Int) != 0) = true := by rw [bne_iff_ne]; omega
    have HE := hid he
    clear he hk1 hLb hs hk
    go_enter Tryz.func113, Tryz.ntmps113
    go_wp2_with fail
    refine CU.out.mono ?_
    rintro r w1 ⟨rfl, hr1, hc1⟩
    have HC1 := hid hc1
    clear hr1 hc1
    go_wp2_with fail
    go_ret2
    exact ⟨HC1.out, Or.inl ⟨HE.out, rfl⟩⟩
def noRec : Value := .agg #[.int .i64 0, .bool false, .string ⟨#[]⟩, .bool false, .string ⟨#[]⟩, .slice none 0 0]
/-- What next leaves. -/
def NPost (q pb : Nat) (s : ByteArray) (B : Nat) (R : Except Nat (Rec × Nat)) (w : World) (r : Ending) (w' : World) : Prop :=
  Ch (fun i => i = pb) w w' ∧ match R with
    | .error x => r = .returned (.tuple #[noRec, .int .i64 x]) ∧ x ≠ 0
    | .ok y => ∃ a cap, r = .returned (.tuple #[recV y.1 a cap, .int .i64 0]) ∧ OwnH w' B (.slice a y.1.hs.length cap) y.1.hs ∧ RR w' q pb 0 ∧ Rd w' pb s y.2 0 ∧ y.2 ≤ s.size
theorem nxt_spec {s : ByteArray} {k : Nat} {first : Int} {n L k1 : Nat} (hu : uq s k 0 = (L, k1, 0)) (hx : k1 + L ≤ s.size) {x : Rec} {f' k' e' : Nat} {b1 b2 : Bool}
    (h1 : fl f' e' ≠ 0 → r1 (s.extract k1 (k1 + L)) first n = .error (fl f' e')) (h2 : fl f' e' = 0 → r1 (s.extract k1 (k1 + L)) first n = if k' < (s.extract k1 (k1 + L)).size then .error 26 else .ok x)
    (hb1 : b1 = true ↔ k' < (s.extract k1 (k1 + L)).size) (hb2 : b2 = true ↔ 16777216 < k1 + L - k) :
    (fl (rf b2 66 (rf b1 26 f' e') e') e' ≠ 0 → nxt s k first n = .error (fl (rf b2 66 (rf b1 26 f' e') e') e')) ∧ (fl (rf b2 66 (rf b1 26 f' e') e') e' = 0 → nxt s k first n = .ok (x, k1 + L)) := by
  unfold nxt
  rw [hu]
  dsimp only
  rw [if_neg (by simp)]
  unfold nx2
  rw [if_neg (by omega)]
  by_cases hz : fl f' e' = 0
  · obtain ⟨rfl, rfl⟩ := fl_zero hz
    rw [h2 hz]
    cases b1 with
    | true =>
      rw [rf_yes rfl, if_pos (hb1.1 rfl)]
      have e1 : fl (rf b2 66 26 0) 0 = 26 := by rw [fl_rf _ _ (by decide)]; rfl
      rw [e1]
      exact ⟨fun _ => rfl, fun h => by cases h⟩
    | false =>
      rw [rf_no, if_neg (fun h => by have := hb1.2 h; cases this)]
      dsimp only
      cases b2 with
      | true =>
        rw [rf_yes rfl, if_pos (hb2.1 rfl)]
        exact ⟨fun _ => rfl, fun h => by cases h⟩
      | false =>
        rw [rf_no, if_neg (fun h => by have := hb2.2 h; cases this)]
        exact ⟨fun h => absurd rfl h, fun _ => rfl⟩
  · have e1 := fl_rf b1 26 hz
    have e2 : fl (rf b2 66 (rf b1 26 f' e') e') e' = fl f' e' := by rw [fl_rf _ _ (by rw [e1]; exact hz), e1]
    rw [e2, h1 hz]
    exact ⟨fun _ => rfl, fun h => absurd h hz⟩
set_option maxHeartbeats 1000000 in
set_option maxRecDepth 20000 in
theorem next_any (q pb : Nat) (s : ByteArray) (k : Nat) (first : Int) (n : Nat) (w : World) (h : RR w q pb 0) (hr : Rd w pb s k 0) (hq : pb ≠ q) (hk : k ≤ s.size) (hs : s.size ≤ 9223372036854775807) (hf : I64 first) (hn : n < 65536) :
    Calls Tryz.prog 76 #[.pointer (some ⟨q, 0, none⟩), .int .i64 first, .int .i64 n] w (NPost q pb s w.heap.size (nxt s k first n) w) := by
  obtain ⟨L, k1, e1, hu⟩ : ∃ L k1 e1, uq s k 0 = (L, k1, e1) := ⟨_, _, _, rfl⟩
  have CW := hid (fun x h hr => own_any q pb s k x h hr hq hk hs)
  have CA := hid (fun x hr => rat_any pb s k 0 x hr)
  have HU := hid hu
  have c0 := h.c0
  have hlq := h.lt
  have hlb := hr.lt
  have HS := hid hs
  have HK := hid hk
  have H := hid h
  have HR := hid hr
  clear h hr hs hk hu
  go_enter Tryz.func76, Tryz.ntmps76
  go_wp2_with (go_at_call 112; refine (CA.out _ (HR.out.alloc _)).mono ?_; rintro r w1 ⟨rfl, rfl⟩)
  refine (CW.out _ (heap_alloc_at H.out) (HR.out.alloc _)).mono ?_
  rintro r w1 ⟨hc1, hcase⟩
  have hR1 : w1.heap[w.heap.size]? = some (.cells #[.int .i64 0, .bool false, .string ⟨#[]⟩, .bool false, .string ⟨#[]⟩, .slice none 0 0] 49 (0, 0)) := (hc1.block _ (by simp) (by omega)).trans (heap_new _ _)
  have hW0 : (w.alloc (.cells #[.int .i64 0, .bool false, .string ⟨#[]⟩, .bool false, .string ⟨#[]⟩, .slice none 0 0] 49)).heap.size = w.heap.size + 1 := by simp
  have HC1 : Hid (Ch (fun i => i = pb) w w1) := ((Ch.refl _ _).alloc _).trans hc1
  have HR1 := hid hR1
  rw [HU.out, hW0] at hcase
  dsimp only at hcase
  clear hc1 hR1 hW0
  rcases hcase with ⟨he, rfl⟩ | ⟨he, hx, rfl⟩ | ⟨he, hx, q2, pb2, rfl, h2, hr2, hq2, hlq2, hlp2, h3, hr3⟩
  · have hne : ((e1 : Int) != 0) = true := by rw [bne_iff_ne]; omega
    have HN : Hid (nxt s k first n = .error e1) := by unfold Hid nxt; rw [HU.out]; dsimp only; rw [if_pos he]
    have HE := hid he
    clear he
    have rr := HR1.out
    obtain ⟨m0, m1, m2, m3, m4, m5⟩ := cells6 rr
    have n0 := froz_of (i := 0) rr
    have n1 := froz_of (i := 1) rr
    have n2 := froz_of (i := 2) rr
    have n3 := froz_of (i := 3) rr
    have n4 := froz_of (i := 4) rr
    have n5 := froz_of (i := 5) rr
    clear rr
    go_wp2_with fail
    have f11 : ((((((w1.setCell ⟨w.heap.size, 0, none⟩ (.int .i64 0)).setCell ⟨w.heap.size, 1, none⟩ (.bool false)).setCell ⟨w.heap.size, 2, none⟩ (.string ⟨#[]⟩)).setCell ⟨w.heap.size, 3, none⟩ (.bool false)).setCell ⟨w.heap.size, 4, none⟩ (.string ⟨#[]⟩)).setCell ⟨w.heap.size, 5, none⟩ (.slice none 0 0)).heap[w.heap.size]? = some (.cells #[.int .i64 0, .bool false, .string ⟨#[]⟩, .bool false, .string ⟨#[]⟩, .slice none 0 0] 49 (0, 0)) := heap_set (heap_set (heap_set (heap_set (heap_set (heap_set HR1.out)))))
    obtain ⟨j0, j1, j2, j3, j4, j5⟩ := cells6 f11
    clear f11
    refine bodyPost_ret (v := .tuple #[noRec, .int .i64 e1]) (by simp [results, noRec, Tryz.results76, go_sem, j0, j1, j2, j3, j4, j5]) rfl ?_
    refine ⟨(((((HC1.out.setCell _ _ (by simp)).setCell _ _ (by simp)).setCell _ _ (by simp)).setCell _ _ (by simp)).setCell _ _ (by simp)).setCell _ _ (by simp), ?_⟩
    rw [HN.out]
    exact ⟨rfl, HE.out⟩
  · subst he
    have HN : Hid (nxt s k first n = .error 21) := by unfold Hid nxt; rw [HU.out]; dsimp only; rw [if_neg (by simp)]; unfold nx2; rw [if_pos hx]
    have rr := HR1.out
    obtain ⟨m0, m1, m2, m3, m4, m5⟩ := cells6 rr
    have n0 := froz_of (i := 0) rr
    have n1 := froz_of (i := 1) rr
    have n2 := froz_of (i := 2) rr
    have n3 := froz_of (i := 3) rr
    have n4 := froz_of (i := 4) rr
    have n5 := froz_of (i := 5) rr
    clear rr
    go_wp2_with fail
    have f11 : ((((((w1.setCell ⟨w.heap.size, 0, none⟩ (.int .i64 0)).setCell ⟨w.heap.size, 1, none⟩ (.bool false)).setCell ⟨w.heap.size, 2, none⟩ (.string ⟨#[]⟩)).setCell ⟨w.heap.size, 3, none⟩ (.bool false)).setCell ⟨w.heap.size, 4, none⟩ (.string ⟨#[]⟩)).setCell ⟨w.heap.size, 5, none⟩ (.slice none 0 0)).heap[w.heap.size]? = some (.cells #[.int .i64 0, .bool false, .string ⟨#[]⟩, .bool false, .string ⟨#[]⟩, .slice none 0 0] 49 (0, 0)) := heap_set (heap_set (heap_set (heap_set (heap_set (heap_set HR1.out)))))
    obtain ⟨j0, j1, j2, j3, j4, j5⟩ := cells6 f11
    clear f11
    refine bodyPost_ret (v := .tuple #[noRec, .int .i64 21]) (by simp [results, noRec, Tryz.results76, go_sem, j0, j1, j2, j3, j4, j5]) rfl ?_
    refine ⟨(((((HC1.out.setCell _ _ (by simp)).setCell _ _ (by simp)).setCell _ _ (by simp)).setCell _ _ (by simp)).setCell _ _ (by simp)).setCell _ _ (by simp), ?_⟩
    rw [HN.out]
    exact ⟨rfl, by decide⟩
  · subst he
    have hsz : (s.extract k1 (k1 + L)).size = L := by rw [ByteArray.size_extract]; omega
    have hL : L ≤ 9223372036854775807 := by have := HS.out; omega
    have CR := hid (record_any q2 pb2 (s.extract k1 (k1 + L)) first n w1 h2 hr2 hq2 (by rw [hsz]; exact hL) hf hn)
    have HSP := hid (fun x f' k' e' b1 b2 => @nxt_spec s k first n L k1 HU.out hx x f' k' e' b1 b2)
    have hl2 := h2.lt
    have hlp := hr2.lt
    have hl1 := lt_of_heap HR1.out
    have H3 := hid h3
    have HR3 := hid hr3
    have HSZ := hid hsz
    have HX := hid hx
    have HL := hid hL
    clear h2 hr2 h3 hr3 hsz hx hL
    generalize s.extract k1 (k1 + L) = P at *
    go_wp2_with fail
    refine CR.out.mono ?_
    rintro r w2 ⟨x, a, cap, f', k', e', rfl, ho, h4, hr4, hk4, hc4, t1, t2⟩
    have HT := hid (fun b1 b2 => HSP.out x f' k' e' b1 b2 t1 t2)
    have hR2 : w2.heap[w.heap.size]? = some (.cells #[.int .i64 0, .bool false, .string ⟨#[]⟩, .bool false, .string ⟨#[]⟩, .slice none 0 0] 49 (0, 0)) := (hc4.block _ hl1 (by omega)).trans HR1.out
    have h42 : RR w2 q pb 0 := H3.out.ch hc4 (by omega)
    have hr42 : Rd w2 pb s (k1 + L) 0 := HR3.out.ch hc4 (by omega)
    have HC2 : Hid (Ch (fun i => i = pb) w w2) := HC1.out.then hc4 (fun i hi h => by omega)
    have hs12 := hc4.size
    have ho2 := own_base (Nat.le_of_lt hl1) ho
    obtain ⟨xt, xkh, xkd, xvh, xvd, xhs⟩ := x
    simp only [recV] at *
    have G3 : (w2.alloc (.cells #[.int .i64 xt, .bool xkh, .string xkd, .bool xvh, .string xvd, .slice a xhs.length cap] 49)).heap[w2.heap.size]? = some (.cells #[.int .i64 xt, .bool xkh, .string xkd, .bool xvh, .string xvd, .slice a xhs.length cap] 49 (0, 0)) := heap_new _ _
    have K3 : RR (w2.alloc (.cells #[.int .i64 xt, .bool xkh, .string xkd, .bool xvh, .string xvd, .slice a xhs.length cap] 49)) q2 pb2 f' := heap_alloc_at h4
    have L3 : Rd (w2.alloc (.cells #[.int .i64 xt, .bool xkh, .string xkd, .bool xvh, .string xvd, .slice a xhs.length cap] 49)) pb2 P k' e' := hr4.alloc _
    have M3 : RR (w2.alloc (.cells #[.int .i64 xt, .bool xkh, .string xkd, .bool xvh, .string xvd, .slice a xhs.length cap] 49)) q pb 0 := heap_alloc_at h42
    have N3 : Rd (w2.alloc (.cells #[.int .i64 xt, .bool xkh, .string xkd, .bool xvh, .string xvd, .slice a xhs.length cap] 49)) pb s (k1 + L) 0 := hr42.alloc _
    have R3 : (w2.alloc (.cells #[.int .i64 xt, .bool xkh, .string xkd, .bool xvh, .string xvd, .slice a xhs.length cap] 49)).heap[w.heap.size]? = some (.cells #[.int .i64 0, .bool false, .string ⟨#[]⟩, .bool false, .string ⟨#[]⟩, .slice none 0 0] 49 (0, 0)) := heap_alloc_at hR2
    have O3 : OwnH (w2.alloc (.cells #[.int .i64 xt, .bool xkh, .string xkd, .bool xvh, .string xvd, .slice a xhs.length cap] 49)) w.heap.size (.slice a xhs.length cap) xhs := World.ownsRow.alloc ho2 _
    have C3 : Ch (fun i => i = pb) w (w2.alloc (.cells #[.int .i64 xt, .bool xkh, .string xkd, .bool xvh, .string xvd, .slice a xhs.length cap] 49)) := HC2.out.alloc _
    have dq : q2 < w2.heap.size := h4.lt
    have dp : pb2 < w2.heap.size := hr4.lt
    have HK4 := hid hk4
    have d0 := K3.c0
    clear ho ho2 h4 hr4 hc4 t1 t2 hR2 h42 hr42 CR HSP CW CA hk4
    go_wp2_with fail
    generalize w2.alloc (.cells #[.int .i64 xt, .bool xkh, .string xkd, .bool xvh, .string xvd, .slice a xhs.length cap] 49) = w3 at *
    have hPL : P.size ≤ 9223372036854775807 := by rw [HSZ.out]; exact HL.out
    refine (rleft_any pb2 P k' e' w3 L3 HK4.out hPL).mono ?_
    rintro r w4 ⟨rfl, nd, rfl⟩
    have K4 := hid (show RR (w3.drewN nd) q2 pb2 f' from K3)
    have L4 := hid (L3.drewN nd)
    have M4 := hid (show RR (w3.drewN nd) q pb 0 from M3)
    have N4 := hid (N3.drewN nd)
    have R4 := hid (show (w3.drewN nd).heap[w.heap.size]? = some (.cells #[.int .i64 0, .bool false, .string ⟨#[]⟩, .bool false, .string ⟨#[]⟩, .slice none 0 0] 49 (0, 0)) from R3)
    have G4 := hid (show (w3.drewN nd).heap[w2.heap.size]? = some (.cells #[.int .i64 xt, .bool xkh, .string xkd, .bool xvh, .string xvd, .slice a xhs.length cap] 49 (0, 0)) from G3)
    have O4 := hid (show OwnH (w3.drewN nd) w.heap.size (.slice a xhs.length cap) xhs from O3)
    have C4 := hid (C3.drewN nd)
    clear K3 L3 M3 N3 R3 G3 O3 C3 hPL
    go_wp2_with fail
    generalize w3.drewN nd = w4 at *
    refine (refuse_any q2 pb2 f' P k' e' 26 _ w4 K4.out L4.out hq2).mono ?_
    rintro r w5 ⟨rfl, K5, L5, c5⟩
    have c0' := K5.c0
    have M5 := hid (M4.out.ch c5 (by omega))
    have N5 := hid (N4.out.ch c5 (by omega))
    have R5 := hid ((c5.block _ (lt_of_heap R4.out) (by omega)).trans R4.out)
    have G5 := hid ((c5.block _ (lt_of_heap G4.out) (by omega)).trans G4.out)
    have O5 : Hid (OwnH w5 w.heap.size (.slice a xhs.length cap) xhs) := own_apart O4.out (fun g hg => c5.block g (World.ownsRow.lt O4.out g hg).2 (fun h => own_ne O4.out K4.out (by decide) (h ▸ hg)))
    have C5 : Hid (Ch (fun i => i = pb) w w5) := C4.out.then c5 (fun i hi h => by omega)
    have L5' := L5
    clear M4 N4 R4 G4 O4 C4
    have M50 := M5.out.c0
    have CA5 := hid (rat_any pb s (k1 + L) 0 w5 N5.out)
    clear L5 c5
    have L5 := hid L5'
    clear L5'
    have K5' := hid K5
    clear K5
    go_wp2_with (go_at_call 112; refine CA5.out.mono ?_; rintro r w5 ⟨rfl, rfl⟩)
    refine (refuse_any q2 pb2 _ P k' e' 66 _ w5 K5'.out L5.out hq2).mono ?_
    rintro r w6 ⟨rfl, K6, L6, c6⟩
    have c0'' := K6.c0
    have M6 := hid (M5.out.ch c6 (by omega))
    have N6 := hid (N5.out.ch c6 (by omega))
    have R6 := hid ((c6.block _ (lt_of_heap R5.out) (by omega)).trans R5.out)
    have G6 := hid ((c6.block _ (lt_of_heap G5.out) (by omega)).trans G5.out)
    have O6 : Hid (OwnH w6 w.heap.size (.slice a xhs.length cap) xhs) := own_apart O5.out (fun g hg => c6.block g (World.ownsRow.lt O5.out g hg).2 (fun h => own_ne O5.out K5'.out (by decide) (h ▸ hg)))
    have C6 : Hid (Ch (fun i => i = pb) w w6) := C5.out.then c6 (fun i hi h => by omega)
    have L6' := L6
    clear M5 N5 R5 G5 O5 C5
    have CF := hid (failed_any q2 pb2 _ P k' e' w6 K6 L6)
    clear L6 c6 K6 L6'
    go_wp2_with fail
    refine CF.out.mono ?_
    rintro r w7 ⟨rfl, rfl⟩
    have hT := HT.out (decide (k' < P.size)) (decide ((16777216 : Int) < wrap64 ((k1 : Int) + (L : Int) - (k : Int)))) (by rw [decide_eq_true_iff]) (by rw [decide_eq_true_iff]; unfold wrap64; have := HK.out; have := HX.out; have := HS.out; omega)
    clear HT CF CA5 M50 c0' c0'' d0 K5' L5
    generalize fl (rf (decide ((16777216 : Int) < wrap64 ((k1 : Int) + (L : Int) - (k : Int)))) 66 (rf (decide (k' < P.size)) 26 f' e') e') e' = F at hT ⊢
    by_cases hF : F = 0
    · have HN := hid (hT.2 hF)
      subst hF
      clear hT
      have rr := R6.out
      have gg := G6.out
      obtain ⟨m0, m1, m2, m3, m4, m5⟩ := cells6 rr
      have n0 := froz_of (i := 0) rr
      have n1 := froz_of (i := 1) rr
      have n2 := froz_of (i := 2) rr
      have n3 := froz_of (i := 3) rr
      have n4 := froz_of (i := 4) rr
      have n5 := froz_of (i := 5) rr
      obtain ⟨g0, g1, g2, g3, g4, g5⟩ := cells6 gg
      clear rr gg
      go_wp2_with fail
      have f11 : ((((((w7.setCell ⟨w.heap.size, 0, none⟩ (.int .i64 xt)).setCell ⟨w.heap.size, 1, none⟩ (.bool xkh)).setCell ⟨w.heap.size, 2, none⟩ (.string xkd)).setCell ⟨w.heap.size, 3, none⟩ (.bool xvh)).setCell ⟨w.heap.size, 4, none⟩ (.string xvd)).setCell ⟨w.heap.size, 5, none⟩ (.slice a xhs.length cap)).heap[w.heap.size]? = some (.cells #[.int .i64 xt, .bool xkh, .string xkd, .bool xvh, .string xvd, .slice a xhs.length cap] 49 (0, 0)) := heap_set (heap_set (heap_set (heap_set (heap_set (heap_set R6.out)))))
      obtain ⟨j0, j1, j2, j3, j4, j5⟩ := cells6 f11
      clear f11
      refine bodyPost_ret (v := .tuple #[.agg #[.int .i64 xt, .bool xkh, .string xkd, .bool xvh, .string xvd, .slice a xhs.length cap], .int .i64 0]) (by simp [results, Tryz.results76, go_sem, j0, j1, j2, j3, j4, j5]) rfl ?_
      refine ⟨(((((C6.out.setCell _ _ (by simp)).setCell _ _ (by simp)).setCell _ _ (by simp)).setCell _ _ (by simp)).setCell _ _ (by simp)).setCell _ _ (by simp), ?_⟩
      rw [HN.out]
      have hx : ∀ g, (Value.slice a xhs.length cap).ownBlock = some g → g ≠ w.heap.size := fun g hg h => own_ne O6.out (h ▸ R6.out) (by decide) hg
      exact ⟨a, cap, rfl, own_apart O6.out (fun g hg => store6_eq (hx g hg)), store6 M6.out (by omega), store6 N6.out (by omega), HX.out⟩
    · have HN := hid (hT.1 hF)
      have HF := hid hF
      have hne : ((F : Int) != 0) = true := by rw [bne_iff_ne]; omega
      clear hT hF
      have rr := R6.out
      obtain ⟨m0, m1, m2, m3, m4, m5⟩ := cells6 rr
      have n0 := froz_of (i := 0) rr
      have n1 := froz_of (i := 1) rr
      have n2 := froz_of (i := 2) rr
      have n3 := froz_of (i := 3) rr
      have n4 := froz_of (i := 4) rr
      have n5 := froz_of (i := 5) rr
      clear rr
      go_wp2_with fail
      have f11 : ((((((w7.setCell ⟨w.heap.size, 0, none⟩ (.int .i64 0)).setCell ⟨w.heap.size, 1, none⟩ (.bool false)).setCell ⟨w.heap.size, 2, none⟩ (.string ⟨#[]⟩)).setCell ⟨w.heap.size, 3, none⟩ (.bool false)).setCell ⟨w.heap.size, 4, none⟩ (.string ⟨#[]⟩)).setCell ⟨w.heap.size, 5, none⟩ (.slice none 0 0)).heap[w.heap.size]? = some (.cells #[.int .i64 0, .bool false, .string ⟨#[]⟩, .bool false, .string ⟨#[]⟩, .slice none 0 0] 49 (0, 0)) := heap_set (heap_set (heap_set (heap_set (heap_set (heap_set R6.out)))))
      obtain ⟨j0, j1, j2, j3, j4, j5⟩ := cells6 f11
      clear f11
      refine bodyPost_ret (v := .tuple #[noRec, .int .i64 F]) (by simp [results, noRec, Tryz.results76, go_sem, j0, j1, j2, j3, j4, j5]) rfl ?_
      refine ⟨(((((C6.out.setCell _ _ (by simp)).setCell _ _ (by simp)).setCell _ _ (by simp)).setCell _ _ (by simp)).setCell _ _ (by simp)).setCell _ _ (by simp), ?_⟩
      rw [HN.out]
      exact ⟨rfl, HF.out⟩
end Go.Proofs.YtihokphamgkkcaaGreat
namespace Go.Proofs.YtihokphamgkkcaaGreat
open Go.RowKit
def rd5 (s : ByteArray) (first n : Int) : Except Nat (Rec × Nat) := if ¬ (0 ≤ n ∧ n < 65536) then .error 1 else nxt s 0 first n.toNat
def ReadPost (R : Except Nat (Rec × Nat)) (w : World) (r : Ending) (w' : World) : Prop :=
  Below w.heap.size w w' ∧ match R with
    | .error x => r = .returned (.tuple #[noRec, .int .i64 0, .int .i64 x]) ∧ x ≠ 0
    | .ok y => ∃ a cap, r = .returned (.tuple #[recV y.1 a cap, .int .i64 y.2, .int .i64 0]) ∧ OwnH w' w.heap.size (.slice a y.1.hs.length cap) y.1.hs
theorem newrd_any (s : ByteArray) (w : World) :
    Calls Tryz.prog 75 #[.string s] w fun e w' => e = .returned (.pointer (some ⟨w.heap.size + 1, 0, none⟩)) ∧ w' = (w.alloc (.cells #[.int .i64 0, .string s, .int .i64 0] 172)).alloc (.cells #[.pointer (some ⟨w.heap.size, 0, none⟩), .int .i64 0] 119) := by
  have C := hid (newreader_any s w)
  go_enter Tryz.func75, Tryz.ntmps75
  go_wp2_with (go_at_call 102; refine C.out.mono ?_; rintro e w' ⟨rfl, rfl⟩)
  go_ret
  exact ⟨rfl, rfl⟩
theorem cells7 {x : World} {Q q : Nat} {T U : TypeId} {v0 v1 v2 v3 v4 v5 u0 u1 : Value} (h : x.heap[Q]? = some (.cells #[v0, v1, v2, v3, v4, v5] T (0, 0))) (k : x.heap[q]? = some (.cells #[u0, u1] U (0, 0))) :
    (x.cell? ⟨Q, 0, none⟩ = some v0 ∧ x.cell? ⟨Q, 1, none⟩ = some v1 ∧ x.cell? ⟨Q, 2, none⟩ = some v2 ∧ x.cell? ⟨Q, 3, none⟩ = some v3 ∧ x.cell? ⟨Q, 4, none⟩ = some v4 ∧ x.cell? ⟨Q, 5, none⟩ = some v5) ∧ x.cell? ⟨q, 0, none⟩ = some u0 := ⟨cells6 h, (cell_of k).trans rfl⟩
theorem drew_heap_eq (x : World) (A : Nat) : x.drew.heap[A]? = x.heap[A]? := rfl
theorem store6_eqd {x : World} {A R : Nat} {v0 v1 v2 v3 v4 v5 : Value} (hne : A ≠ R) :
    (((((((x.setCell ⟨R, 0, none⟩ v0).setCell ⟨R, 1, none⟩ v1).setCell ⟨R, 2, none⟩ v2).setCell ⟨R, 3, none⟩ v3).setCell ⟨R, 4, none⟩ v4).setCell ⟨R, 5, none⟩ v5).drew).heap[A]? = x.heap[A]? := (drew_heap_eq _ _).trans (store6_eq hne)
theorem store6_bel {w x : World} {R : Nat} {v0 v1 v2 v3 v4 v5 : Value} (h : Below R w x) :
    Below R w ((((((x.setCell ⟨R, 0, none⟩ v0).setCell ⟨R, 1, none⟩ v1).setCell ⟨R, 2, none⟩ v2).setCell ⟨R, 3, none⟩ v3).setCell ⟨R, 4, none⟩ v4).setCell ⟨R, 5, none⟩ v5) :=
  (((((h.setCell (Nat.le_refl _) _).setCell (Nat.le_refl _) _).setCell (Nat.le_refl _) _).setCell (Nat.le_refl _) _).setCell (Nat.le_refl _) _).setCell (Nat.le_refl _) _
set_option maxHeartbeats 1000000 in
set_option maxRecDepth 20000 in
theorem read5_any (s : ByteArray) (first n : Int) (w : World) (hs : s.size ≤ 9223372036854775807) (hf : I64 first) :
    Calls Tryz.prog 109 #[.string s, .int .i64 first, .int .i64 n] w (ReadPost (rd5 s first n) w) := by
  by_cases hn : 0 ≤ n ∧ n < 65536
  · obtain ⟨N, rfl⟩ : ∃ N : Nat, n = (N : Int) := ⟨n.toNat, by omega⟩
    have e5 : rd5 s first N = nxt s 0 first N := by unfold rd5; rw [if_neg (by simpa using hn), Int.toNat_natCast]
    rw [e5]
    have CI := hid (fun w => isnum_yes N w hn)
    have CN := hid (fun q pb x h hr hq => next_any q pb s 0 first N x h hr hq (Nat.zero_le _) hs hf (by omega))
    clear e5 hs
    go_enter Tryz.func109, Tryz.ntmps109
    go_wp2_with (go_at_call 149; refine (CI.out _).mono ?_; rintro e w' ⟨rfl, rfl⟩)
    refine (newrd_any s _).mono ?_
    rintro r w1 ⟨rfl, rfl⟩
    have hR : (((w.alloc (.cells #[.int .i64 0, .bool false, .string ⟨#[]⟩, .bool false, .string ⟨#[]⟩, .slice none 0 0] 49)).alloc (.cells #[.int .i64 0, .string s, .int .i64 0] 172)).alloc (.cells #[.pointer (some ⟨(w.alloc (.cells #[.int .i64 0, .bool false, .string ⟨#[]⟩, .bool false, .string ⟨#[]⟩, .slice none 0 0] 49)).heap.size, 0, none⟩), .int .i64 0] 119)).heap[w.heap.size]? = some (.cells #[.int .i64 0, .bool false, .string ⟨#[]⟩, .bool false, .string ⟨#[]⟩, .slice none 0 0] 49 (0, 0)) := heap_alloc_at (heap_alloc_at (heap_new _ _))
    have hb : Below w.heap.size w (((w.alloc (.cells #[.int .i64 0, .bool false, .string ⟨#[]⟩, .bool false, .string ⟨#[]⟩, .slice none 0 0] 49)).alloc (.cells #[.int .i64 0, .string s, .int .i64 0] 172)).alloc (.cells #[.pointer (some ⟨(w.alloc (.cells #[.int .i64 0, .bool false, .string ⟨#[]⟩, .bool false, .string ⟨#[]⟩, .slice none 0 0] 49)).heap.size, 0, none⟩), .int .i64 0] 119)) := (((Below.refl _ w).alloc (Nat.le_refl _) _).alloc (by simp) _).alloc (by simp; omega) _
    have hrd : Rd (((w.alloc (.cells #[.int .i64 0, .bool false, .string ⟨#[]⟩, .bool false, .string ⟨#[]⟩, .slice none 0 0] 49)).alloc (.cells #[.int .i64 0, .string s, .int .i64 0] 172)).alloc (.cells #[.pointer (some ⟨(w.alloc (.cells #[.int .i64 0, .bool false, .string ⟨#[]⟩, .bool false, .string ⟨#[]⟩, .slice none 0 0] 49)).heap.size, 0, none⟩), .int .i64 0] 119)) (w.alloc (.cells #[.int .i64 0, .bool false, .string ⟨#[]⟩, .bool false, .string ⟨#[]⟩, .slice none 0 0] 49)).heap.size s 0 0 := heap_alloc_at (heap_new _ _)
    have hrr : RR (((w.alloc (.cells #[.int .i64 0, .bool false, .string ⟨#[]⟩, .bool false, .string ⟨#[]⟩, .slice none 0 0] 49)).alloc (.cells #[.int .i64 0, .string s, .int .i64 0] 172)).alloc (.cells #[.pointer (some ⟨(w.alloc (.cells #[.int .i64 0, .bool false, .string ⟨#[]⟩, .bool false, .string ⟨#[]⟩, .slice none 0 0] 49)).heap.size, 0, none⟩), .int .i64 0] 119)) ((w.alloc (.cells #[.int .i64 0, .bool false, .string ⟨#[]⟩, .bool false, .string ⟨#[]⟩, .slice none 0 0] 49)).heap.size + 1) (w.alloc (.cells #[.int .i64 0, .bool false, .string ⟨#[]⟩, .bool false, .string ⟨#[]⟩, .slice none 0 0] 49)).heap.size 0 := heap_new' _ _ _ (by simp)
    have hz : (w.alloc (.cells #[.int .i64 0, .bool false, .string ⟨#[]⟩, .bool false, .string ⟨#[]⟩, .slice none 0 0] 49)).heap.size = w.heap.size + 1 := by simp
    rw [hz] at hR hb hrd hrr
    go_wp2_with fail
    simp only [hz] at *
    generalize ((w.alloc (.cells #[.int .i64 0, .bool false, .string ⟨#[]⟩, .bool false, .string ⟨#[]⟩, .slice none 0 0] 49)).alloc (.cells #[.int .i64 0, .string s, .int .i64 0] 172)).alloc (.cells #[.pointer (some ⟨w.heap.size + 1, 0, none⟩), .int .i64 0] 119) = w1 at *
    have hd1 : w.heap.size + 1 + 1 ≠ w.heap.size := by omega
    have hd2 : w.heap.size + 1 ≠ w.heap.size := by omega
    have hd3 : w.heap.size + 1 ≠ w.heap.size + 1 + 1 := by omega
    have hd4 : w.heap.size < w.heap.size + 1 := by omega
    generalize w.heap.size + 1 + 1 = q at *
    generalize w.heap.size + 1 = pb at *
    refine (CN.out q pb w1 hrr hrd hd3).mono ?_
    rintro r w2 ⟨hc2, hm⟩
    have HR2 := hid ((hc2.block w.heap.size (lt_of_heap hR) (by omega)).trans hR)
    have HB2 : Hid (Below w.heap.size w w2) := hb.trans (hc2.below hb.size (fun i hi h => by omega))
    have hl1 := lt_of_heap hR
    have hw1 := Nat.le_of_lt hl1
    clear hc2 hR hb hrd hrr CN CI
    cases hx : nxt s 0 first N with
    | error x =>
      rw [hx] at hm
      obtain ⟨rfl, hx0⟩ := hm
      have hne : ((x : Int) != 0) = true := by rw [bne_iff_ne]; omega
      have HX := hid hx
      have HX0 := hid hx0
      clear hx hx0
      unfold noRec
      have gg : w2.heap.size ≠ w.heap.size := by have := lt_of_heap HR2.out; omega
      have HR3 : Hid ((w2.alloc (.cells #[.int .i64 0, .bool false, .string ⟨#[]⟩, .bool false, .string ⟨#[]⟩, .slice none 0 0] 49)).heap[w.heap.size]? = some (.cells #[.int .i64 0, .bool false, .string ⟨#[]⟩, .bool false, .string ⟨#[]⟩, .slice none 0 0] 49 (0, 0))) := heap_alloc_at HR2.out
      have rr := HR3.out
      obtain ⟨m0, m1, m2, m3, m4, m5⟩ := cells6 rr
      have n0 := froz_of (i := 0) rr
      have n1 := froz_of (i := 1) rr
      have n2 := froz_of (i := 2) rr
      have n3 := froz_of (i := 3) rr
      have n4 := froz_of (i := 4) rr
      have n5 := froz_of (i := 5) rr
      clear rr
      go_wp2_with fail
      have f11 : (((((((w2.alloc (.cells #[.int .i64 0, .bool false, .string ⟨#[]⟩, .bool false, .string ⟨#[]⟩, .slice none 0 0] 49)).setCell ⟨w.heap.size, 0, none⟩ (.int .i64 0)).setCell ⟨w.heap.size, 1, none⟩ (.bool false)).setCell ⟨w.heap.size, 2, none⟩ (.string ⟨#[]⟩)).setCell ⟨w.heap.size, 3, none⟩ (.bool false)).setCell ⟨w.heap.size, 4, none⟩ (.string ⟨#[]⟩)).setCell ⟨w.heap.size, 5, none⟩ (.slice none 0 0)).heap[w.heap.size]? = some (.cells #[.int .i64 0, .bool false, .string ⟨#[]⟩, .bool false, .string ⟨#[]⟩, .slice none 0 0] 49 (0, 0)) := heap_set (heap_set (heap_set (heap_set (heap_set (heap_set HR3.out)))))
      obtain ⟨j0, j1, j2, j3, j4, j5⟩ := cells6 f11
      clear f11
      refine bodyPost_ret (v := .tuple #[noRec, .int .i64 0, .int .i64 x]) (by simp [results, noRec, Tryz.results109, go_sem, j0, j1, j2, j3, j4, j5]) rfl ?_
      refine ⟨store6_bel (HB2.out.alloc HB2.out.size _), ?_⟩
      rw [HX.out]
      exact ⟨rfl, HX0.out⟩
    | ok y =>
      rw [hx] at hm
      obtain ⟨a, cap, rfl, ho, h3, hr3, hy⟩ := hm
      have HX := hid hx
      clear hx
      obtain ⟨⟨xt, xkh, xkd, xvh, xvd, xhs⟩, ky⟩ := y
      simp only [recV] at *
      have hg : w2.heap.size ≠ w.heap.size := by have := lt_of_heap HR2.out; omega
      have hq2 := h3.lt
      have hp2 := hr3.lt
      have G3 : (w2.alloc (.cells #[.int .i64 xt, .bool xkh, .string xkd, .bool xvh, .string xvd, .slice a xhs.length cap] 49)).heap[w2.heap.size]? = some (.cells #[.int .i64 xt, .bool xkh, .string xkd, .bool xvh, .string xvd, .slice a xhs.length cap] 49 (0, 0)) := heap_new _ _
      have K3 : (w2.alloc (.cells #[.int .i64 xt, .bool xkh, .string xkd, .bool xvh, .string xvd, .slice a xhs.length cap] 49)).heap[q]? = some (.cells #[.pointer (some ⟨pb, 0, none⟩), .int .i64 0] 119 (0, 0)) := heap_alloc_at h3
      have L3 : Rd (w2.alloc (.cells #[.int .i64 xt, .bool xkh, .string xkd, .bool xvh, .string xvd, .slice a xhs.length cap] 49)) (pb) s ky 0 := hr3.alloc _
      have R3 : (w2.alloc (.cells #[.int .i64 xt, .bool xkh, .string xkd, .bool xvh, .string xvd, .slice a xhs.length cap] 49)).heap[w.heap.size]? = some (.cells #[.int .i64 0, .bool false, .string ⟨#[]⟩, .bool false, .string ⟨#[]⟩, .slice none 0 0] 49 (0, 0)) := heap_alloc_at HR2.out
      have O3 : OwnH (w2.alloc (.cells #[.int .i64 xt, .bool xkh, .string xkd, .bool xvh, .string xvd, .slice a xhs.length cap] 49)) w1.heap.size (.slice a xhs.length cap) xhs := World.ownsRow.alloc ho _
      have B3 : Below w.heap.size w (w2.alloc (.cells #[.int .i64 xt, .bool xkh, .string xkd, .bool xvh, .string xvd, .slice a xhs.length cap] 49)) := HB2.out.alloc HB2.out.size _
      clear ho h3 hr3
      go_wp2_with fail
      generalize w2.alloc (.cells #[.int .i64 xt, .bool xkh, .string xkd, .bool xvh, .string xvd, .slice a xhs.length cap] 49) = w3 at *
      have CA0 := hid (rat_any (pb) s ky 0 w3.drew L3)
      have G3' : w3.drew.heap[w2.heap.size]? = some (.cells #[.int .i64 xt, .bool xkh, .string xkd, .bool xvh, .string xvd, .slice a xhs.length cap] 49 (0, 0)) := G3
      have K3' : w3.drew.heap[q]? = some (.cells #[.pointer (some ⟨pb, 0, none⟩), .int .i64 0] 119 (0, 0)) := K3
      have HG := hid G3
      have HG' := hid G3'
      have HKK := hid K3
      have HKK' := hid K3'
      have HO3 := hid O3
      have HB3 := hid B3
      have HR3 := hid R3
      have rr : w3.heap[w.heap.size]? = some (.cells #[.int .i64 0, .bool false, .string ⟨#[]⟩, .bool false, .string ⟨#[]⟩, .slice none 0 0] 49 (0, 0)) := R3
      obtain ⟨m0, m1, m2, m3, m4, m5⟩ := cells6 rr
      have n0 := froz_of (i := 0) rr
      have n1 := froz_of (i := 1) rr
      have n2 := froz_of (i := 2) rr
      have n3 := froz_of (i := 3) rr
      have n4 := froz_of (i := 4) rr
      have n5 := froz_of (i := 5) rr
      clear rr G3 G3' K3 K3' L3 R3 O3 B3
      have y1 : w2.heap.size ≠ w.heap.size := hg
      have y2 : q ≠ w.heap.size := hd1
      go_region_held3 (fun x => (x.cell? ⟨w2.heap.size, 0, none⟩ = some (.int .i64 xt) ∧ x.cell? ⟨w2.heap.size, 1, none⟩ = some (.bool xkh) ∧ x.cell? ⟨w2.heap.size, 2, none⟩ = some (.string xkd) ∧ x.cell? ⟨w2.heap.size, 3, none⟩ = some (.bool xvh) ∧ x.cell? ⟨w2.heap.size, 4, none⟩ = some (.string xvd) ∧ x.cell? ⟨w2.heap.size, 5, none⟩ = some (.slice a xhs.length cap)) ∧ x.cell? ⟨q, 0, none⟩ = some (.pointer (some ⟨pb, 0, none⟩))) (first | with_reducible exact cells7 HG.out HKK.out | with_reducible exact cells7 HG'.out HKK'.out | with_reducible exact cells7 (World.drew_heap (store6 HG.out y1)) (World.drew_heap (store6 HKK.out y2))) (first | (go_at_call 112; with_reducible refine CA0.out.mono ?_; rintro r w4 ⟨rfl, rfl⟩))
      have f11 : ((((((w3.setCell ⟨w.heap.size, 0, none⟩ (.int .i64 xt)).setCell ⟨w.heap.size, 1, none⟩ (.bool xkh)).setCell ⟨w.heap.size, 2, none⟩ (.string xkd)).setCell ⟨w.heap.size, 3, none⟩ (.bool xvh)).setCell ⟨w.heap.size, 4, none⟩ (.string xvd)).setCell ⟨w.heap.size, 5, none⟩ (.slice a xhs.length cap)).drew.heap[w.heap.size]? = some (.cells #[.int .i64 xt, .bool xkh, .string xkd, .bool xvh, .string xvd, .slice a xhs.length cap] 49 (0, 0)) := World.drew_heap (heap_set (heap_set (heap_set (heap_set (heap_set (heap_set HR3.out))))))
      obtain ⟨j0, j1, j2, j3, j4, j5⟩ := cells6 f11
      clear f11
      go_wp2_with fail
      refine bodyPost_ret (v := .tuple #[.agg #[.int .i64 xt, .bool xkh, .string xkd, .bool xvh, .string xvd, .slice a xhs.length cap], .int .i64 ky, .int .i64 0]) (by simp [results, Tryz.results109, go_sem, j0, j1, j2, j3, j4, j5]) rfl ?_
      refine ⟨(store6_bel HB3.out).drew, ?_⟩
      rw [HX.out]
      have hx : ∀ g, (Value.slice a xhs.length cap).ownBlock = some g → g ≠ w.heap.size := fun g hg h => own_ne HO3.out (h ▸ HR3.out) (by decide) hg
      exact ⟨a, cap, rfl, own_base hw1 (own_apart HO3.out (fun g hg => store6_eqd (hx g hg)))⟩
  · have e5 : rd5 s first n = .error 1 := by unfold rd5; rw [if_pos hn]
    have HX := hid e5
    have CI := hid (fun w => isnum_no n w hn)
    clear e5 hs hn
    go_enter Tryz.func109, Tryz.ntmps109
    go_wp2_with fail
    have HR3 : Hid ((w.alloc (.cells #[.int .i64 0, .bool false, .string ⟨#[]⟩, .bool false, .string ⟨#[]⟩, .slice none 0 0] 49)).heap[w.heap.size]? = some (.cells #[.int .i64 0, .bool false, .string ⟨#[]⟩, .bool false, .string ⟨#[]⟩, .slice none 0 0] 49 (0, 0))) := heap_new _ _
    have HBB : Hid (Below w.heap.size w (w.alloc (.cells #[.int .i64 0, .bool false, .string ⟨#[]⟩, .bool false, .string ⟨#[]⟩, .slice none 0 0] 49))) := (Below.refl _ w).alloc (Nat.le_refl _) _
    generalize w.alloc (.cells #[.int .i64 0, .bool false, .string ⟨#[]⟩, .bool false, .string ⟨#[]⟩, .slice none 0 0] 49) = W at *
    refine (CI.out _).mono ?_
    rintro e W ⟨rfl, rfl⟩
    have rr := HR3.out
    obtain ⟨m0, m1, m2, m3, m4, m5⟩ := cells6 rr
    have n0 := froz_of (i := 0) rr
    have n1 := froz_of (i := 1) rr
    have n2 := froz_of (i := 2) rr
    have n3 := froz_of (i := 3) rr
    have n4 := froz_of (i := 4) rr
    have n5 := froz_of (i := 5) rr
    clear rr
    go_wp2_with fail
    have f11 : ((((((W.setCell ⟨w.heap.size, 0, none⟩ (.int .i64 0)).setCell ⟨w.heap.size, 1, none⟩ (.bool false)).setCell ⟨w.heap.size, 2, none⟩ (.string ⟨#[]⟩)).setCell ⟨w.heap.size, 3, none⟩ (.bool false)).setCell ⟨w.heap.size, 4, none⟩ (.string ⟨#[]⟩)).setCell ⟨w.heap.size, 5, none⟩ (.slice none 0 0)).heap[w.heap.size]? = some (.cells #[.int .i64 0, .bool false, .string ⟨#[]⟩, .bool false, .string ⟨#[]⟩, .slice none 0 0] 49 (0, 0)) := heap_set (heap_set (heap_set (heap_set (heap_set (heap_set HR3.out)))))
    obtain ⟨j0, j1, j2, j3, j4, j5⟩ := cells6 f11
    clear f11
    refine bodyPost_ret (v := .tuple #[noRec, .int .i64 0, .int .i64 1]) (by simp [results, noRec, Tryz.results109, go_sem, j0, j1, j2, j3, j4, j5]) rfl ?_
    refine ⟨store6_bel HBB.out, ?_⟩
    rw [HX.out]
    exact ⟨rfl, by decide⟩
end Go.Proofs.YtihokphamgkkcaaGreat
