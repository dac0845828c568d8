/- The record's reader: what record answers of a form's own bytes. -/
import Derived.Test.YtihokphamgkkcaaGreatRdS
import Derived.Test.YtihokphamgkkcaaGreatWrec
namespace Go.Proofs.YtihokphamgkkcaaGreat
open Go.RowKit
/-- What record leaves. -/
def RPost (q pb : Nat) (p : ByteArray) (B : Nat) (first : Int) (n : Nat) (w : World) (r : Ending) (w' : World) : Prop :=
  ∃ (x : Rec) (a : Option Addr) (cap : Nat) (f' k' e' : Nat), r = .returned (recV x a cap) ∧ OwnH w' B (.slice a x.hs.length cap) x.hs ∧ RR w' q pb f' ∧ Rd w' pb p k' e' ∧ k' ≤ p.size ∧ Ch (fun i => i = pb ∨ i = q) w w' ∧ (fl f' e' ≠ 0 → r1 p first n = .error (fl f' e')) ∧ (fl f' e' = 0 → r1 p first n = if k' < p.size then .error 26 else .ok x)
theorem own_base {w : World} {B B' : Nat} {v : Value} {rs : List Hdr} (hB : B ≤ B') (h : OwnH w B' v rs) : OwnH w B v rs := by
  obtain ⟨h1, h2⟩ := h
  refine ⟨h1, ?_⟩
  rcases h2 with h2 | ⟨g, cap, cur, rfl, hg, r⟩
  · exact Or.inl h2
  · exact Or.inr ⟨g, cap, cur, rfl, Nat.le_trans hB hg, r⟩
theorem cells22 {x : World} {A B : Nat} {T U : TypeId} {v0 v1 v2 v3 : Value} (h1 : x.heap[A]? = some (.cells #[v0, v1] T (0, 0))) (h2 : x.heap[B]? = some (.cells #[v2, v3] U (0, 0))) :
    x.cell? ⟨A, 0, none⟩ = some v0 ∧ x.cell? ⟨A, 1, none⟩ = some v1 ∧ x.cell? ⟨B, 0, none⟩ = some v2 ∧ x.cell? ⟨B, 1, none⟩ = some v3 :=
  ⟨(cell_of h1).trans rfl, (cell_of h1).trans rfl, (cell_of h2).trans rfl, (cell_of h2).trans rfl⟩
theorem store6 {x : World} {A R : Nat} {o : Obj} {v0 v1 v2 v3 v4 v5 : Value} (h : x.heap[A]? = some o) (hne : A ≠ R) :
    ((((((x.setCell ⟨R, 0, none⟩ v0).setCell ⟨R, 1, none⟩ v1).setCell ⟨R, 2, none⟩ v2).setCell ⟨R, 3, none⟩ v3).setCell ⟨R, 4, none⟩ v4).setCell ⟨R, 5, none⟩ v5).heap[A]? = some o :=
  heap_set_far (heap_set_far (heap_set_far (heap_set_far (heap_set_far (heap_set_far h hne) hne) hne) hne) hne) hne
theorem store6_eq {x : World} {A R : Nat} {v0 v1 v2 v3 v4 v5 : Value} (hne : A ≠ R) :
    ((((((x.setCell ⟨R, 0, none⟩ v0).setCell ⟨R, 1, none⟩ v1).setCell ⟨R, 2, none⟩ v2).setCell ⟨R, 3, none⟩ v3).setCell ⟨R, 4, none⟩ v4).setCell ⟨R, 5, none⟩ v5).heap[A]? = x.heap[A]? := by
  rw [Below.heap_setCell _ _ _ _ hne, Below.heap_setCell _ _ _ _ hne, Below.heap_setCell _ _ _ _ hne, Below.heap_setCell _ _ _ _ hne, Below.heap_setCell _ _ _ _ hne, Below.heap_setCell _ _ _ _ hne]
theorem World.drew_heap {x : World} {A : Nat} {o : Obj} (h : x.heap[A]? = some o) : x.drew.heap[A]? = some o := h
theorem wrap_id {x : Int} (h : I64 x) : wrap64 x = x := by
  obtain ⟨h1, h2⟩ := h
  unfold wrap64
  omega
set_option maxHeartbeats 800000 in
set_option maxRecDepth 20000 in
theorem record_any (q pb : Nat) (p : ByteArray) (first : Int) (n : Nat) (w : World) (h : RR w q pb 0) (hr : Rd w pb p 0 0) (hq : pb ≠ q) (hs : p.size ≤ 9223372036854775807) (hf : I64 first) (hn : n < 65536) :
    Calls Tryz.prog 114 #[.pointer (some ⟨q, 0, none⟩), .int .i64 first, .int .i64 n] w (RPost q pb p w.heap.size first n w) := by
  obtain ⟨a, k1, e1, hA⟩ : ∃ a k1 e1, fx 1 p 0 0 = (a, k1, e1) := ⟨_, _, _, rfl⟩
  obtain ⟨d, k2, e2, hD⟩ : ∃ d k2 e2, vq p k1 e1 = (d, k2, e2) := ⟨_, _, _, rfl⟩
  obtain ⟨m, k3, e3, hU⟩ : ∃ m k3 e3, uq p k2 e2 = (m, k3, e3) := ⟨_, _, _, rfl⟩
  obtain ⟨kh, kd, k4, e4, hK⟩ : ∃ kh kd k4 e4, oq MX p k3 e3 = (kh, kd, k4, e4) := ⟨_, _, _, _, rfl⟩
  obtain ⟨vh, vd, k5, e5, hV⟩ : ∃ vh vd k5 e5, oq MX p k4 e4 = (vh, vd, k5, e5) := ⟨_, _, _, _, rfl⟩
  have l1 := fx_le (n := 1) (e := 0) (Nat.zero_le p.size)
  rw [hA] at l1
  have l2 := vq_le (e := e1) l1
  have ld := vq_bd (s := p) (k := k1) (e := e1)
  rw [hD] at l2 ld
  have l3 := uq_le (e := e2) l2
  rw [hU] at l3
  have l4 := oq_le (m := MX) (e := e3) l3
  rw [hK] at l4
  have l5 := oq_le (m := MX) (e := e4) l4
  rw [hV] at l5
  dsimp only at l1 l2 l3 l4 l5 ld
  have C1 := hid (fun x hr => u8_any pb p 0 0 x hr (Nat.zero_le _) hs)
  have C2 := hid (fun x hr => varint_any pb p k1 e1 x hr l1 hs)
  have C3 := hid (fun x hr => uvarint_any pb p k2 e2 x hr l2 hs)
  have C4 := hid (fun x hr => ropt_any pb p k3 e3 9223372036854775807 x hr l3 hs (by omega) (by omega))
  have C5 := hid (fun x hr => ropt_any pb p k4 e4 9223372036854775807 x hr l4 hs (by omega) (by omega))
  have C6 := hid (fun f x h hr => headers_any q pb f p k5 e5 x h hr hq l5 hs)
  rw [hA] at C1
  rw [hD] at C2
  rw [hU] at C3
  rw [hK] at C4
  rw [hV] at C5
  have HCH := hid (fun b1 f1 b2 f2 b3 f3 hs f' k' e' => @chain p first n a k1 e1 b1 f1 d k2 e2 b2 f2 m k3 e3 b3 f3 kh kd k4 e4 vh vd k5 e5 hs f' k' e' hA)
  have HD := hid hD
  have HU := hid hU
  have HK := hid hK
  have HV := hid hV
  have HLD := hid ld
  have H := hid h
  have HR := hid hr
  have hlq := h.lt
  have hlb := hr.lt
  clear hA hD hU hK hV l1 l2 l3 l4 l5 ld h hr hs
  go_enter Tryz.func114, Tryz.ntmps114
  have c0 := H.out.c0
  go_wp2_with fail
  refine (C1.out _ (HR.out.alloc _)).mono ?_
  rintro r w1 ⟨rfl, hr1, hc1⟩
  have hres1 : w1.heap[w.heap.size]? = some (.cells #[.int .i64 0, .bool false, .string ⟨#[]⟩, .bool false, .string ⟨#[]⟩, .slice none 0 0] 49 (0, 0)) := (hc1.block _ (by simp) (by omega)).trans (heap_new _ _)
  have h1 : RR w1 q pb 0 := ((show RR _ q pb 0 from heap_alloc_at H.out)).ch hc1 (fun h => hq h.symm)
  have hcc1 : Ch (fun i => i = pb ∨ i = q) w w1 := ((Ch.refl _ _).alloc _).then hc1 (fun _ _ h => Or.inl h)
  have d1 := h1.c0
  have HRES := hid hres1
  have HCC := hid hcc1
  have H1 := hid h1
  have HR1 := hid hr1
  clear c0 hres1 h1 hr1 hcc1 hc1
  go_wp2_with fail
  refine (refuse_any q pb 0 p k1 e1 26 ((a : Int) != 0) w1 H1.out HR1.out hq).mono ?_
  rintro r w2 ⟨rfl, h2, hr2, hc2⟩
  obtain ⟨f1, hf1⟩ : ∃ x, x = rf ((a : Int) != 0) 26 0 e1 := ⟨_, rfl⟩
  rw [← hf1] at h2
  have HFf1 := hid hf1
  have HRES2 : Hid (w2.heap[w.heap.size]? = some (.cells #[.int .i64 0, .bool false, .string ⟨#[]⟩, .bool false, .string ⟨#[]⟩, .slice none 0 0] 49 (0, 0))) := (hc2.block _ (lt_of_heap HRES.out) (by omega)).trans HRES.out
  have HCC2 := hid (HCC.out.then hc2 (fun _ _ h => Or.inr h))
  have c0_2 := h2.c0
  have H2 := hid h2
  have HR2 := hid hr2
  clear h2 hr2 hc2 H1 HR1 d1 HCC HRES
  clear hf1
  go_wp2_with fail
  refine (C2.out w2 HR2.out).mono ?_
  rintro r w3 ⟨rfl, hr3, hc3⟩
  have h3 : RR w3 q pb f1 := H2.out.ch hc3 (fun h => hq h.symm)
  have HRES3 : Hid (w3.heap[w.heap.size]? = some (.cells #[.int .i64 0, .bool false, .string ⟨#[]⟩, .bool false, .string ⟨#[]⟩, .slice none 0 0] 49 (0, 0))) := (hc3.block _ (lt_of_heap HRES2.out) (by omega)).trans HRES2.out
  have HCC3 := hid (HCC2.out.then hc3 (fun _ _ h => Or.inl h))
  have c0_3 := h3.c0
  have H3 := hid h3
  have HR3 := hid hr3
  clear h3 hr3 hc3 H2 HR2 c0_2 HCC2 HRES2
  have CS := hid (fun x => sum_any first d x hf HLD.out)
  go_wp2_with (go_at_call 163; refine (CS.out _).mono ?_; rintro e w3 ⟨rfl, rfl⟩)
  refine (refuse_any q pb f1 p k2 e2 27 (!decide (I64 (first + d))) w3 H3.out HR3.out hq).mono ?_
  rintro r w4 ⟨rfl, h4, hr4, hc4⟩
  obtain ⟨f2, hf2⟩ : ∃ x, x = rf (!decide (I64 (first + d))) 27 f1 e2 := ⟨_, rfl⟩
  rw [← hf2] at h4
  have HFf2 := hid hf2
  have HRES4 : Hid (w4.heap[w.heap.size]? = some (.cells #[.int .i64 0, .bool false, .string ⟨#[]⟩, .bool false, .string ⟨#[]⟩, .slice none 0 0] 49 (0, 0))) := (hc4.block _ (lt_of_heap HRES3.out) (by omega)).trans HRES3.out
  have HCC4 := hid (HCC3.out.then hc4 (fun _ _ h => Or.inr h))
  have c0_4 := h4.c0
  have H4 := hid h4
  have HR4 := hid hr4
  clear h4 hr4 hc4 H3 HR3 c0_3 HCC3 HRES3
  clear hf2 CS
  go_wp2_with fail
  refine (C3.out w4 HR4.out).mono ?_
  rintro r w5 ⟨rfl, hr5, hc5⟩
  have h5 : RR w5 q pb f2 := H4.out.ch hc5 (fun h => hq h.symm)
  have HRES5 : Hid (w5.heap[w.heap.size]? = some (.cells #[.int .i64 0, .bool false, .string ⟨#[]⟩, .bool false, .string ⟨#[]⟩, .slice none 0 0] 49 (0, 0))) := (hc5.block _ (lt_of_heap HRES4.out) (by omega)).trans HRES4.out
  have HCC5 := hid (HCC4.out.then hc5 (fun _ _ h => Or.inl h))
  have c0_5 := h5.c0
  have H5 := hid h5
  have HR5 := hid hr5
  clear h5 hr5 hc5 H4 HR4 c0_4 HCC4 HRES4
  have hwn : IntKind.u64.wrap (n : Int) = n := by rw [IntKind.wrap_u64]; omega
  go_wp2_with fail
  refine (refuse_any q pb f2 p k3 e3 27 ((m : Int) != (n : Int)) w5 H5.out HR5.out hq).mono ?_
  rintro r w6 ⟨rfl, h6, hr6, hc6⟩
  obtain ⟨f3, hf3⟩ : ∃ x, x = rf ((m : Int) != (n : Int)) 27 f2 e3 := ⟨_, rfl⟩
  rw [← hf3] at h6
  have HFf3 := hid hf3
  have HRES6 : Hid (w6.heap[w.heap.size]? = some (.cells #[.int .i64 0, .bool false, .string ⟨#[]⟩, .bool false, .string ⟨#[]⟩, .slice none 0 0] 49 (0, 0))) := (hc6.block _ (lt_of_heap HRES5.out) (by omega)).trans HRES5.out
  have HCC6 := hid (HCC5.out.then hc6 (fun _ _ h => Or.inr h))
  have c0_6 := h6.c0
  have H6 := hid h6
  have HR6 := hid hr6
  clear h6 hr6 hc6 H5 HR5 c0_5 HCC5 HRES5
  clear hf3 hwn
  go_wp2_with fail
  refine (C4.out w6 HR6.out).mono ?_
  rintro r w7 ⟨rfl, hr7, hc7⟩
  have h7 : RR w7 q pb f3 := H6.out.ch hc7 (fun h => hq h.symm)
  have HRES7 : Hid (w7.heap[w.heap.size]? = some (.cells #[.int .i64 0, .bool false, .string ⟨#[]⟩, .bool false, .string ⟨#[]⟩, .slice none 0 0] 49 (0, 0))) := (hc7.block _ (lt_of_heap HRES6.out) (by omega)).trans HRES6.out
  have HCC7 := hid (HCC6.out.then hc7 (fun _ _ h => Or.inl h))
  have c0_7 := h7.c0
  have H7 := hid h7
  have HR7 := hid hr7
  clear h7 hr7 hc7 H6 HR6 c0_6 HCC6 HRES6
  have hq7 : q ≠ w7.heap.size := by have := H7.out.lt; omega
  have hb7 : pb ≠ w7.heap.size := by have := HR7.out.lt; omega
  have hs7 := lt_of_heap HRES7.out
  have hlt7 := H7.out.lt
  have k7c : (w7.alloc (.cells #[.bool kh, .string kd] 46)).cell? ⟨q, 0, none⟩ = some (.pointer (some ⟨pb, 0, none⟩)) := (show RR _ q pb f3 from heap_alloc_at H7.out).c0
  go_wp2_with fail
  refine (C5.out _ (HR7.out.alloc _)).mono ?_
  rintro r w8 ⟨rfl, hr8, hc8⟩
  have hg8 : w8.heap[w7.heap.size]? = some (.cells #[.bool kh, .string kd] 46 (0, 0)) := (hc8.block _ (by simp) (fun h => hb7 h.symm)).trans (heap_new _ _)
  have h8 : RR w8 q pb f3 := (show RR _ q pb f3 from heap_alloc_at H7.out).ch hc8 (fun h => hq h.symm)
  have hres8 : w8.heap[w.heap.size]? = some (.cells #[.int .i64 0, .bool false, .string ⟨#[]⟩, .bool false, .string ⟨#[]⟩, .slice none 0 0] 49 (0, 0)) := (hc8.block _ (by simp; omega) (by omega)).trans (heap_alloc_at HRES7.out)
  have hcc8 : Ch (fun i => i = pb ∨ i = q) w w8 := (HCC7.out.alloc _).then hc8 (fun _ _ h => Or.inl h)
  have h9 : RR (w8.alloc (.cells #[.bool vh, .string vd] 46)) q pb f3 := heap_alloc_at h8
  have hr9 : Rd (w8.alloc (.cells #[.bool vh, .string vd] 46)) pb p k5 e5 := hr8.alloc _
  have hg9 : (w8.alloc (.cells #[.bool vh, .string vd] 46)).heap[w7.heap.size]? = some (.cells #[.bool kh, .string kd] 46 (0, 0)) := heap_alloc_at hg8
  have hv9 : (w8.alloc (.cells #[.bool vh, .string vd] 46)).heap[w8.heap.size]? = some (.cells #[.bool vh, .string vd] 46 (0, 0)) := heap_new _ _
  have hres9 : (w8.alloc (.cells #[.bool vh, .string vd] 46)).heap[w.heap.size]? = some (.cells #[.int .i64 0, .bool false, .string ⟨#[]⟩, .bool false, .string ⟨#[]⟩, .slice none 0 0] 49 (0, 0)) := heap_alloc_at hres8
  have hcc9 : Ch (fun i => i = pb ∨ i = q) w (w8.alloc (.cells #[.bool vh, .string vd] 46)) := hcc8.alloc _
  have c0_8 := h8.c0
  have hs8 : w.heap.size < w8.heap.size := lt_of_heap hres8
  have y3 : w8.heap.size ≠ pb ∧ w8.heap.size ≠ q := ⟨by have := hr8.lt; omega, by have := h8.lt; omega⟩
  clear h8 hr8 hg8 hres8 hcc8 hc8 H7 HR7 HRES7 HCC7 c0_7 k7c
  go_wp2_with fail
  generalize w8.alloc (.cells #[.bool vh, .string vd] 46) = w9 at *
  have H9 := hid h9
  have HR9 := hid hr9
  have HG9 := hid hg9
  have HV9 := hid hv9
  have HRES9 := hid hres9
  have HCC9 := hid hcc9
  have y1 : w7.heap.size ≠ pb := fun h => hb7 h.symm
  have y2 : w7.heap.size ≠ q := fun h => hq7 h.symm
  have z1 := lt_of_heap hg9
  have z2 := lt_of_heap hv9
  have z3 := lt_of_heap hres9
  clear h9 hr9 hg9 hv9 hres9 hcc9 c0_8
  have C7 : Hid (Calls Tryz.prog 165 #[.pointer (some ⟨q, 0, none⟩)] w9.drew fun r w10 => ∃ (a1 : Option Addr) (cap1 : Nat) (hs : List Hdr) (f' k' e' : Nat), r = .returned (.slice a1 hs.length cap1) ∧ Hid (OwnH w10 w.heap.size (.slice a1 hs.length cap1) hs ∧ RR w10 q pb f' ∧ Rd w10 pb p k' e' ∧ k' ≤ p.size ∧ Ch (fun i => i = pb ∨ i = q) w w10 ∧ (fl f' e' ≠ 0 → hres f3 e5 p k5 = .error (fl f' e')) ∧ (fl f' e' = 0 → hres f3 e5 p k5 = .ok (hs, k'))) ∧ Hid (w10.heap[w.heap.size]? = some (.cells #[.int .i64 0, .bool false, .string ⟨#[]⟩, .bool false, .string ⟨#[]⟩, .slice none 0 0] 49 (0, 0))) ∧ w10.heap[w7.heap.size]? = some (.cells #[.bool kh, .string kd] 46 (0, 0)) ∧ w10.heap[w8.heap.size]? = some (.cells #[.bool vh, .string vd] 46 (0, 0)) ∧ w10.cell? ⟨w.heap.size, 0, none⟩ = some (.int .i64 0) ∧ w10.cell? ⟨w.heap.size, 1, none⟩ = some (.bool false) ∧ w10.cell? ⟨w.heap.size, 2, none⟩ = some (.string ⟨#[]⟩) ∧ w10.cell? ⟨w.heap.size, 3, none⟩ = some (.bool false) ∧ w10.cell? ⟨w.heap.size, 4, none⟩ = some (.string ⟨#[]⟩) ∧ w10.cell? ⟨w.heap.size, 5, none⟩ = some (.slice none 0 0) ∧ w10.frozen? ⟨w.heap.size, 0, none⟩ = false ∧ w10.frozen? ⟨w.heap.size, 1, none⟩ = false ∧ w10.frozen? ⟨w.heap.size, 2, none⟩ = false ∧ w10.frozen? ⟨w.heap.size, 3, none⟩ = false ∧ w10.frozen? ⟨w.heap.size, 4, none⟩ = false ∧ w10.frozen? ⟨w.heap.size, 5, none⟩ = false) := by
    refine (C6.out f3 w9.drew (show RR w9.drew q pb f3 from H9.out) (show Rd w9.drew pb p k5 e5 from HR9.out)).mono ?_
    rintro r w10 ⟨v, hs, f', k', e', rfl, ho', h', hr', hk', hc', t1, t2⟩
    obtain ⟨a1, cap1, rfl, _, _⟩ := OwnH.slice ho'
    have r10 : w10.heap[w.heap.size]? = some (.cells #[.int .i64 0, .bool false, .string ⟨#[]⟩, .bool false, .string ⟨#[]⟩, .slice none 0 0] 49 (0, 0)) := (hc'.block w.heap.size z3 (by omega)).trans HRES9.out
    have m := cells6 r10
    refine ⟨a1, cap1, hs, f', k', e', rfl, ⟨own_base (show w.heap.size ≤ w9.drew.heap.size from Nat.le_of_lt z3) ho', h', hr', hk', HCC9.out.drew.trans hc', t1, t2⟩, r10, ?_, ?_, m.1, m.2.1, m.2.2.1, m.2.2.2.1, m.2.2.2.2.1, m.2.2.2.2.2, froz_of r10, froz_of r10, froz_of r10, froz_of r10, froz_of r10, froz_of r10⟩
    · exact (hc'.block _ z1 (by rintro (h | h); exact y1 h; exact y2 h)).trans HG9.out
    · exact (hc'.block _ z2 (by rintro (h | h); exact y3.1 h; exact y3.2 h)).trans HV9.out
  clear C6 H9 HR9 z1 z2 y1 y2 y3
  have HZ3 := hid z3
  clear z3
  have HGd : Hid (w9.drew.heap[w7.heap.size]? = some (.cells #[.bool kh, .string kd] 46 (0, 0))) := HG9.out
  have HVd : Hid (w9.drew.heap[w8.heap.size]? = some (.cells #[.bool vh, .string vd] 46 (0, 0))) := HV9.out
  have y4 : w7.heap.size ≠ w.heap.size := by omega
  have y5 : w8.heap.size ≠ w.heap.size := by omega
  go_region_held3 (fun x => x.cell? ⟨w7.heap.size, 0, none⟩ = some (.bool kh) ∧ x.cell? ⟨w7.heap.size, 1, none⟩ = some (.string kd) ∧ x.cell? ⟨w8.heap.size, 0, none⟩ = some (.bool vh) ∧ x.cell? ⟨w8.heap.size, 1, none⟩ = some (.string vd)) (first | with_reducible exact cells22 HG9.out HV9.out | with_reducible exact cells22 HGd.out HVd.out | with_reducible exact cells22 g1 g2 | with_reducible exact cells22 (store6 g1 y4) (store6 g2 y5)) (first | (go_at_call 165; refine C7.out.mono ?_; rintro r w10 ⟨a1, cap1, hs, f', k', e', rfl, KK, r10, g1, g2, m0, m1, m2, m3, m4, m5, n0, n1, n2, n3, n4, n5⟩))
  clear m0 m1 m2 m3 m4 m5 n0 n1 n2 n3 n4 n5 g1 g2 C7 C1 C2 C3 C4 C5 HG9 HV9 HGd HVd
  have f11 : ((((((w10.setCell ⟨w.heap.size, 0, none⟩ (.int .i64 (wrap64 (first + d)))).setCell ⟨w.heap.size, 1, none⟩ (.bool kh)).setCell ⟨w.heap.size, 2, none⟩ (.string kd)).setCell ⟨w.heap.size, 3, none⟩ (.bool vh)).setCell ⟨w.heap.size, 4, none⟩ (.string vd)).setCell ⟨w.heap.size, 5, none⟩ (.slice a1 hs.length cap1)).heap[w.heap.size]? = some (.cells #[.int .i64 (wrap64 (first + d)), .bool kh, .string kd, .bool vh, .string vd, .slice a1 hs.length cap1] 49 (0, 0)) := heap_set (heap_set (heap_set (heap_set (heap_set (heap_set r10.out)))))
  obtain ⟨j0, j1, j2, j3, j4, j5⟩ := cells6 f11
  clear f11
  go_wp2_with fail
  refine bodyPost_ret (v := .agg #[.int .i64 (wrap64 (first + d)), .bool kh, .string kd, .bool vh, .string vd, .slice a1 hs.length cap1]) (by simp [results, Tryz.results114, go_sem, j0, j1, j2, j3, j4, j5]) rfl ?_
  obtain ⟨o1, o2, o3, o4, o5, t1, t2⟩ := KK.out
  have hx : ∀ g, (Value.slice a1 hs.length cap1).ownBlock = some g → g ≠ w.heap.size := fun g hg h => own_ne o1 (h ▸ r10.out) (by decide) hg
  have hsp := HCH.out _ _ _ _ _ _ hs f' k' e' (by rw [bne_iff_ne]; omega) HFf1.out HD.out (by simp) HFf2.out HU.out (by rw [bne_iff_ne]; omega) HFf3.out HK.out HV.out t1 t2
  refine ⟨⟨wrap64 (first + d), kh, kd, vh, vd, hs⟩, a1, cap1, f', k', e', rfl, own_apart o1 (fun g hg => store6_eq (hx g hg)), store6 o2 (by omega), store6 o3 (by omega), o4, ?_, hsp.1, fun h => ?_⟩
  · exact (((((o5.setCell _ _ (by simp)).setCell _ _ (by simp)).setCell _ _ (by simp)).setCell _ _ (by simp)).setCell _ _ (by simp)).setCell _ _ (by simp)
  · obtain ⟨e1', e2'⟩ := hsp.2 h
    rw [e1', wrap_id e2']
end Go.Proofs.YtihokphamgkkcaaGreat
