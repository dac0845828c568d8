/- The record's reader: what next and Read answer, of whatever bytes. -/
import Derived.Test.YtihokphamgkkcaaGreatRdr3
namespace Go.Proofs.YtihokphamgkkcaaGreat
open Go.RowKit
/-- What own leaves of a form's number. -/
def OPost (q pb : Nat) (s : ByteArray) (k : Nat) (w : World) (r : Ending) (w' : World) : Prop :=
  Ch (fun i => i = pb) w w' ∧ (((uq s k 0).2.2 ≠ 0 ∧ r = .returned (.tuple #[.pointer none, .int .i64 (uq s k 0).2.2])) ∨
  ((uq s k 0).2.2 = 0 ∧ s.size < (uq s k 0).2.1 + (uq s k 0).1 ∧ r = .returned (.tuple #[.pointer none, .int .i64 21])) ∨
  ((uq s k 0).2.2 = 0 ∧ (uq s k 0).2.1 + (uq s k 0).1 ≤ s.size ∧ ∃ q2 pb2, r = .returned (.tuple #[.pointer (some ⟨q2, 0, none⟩), .int .i64 0]) ∧ RR w' q2 pb2 0 ∧ Rd w' pb2 (s.extract (uq s k 0).2.1 ((uq s k 0).2.1 + (uq s k 0).1)) 0 0 ∧ pb2 ≠ q2 ∧ w.heap.size ≤ q2 ∧ w.heap.size ≤ pb2 ∧ RR w' q pb 0 ∧ Rd w' pb s ((uq s k 0).2.1 + (uq s k 0).1) 0))
set_option maxHeartbeats 1000000 in
set_option maxRecDepth 20000 in
theorem own_any (q pb : Nat) (s : ByteArray) (k : Nat) (w : World) (h : RR w q pb 0) (hr : Rd w pb s k 0) (hq : pb ≠ q) (hk : k ≤ s.size) (hs : s.size ≤ 9223372036854775807) :
    Calls Tryz.prog 113 #[.pointer (some ⟨q, 0, none⟩)] w (OPost q pb s k w) := by
  obtain ⟨L, k1, e1, hu⟩ : ∃ L k1 e1, uq s k 0 = (L, k1, e1) := ⟨_, _, _, rfl⟩
  have hk1 := uq_le (e := 0) hk
  have hLb := uq_bd (s := s) (k := k) (e := 0)
  have cu := uvarint_any pb s k 0 w hr hk hs
  unfold OPost
  rw [hu] at cu hk1 hLb ⊢
  dsimp only at cu hk1 hLb ⊢
  have CU := hid cu
  have H := hid h
  have c0 := h.c0
  have hlb := hr.lt
  have HU := hid hu
  clear cu h hr hu
  by_cases he : e1 = 0
  · subst he
    by_cases hx : s.size < k1 + L
    · have hx' : (s.size : Int) - k1 < (L : Int) := by omega
      have hw : IntKind.u64.wrap ((s.size : Int) - k1) = (s.size : Int) - k1 := by rw [IntKind.wrap_u64]; omega
      have HX := hid hx
      have HK1 := hid hk1
      have HS := hid hs
      clear hx hk1 hs hLb hk
      go_enter Tryz.func113, Tryz.ntmps113
      go_wp2_with fail
      refine CU.out.mono ?_
      rintro r w1 ⟨rfl, hr1, hc1⟩
      have h1 : RR w1 q pb 0 := H.out.ch hc1 (fun h => hq h.symm)
      have d0 := h1.c0
      have CL := hid (rleft_any pb s k1 0 w1 hr1 HK1.out HS.out)
      have HC1 := hid hc1
      clear h1 hr1 hc1
      go_wp2_with (go_at_call 116; refine CL.out.mono ?_; rintro r w2 ⟨rfl, nd, rfl⟩)
      go_ret2
      exact ⟨HC1.out.drewN _, Or.inr (Or.inl ⟨trivial, HX.out, rfl⟩)⟩
    · have hx' : ¬ (s.size : Int) - k1 < (L : Int) := by omega
      have hw : IntKind.u64.wrap ((s.size : Int) - k1) = (s.size : Int) - k1 := by rw [IntKind.wrap_u64]; omega
      have hw2 : IntKind.i64.wrap (L : Int) = L := wrap_in (by omega) (by omega)
      have hw3 : wrap64 (L : Int) = L := by unfold wrap64; omega
      have hrq : rq (L : Int) s k1 0 = (s.extract k1 (k1 + L), k1 + L, 0) := rq_ok (by omega)
      have hL2 : (L : Int) ≤ 9223372036854775807 := by omega
      have HX := hid hx
      have HK1 := hid hk1
      have HS := hid hs
      have HL2 := hid hL2
      have HRQ := hid hrq
      clear hx hk1 hs hLb hk hrq hL2
      go_enter Tryz.func113, Tryz.ntmps113
      go_wp2_with fail
      refine CU.out.mono ?_
      rintro r w1 ⟨rfl, hr1, hc1⟩
      have h1 : RR w1 q pb 0 := H.out.ch hc1 (fun h => hq h.symm)
      have d0 := h1.c0
      have CL := hid (rleft_any pb s k1 0 w1 hr1 HK1.out HS.out)
      have H1 := hid h1
      have HR1 := hid hr1
      have HC1 := hid hc1
      clear h1 hr1 hc1
      go_wp2_with (go_at_call 116; refine CL.out.mono ?_; rintro r w2 ⟨rfl, nd, rfl⟩)
      refine (rpart_ok pb s k1 (L : Int) _ (HR1.out.drewN nd) HS.out (by omega) HL2.out (by rw [HRQ.out])).mono ?_
      rintro r w3 ⟨pb2, hp2, rfl, hr2, hr3, hc3⟩
      rw [HRQ.out] at hr2 hr3
      dsimp only at hr2 hr3
      have h3 : RR w3 q pb 0 := (show RR (w1.drewN nd) q pb 0 from H1.out).ch hc3 (fun h => hq h.symm)
      have hz1 := HC1.out.size
      have hz3 := hc3.size
      have hp2' : w1.heap.size ≤ pb2 := hp2
      have hz3' : w1.heap.size ≤ w3.heap.size := hz3
      have hlp := hr2.lt
      have HF : Hid (RR (w3.alloc (.cells #[.pointer (some ⟨pb2, 0, none⟩), .int .i64 0] 119)) w3.heap.size pb2 0 ∧ Rd (w3.alloc (.cells #[.pointer (some ⟨pb2, 0, none⟩), .int .i64 0] 119)) pb2 (s.extract k1 (k1 + L)) 0 0 ∧ pb2 ≠ w3.heap.size ∧ w.heap.size ≤ w3.heap.size ∧ w.heap.size ≤ pb2 ∧ RR (w3.alloc (.cells #[.pointer (some ⟨pb2, 0, none⟩), .int .i64 0] 119)) q pb 0 ∧ Rd (w3.alloc (.cells #[.pointer (some ⟨pb2, 0, none⟩), .int .i64 0] 119)) pb s (k1 + L) 0) :=
        ⟨heap_new _ _, hr2.alloc _, by omega, by omega, by omega, heap_alloc_at h3, hr3.alloc _⟩
      have HCF := hid (((HC1.out.drewN nd).trans hc3).alloc (.cells #[.pointer (some ⟨pb2, 0, none⟩), .int .i64 0] 119))
      clear hr2 hr3 hc3 h3 hz1 hz3 hp2
      go_wp2_with fail
      go_ret2
      exact ⟨HCF.out, Or.inr (Or.inr ⟨trivial, by have := HX.out; omega, _, pb2, rfl, HF.out⟩)⟩
  · have hne : ((e1 : Int) != 0) = true := by rw [bne_iff_ne]; omega
    have HE := hid he
    clear he hk1 hLb hs hk
    go_enter Tryz.func113, Tryz.ntmps113
    go_wp2_with fail
    refine CU.out.mono ?_
    rintro r w1 ⟨rfl, hr1, hc1⟩
    have HC1 := hid hc1
    clear hr1 hc1
    go_wp2_with fail
    go_ret2
    exact ⟨HC1.out, Or.inl ⟨HE.out, rfl⟩⟩
def noRec : Value := .agg #[.int .i64 0, .bool false, .string ⟨#[]⟩, .bool false, .string ⟨#[]⟩, .slice none 0 0]
/-- What next leaves. -/
def NPost (q pb : Nat) (s : ByteArray) (B : Nat) (R : Except Nat (Rec × Nat)) (w : World) (r : Ending) (w' : World) : Prop :=
  Ch (fun i => i = pb) w w' ∧ match R with
    | .error x => r = .returned (.tuple #[noRec, .int .i64 x]) ∧ x ≠ 0
    | .ok y => ∃ a cap, r = .returned (.tuple #[recV y.1 a cap, .int .i64 0]) ∧ OwnH w' B (.slice a y.1.hs.length cap) y.1.hs ∧ RR w' q pb 0 ∧ Rd w' pb s y.2 0 ∧ y.2 ≤ s.size
theorem nxt_spec {s : ByteArray} {k : Nat} {first : Int} {n L k1 : Nat} (hu : uq s k 0 = (L, k1, 0)) (hx : k1 + L ≤ s.size) {x : Rec} {f' k' e' : Nat} {b1 b2 : Bool}
    (h1 : fl f' e' ≠ 0 → r1 (s.extract k1 (k1 + L)) first n = .error (fl f' e')) (h2 : fl f' e' = 0 → r1 (s.extract k1 (k1 + L)) first n = if k' < (s.extract k1 (k1 + L)).size then .error 26 else .ok x)
    (hb1 : b1 = true ↔ k' < (s.extract k1 (k1 + L)).size) (hb2 : b2 = true ↔ 16777216 < k1 + L - k) :
    (fl (rf b2 66 (rf b1 26 f' e') e') e' ≠ 0 → nxt s k first n = .error (fl (rf b2 66 (rf b1 26 f' e') e') e')) ∧ (fl (rf b2 66 (rf b1 26 f' e') e') e' = 0 → nxt s k first n = .ok (x, k1 + L)) := by
  unfold nxt
  rw [hu]
  dsimp only
  rw [if_neg (by simp)]
  unfold nx2
  rw [if_neg (by omega)]
  by_cases hz : fl f' e' = 0
  · obtain ⟨rfl, rfl⟩ := fl_zero hz
    rw [h2 hz]
    cases b1 with
    | true =>
      rw [rf_yes rfl, if_pos (hb1.1 rfl)]
      have e1 : fl (rf b2 66 26 0) 0 = 26 := by rw [fl_rf _ _ (by decide)]; rfl
      rw [e1]
      exact ⟨fun _ => rfl, fun h => by cases h⟩
    | false =>
      rw [rf_no, if_neg (fun h => by have := hb1.2 h; cases this)]
      dsimp only
      cases b2 with
      | true =>
        rw [rf_yes rfl, if_pos (hb2.1 rfl)]
        exact ⟨fun _ => rfl, fun h => by cases h⟩
      | false =>
        rw [rf_no, if_neg (fun h => by have := hb2.2 h; cases this)]
        exact ⟨fun h => absurd rfl h, fun _ => rfl⟩
  · have e1 := fl_rf b1 26 hz
    have e2 : fl (rf b2 66 (rf b1 26 f' e') e') e' = fl f' e' := by rw [fl_rf _ _ (by rw [e1]; exact hz), e1]
    rw [e2, h1 hz]
    exact ⟨fun _ => rfl, fun h => absurd h hz⟩
set_option maxHeartbeats 1000000 in
set_option maxRecDepth 20000 in
theorem next_any (q pb : Nat) (s : ByteArray) (k : Nat) (first : Int) (n : Nat) (w : World) (h : RR w q pb 0) (hr : Rd w pb s k 0) (hq : pb ≠ q) (hk : k ≤ s.size) (hs : s.size ≤ 9223372036854775807) (hf : I64 first) (hn : n < 65536) :
    Calls Tryz.prog 76 #[.pointer (some ⟨q, 0, none⟩), .int .i64 first, .int .i64 n] w (NPost q pb s w.heap.size (nxt s k first n) w) := by
  obtain ⟨L, k1, e1, hu⟩ : ∃ L k1 e1, uq s k 0 = (L, k1, e1) := ⟨_, _, _, rfl⟩
  have CW := hid (fun x h hr => own_any q pb s k x h hr hq hk hs)
  have CA := hid (fun x hr => rat_any pb s k 0 x hr)
  have HU := hid hu
  have c0 := h.c0
  have hlq := h.lt
  have hlb := hr.lt
  have HS := hid hs
  have HK := hid hk
  have H := hid h
  have HR := hid hr
  clear h hr hs hk hu
  go_enter Tryz.func76, Tryz.ntmps76
  go_wp2_with (go_at_call 112; refine (CA.out _ (HR.out.alloc _)).mono ?_; rintro r w1 ⟨rfl, rfl⟩)
  refine (CW.out _ (heap_alloc_at H.out) (HR.out.alloc _)).mono ?_
  rintro r w1 ⟨hc1, hcase⟩
  have hR1 : w1.heap[w.heap.size]? = some (.cells #[.int .i64 0, .bool false, .string ⟨#[]⟩, .bool false, .string ⟨#[]⟩, .slice none 0 0] 49 (0, 0)) := (hc1.block _ (by simp) (by omega)).trans (heap_new _ _)
  have hW0 : (w.alloc (.cells #[.int .i64 0, .bool false, .string ⟨#[]⟩, .bool false, .string ⟨#[]⟩, .slice none 0 0] 49)).heap.size = w.heap.size + 1 := by simp
  have HC1 : Hid (Ch (fun i => i = pb) w w1) := ((Ch.refl _ _).alloc _).trans hc1
  have HR1 := hid hR1
  rw [HU.out, hW0] at hcase
  dsimp only at hcase
  clear hc1 hR1 hW0
  rcases hcase with ⟨he, rfl⟩ | ⟨he, hx, rfl⟩ | ⟨he, hx, q2, pb2, rfl, h2, hr2, hq2, hlq2, hlp2, h3, hr3⟩
  · have hne : ((e1 : Int) != 0) = true := by rw [bne_iff_ne]; omega
    have HN : Hid (nxt s k first n = .error e1) := by unfold Hid nxt; rw [HU.out]; dsimp only; rw [if_pos he]
    have HE := hid he
    clear he
    have rr := HR1.out
    obtain ⟨m0, m1, m2, m3, m4, m5⟩ := cells6 rr
    have n0 := froz_of (i := 0) rr
    have n1 := froz_of (i := 1) rr
    have n2 := froz_of (i := 2) rr
    have n3 := froz_of (i := 3) rr
    have n4 := froz_of (i := 4) rr
    have n5 := froz_of (i := 5) rr
    clear rr
    go_wp2_with fail
    have f11 : ((((((w1.setCell ⟨w.heap.size, 0, none⟩ (.int .i64 0)).setCell ⟨w.heap.size, 1, none⟩ (.bool false)).setCell ⟨w.heap.size, 2, none⟩ (.string ⟨#[]⟩)).setCell ⟨w.heap.size, 3, none⟩ (.bool false)).setCell ⟨w.heap.size, 4, none⟩ (.string ⟨#[]⟩)).setCell ⟨w.heap.size, 5, none⟩ (.slice none 0 0)).heap[w.heap.size]? = some (.cells #[.int .i64 0, .bool false, .string ⟨#[]⟩, .bool false, .string ⟨#[]⟩, .slice none 0 0] 49 (0, 0)) := heap_set (heap_set (heap_set (heap_set (heap_set (heap_set HR1.out)))))
    obtain ⟨j0, j1, j2, j3, j4, j5⟩ := cells6 f11
    clear f11
    refine bodyPost_ret (v := .tuple #[noRec, .int .i64 e1]) (by simp [results, noRec, Tryz.results76, go_sem, j0, j1, j2, j3, j4, j5]) rfl ?_
    refine ⟨(((((HC1.out.setCell _ _ (by simp)).setCell _ _ (by simp)).setCell _ _ (by simp)).setCell _ _ (by simp)).setCell _ _ (by simp)).setCell _ _ (by simp), ?_⟩
    rw [HN.out]
    exact ⟨rfl, HE.out⟩
  · subst he
    have HN : Hid (nxt s k first n = .error 21) := by unfold Hid nxt; rw [HU.out]; dsimp only; rw [if_neg (by simp)]; unfold nx2; rw [if_pos hx]
    have rr := HR1.out
    obtain ⟨m0, m1, m2, m3, m4, m5⟩ := cells6 rr
    have n0 := froz_of (i := 0) rr
    have n1 := froz_of (i := 1) rr
    have n2 := froz_of (i := 2) rr
    have n3 := froz_of (i := 3) rr
    have n4 := froz_of (i := 4) rr
    have n5 := froz_of (i := 5) rr
    clear rr
    go_wp2_with fail
    have f11 : ((((((w1.setCell ⟨w.heap.size, 0, none⟩ (.int .i64 0)).setCell ⟨w.heap.size, 1, none⟩ (.bool false)).setCell ⟨w.heap.size, 2, none⟩ (.string ⟨#[]⟩)).setCell ⟨w.heap.size, 3, none⟩ (.bool false)).setCell ⟨w.heap.size, 4, none⟩ (.string ⟨#[]⟩)).setCell ⟨w.heap.size, 5, none⟩ (.slice none 0 0)).heap[w.heap.size]? = some (.cells #[.int .i64 0, .bool false, .string ⟨#[]⟩, .bool false, .string ⟨#[]⟩, .slice none 0 0] 49 (0, 0)) := heap_set (heap_set (heap_set (heap_set (heap_set (heap_set HR1.out)))))
    obtain ⟨j0, j1, j2, j3, j4, j5⟩ := cells6 f11
    clear f11
    refine bodyPost_ret (v := .tuple #[noRec, .int .i64 21]) (by simp [results, noRec, Tryz.results76, go_sem, j0, j1, j2, j3, j4, j5]) rfl ?_
    refine ⟨(((((HC1.out.setCell _ _ (by simp)).setCell _ _ (by simp)).setCell _ _ (by simp)).setCell _ _ (by simp)).setCell _ _ (by simp)).setCell _ _ (by simp), ?_⟩
    rw [HN.out]
    exact ⟨rfl, by decide⟩
  · subst he
    have hsz : (s.extract k1 (k1 + L)).size = L := by rw [ByteArray.size_extract]; omega
    have hL : L ≤ 9223372036854775807 := by have := HS.out; omega
    have CR := hid (record_any q2 pb2 (s.extract k1 (k1 + L)) first n w1 h2 hr2 hq2 (by rw [hsz]; exact hL) hf hn)
    have HSP := hid (fun x f' k' e' b1 b2 => @nxt_spec s k first n L k1 HU.out hx x f' k' e' b1 b2)
    have hl2 := h2.lt
    have hlp := hr2.lt
    have hl1 := lt_of_heap HR1.out
    have H3 := hid h3
    have HR3 := hid hr3
    have HSZ := hid hsz
    have HX := hid hx
    have HL := hid hL
    clear h2 hr2 h3 hr3 hsz hx hL
    generalize s.extract k1 (k1 + L) = P at *
    go_wp2_with fail
    refine CR.out.mono ?_
    rintro r w2 ⟨x, a, cap, f', k', e', rfl, ho, h4, hr4, hk4, hc4, t1, t2⟩
    have HT := hid (fun b1 b2 => HSP.out x f' k' e' b1 b2 t1 t2)
    have hR2 : w2.heap[w.heap.size]? = some (.cells #[.int .i64 0, .bool false, .string ⟨#[]⟩, .bool false, .string ⟨#[]⟩, .slice none 0 0] 49 (0, 0)) := (hc4.block _ hl1 (by omega)).trans HR1.out
    have h42 : RR w2 q pb 0 := H3.out.ch hc4 (by omega)
    have hr42 : Rd w2 pb s (k1 + L) 0 := HR3.out.ch hc4 (by omega)
    have HC2 : Hid (Ch (fun i => i = pb) w w2) := HC1.out.then hc4 (fun i hi h => by omega)
    have hs12 := hc4.size
    have ho2 := own_base (Nat.le_of_lt hl1) ho
    obtain ⟨xt, xkh, xkd, xvh, xvd, xhs⟩ := x
    simp only [recV] at *
    have G3 : (w2.alloc (.cells #[.int .i64 xt, .bool xkh, .string xkd, .bool xvh, .string xvd, .slice a xhs.length cap] 49)).heap[w2.heap.size]? = some (.cells #[.int .i64 xt, .bool xkh, .string xkd, .bool xvh, .string xvd, .slice a xhs.length cap] 49 (0, 0)) := heap_new _ _
    have K3 : RR (w2.alloc (.cells #[.int .i64 xt, .bool xkh, .string xkd, .bool xvh, .string xvd, .slice a xhs.length cap] 49)) q2 pb2 f' := heap_alloc_at h4
    have L3 : Rd (w2.alloc (.cells #[.int .i64 xt, .bool xkh, .string xkd, .bool xvh, .string xvd, .slice a xhs.length cap] 49)) pb2 P k' e' := hr4.alloc _
    have M3 : RR (w2.alloc (.cells #[.int .i64 xt, .bool xkh, .string xkd, .bool xvh, .string xvd, .slice a xhs.length cap] 49)) q pb 0 := heap_alloc_at h42
    have N3 : Rd (w2.alloc (.cells #[.int .i64 xt, .bool xkh, .string xkd, .bool xvh, .string xvd, .slice a xhs.length cap] 49)) pb s (k1 + L) 0 := hr42.alloc _
    have R3 : (w2.alloc (.cells #[.int .i64 xt, .bool xkh, .string xkd, .bool xvh, .string xvd, .slice a xhs.length cap] 49)).heap[w.heap.size]? = some (.cells #[.int .i64 0, .bool false, .string ⟨#[]⟩, .bool false, .string ⟨#[]⟩, .slice none 0 0] 49 (0, 0)) := heap_alloc_at hR2
    have O3 : OwnH (w2.alloc (.cells #[.int .i64 xt, .bool xkh, .string xkd, .bool xvh, .string xvd, .slice a xhs.length cap] 49)) w.heap.size (.slice a xhs.length cap) xhs := World.ownsRow.alloc ho2 _
    have C3 : Ch (fun i => i = pb) w (w2.alloc (.cells #[.int .i64 xt, .bool xkh, .string xkd, .bool xvh, .string xvd, .slice a xhs.length cap] 49)) := HC2.out.alloc _
    have dq : q2 < w2.heap.size := h4.lt
    have dp : pb2 < w2.heap.size := hr4.lt
    have HK4 := hid hk4
    have d0 := K3.c0
    clear ho ho2 h4 hr4 hc4 t1 t2 hR2 h42 hr42 CR HSP CW CA hk4
    go_wp2_with fail
    generalize w2.alloc (.cells #[.int .i64 xt, .bool xkh, .string xkd, .bool xvh, .string xvd, .slice a xhs.length cap] 49) = w3 at *
    have hPL : P.size ≤ 9223372036854775807 := by rw [HSZ.out]; exact HL.out
    refine (rleft_any pb2 P k' e' w3 L3 HK4.out hPL).mono ?_
    rintro r w4 ⟨rfl, nd, rfl⟩
    have K4 := hid (show RR (w3.drewN nd) q2 pb2 f' from K3)
    have L4 := hid (L3.drewN nd)
    have M4 := hid (show RR (w3.drewN nd) q pb 0 from M3)
    have N4 := hid (N3.drewN nd)
    have R4 := hid (show (w3.drewN nd).heap[w.heap.size]? = some (.cells #[.int .i64 0, .bool false, .string ⟨#[]⟩, .bool false, .string ⟨#[]⟩, .slice none 0 0] 49 (0, 0)) from R3)
    have G4 := hid (show (w3.drewN nd).heap[w2.heap.size]? = some (.cells #[.int .i64 xt, .bool xkh, .string xkd, .bool xvh, .string xvd, .slice a xhs.length cap] 49 (0, 0)) from G3)
    have O4 := hid (show OwnH (w3.drewN nd) w.heap.size (.slice a xhs.length cap) xhs from O3)
    have C4 := hid (C3.drewN nd)
    clear K3 L3 M3 N3 R3 G3 O3 C3 hPL
    go_wp2_with fail
    generalize w3.drewN nd = w4 at *
    refine (refuse_any q2 pb2 f' P k' e' 26 _ w4 K4.out L4.out hq2).mono ?_
    rintro r w5 ⟨rfl, K5, L5, c5⟩
    have c0' := K5.c0
    have M5 := hid (M4.out.ch c5 (by omega))
    have N5 := hid (N4.out.ch c5 (by omega))
    have R5 := hid ((c5.block _ (lt_of_heap R4.out) (by omega)).trans R4.out)
    have G5 := hid ((c5.block _ (lt_of_heap G4.out) (by omega)).trans G4.out)
    have O5 : Hid (OwnH w5 w.heap.size (.slice a xhs.length cap) xhs) := own_apart O4.out (fun g hg => c5.block g (World.ownsRow.lt O4.out g hg).2 (fun h => own_ne O4.out K4.out (by decide) (h ▸ hg)))
    have C5 : Hid (Ch (fun i => i = pb) w w5) := C4.out.then c5 (fun i hi h => by omega)
    have L5' := L5
    clear M4 N4 R4 G4 O4 C4
    have M50 := M5.out.c0
    have CA5 := hid (rat_any pb s (k1 + L) 0 w5 N5.out)
    clear L5 c5
    have L5 := hid L5'
    clear L5'
    have K5' := hid K5
    clear K5
    go_wp2_with (go_at_call 112; refine CA5.out.mono ?_; rintro r w5 ⟨rfl, rfl⟩)
    refine (refuse_any q2 pb2 _ P k' e' 66 _ w5 K5'.out L5.out hq2).mono ?_
    rintro r w6 ⟨rfl, K6, L6, c6⟩
    have c0'' := K6.c0
    have M6 := hid (M5.out.ch c6 (by omega))
    have N6 := hid (N5.out.ch c6 (by omega))
    have R6 := hid ((c6.block _ (lt_of_heap R5.out) (by omega)).trans R5.out)
    have G6 := hid ((c6.block _ (lt_of_heap G5.out) (by omega)).trans G5.out)
    have O6 : Hid (OwnH w6 w.heap.size (.slice a xhs.length cap) xhs) := own_apart O5.out (fun g hg => c6.block g (World.ownsRow.lt O5.out g hg).2 (fun h => own_ne O5.out K5'.out (by decide) (h ▸ hg)))
    have C6 : Hid (Ch (fun i => i = pb) w w6) := C5.out.then c6 (fun i hi h => by omega)
    have L6' := L6
    clear M5 N5 R5 G5 O5 C5
    have CF := hid (failed_any q2 pb2 _ P k' e' w6 K6 L6)
    clear L6 c6 K6 L6'
    go_wp2_with fail
    refine CF.out.mono ?_
    rintro r w7 ⟨rfl, rfl⟩
    have hT := HT.out (decide (k' < P.size)) (decide ((16777216 : Int) < wrap64 ((k1 : Int) + (L : Int) - (k : Int)))) (by rw [decide_eq_true_iff]) (by rw [decide_eq_true_iff]; unfold wrap64; have := HK.out; have := HX.out; have := HS.out; omega)
    clear HT CF CA5 M50 c0' c0'' d0 K5' L5
    generalize fl (rf (decide ((16777216 : Int) < wrap64 ((k1 : Int) + (L : Int) - (k : Int)))) 66 (rf (decide (k' < P.size)) 26 f' e') e') e' = F at hT ⊢
    by_cases hF : F = 0
    · have HN := hid (hT.2 hF)
      subst hF
      clear hT
      have rr := R6.out
      have gg := G6.out
      obtain ⟨m0, m1, m2, m3, m4, m5⟩ := cells6 rr
      have n0 := froz_of (i := 0) rr
      have n1 := froz_of (i := 1) rr
      have n2 := froz_of (i := 2) rr
      have n3 := froz_of (i := 3) rr
      have n4 := froz_of (i := 4) rr
      have n5 := froz_of (i := 5) rr
      obtain ⟨g0, g1, g2, g3, g4, g5⟩ := cells6 gg
      clear rr gg
      go_wp2_with fail
      have f11 : ((((((w7.setCell ⟨w.heap.size, 0, none⟩ (.int .i64 xt)).setCell ⟨w.heap.size, 1, none⟩ (.bool xkh)).setCell ⟨w.heap.size, 2, none⟩ (.string xkd)).setCell ⟨w.heap.size, 3, none⟩ (.bool xvh)).setCell ⟨w.heap.size, 4, none⟩ (.string xvd)).setCell ⟨w.heap.size, 5, none⟩ (.slice a xhs.length cap)).heap[w.heap.size]? = some (.cells #[.int .i64 xt, .bool xkh, .string xkd, .bool xvh, .string xvd, .slice a xhs.length cap] 49 (0, 0)) := heap_set (heap_set (heap_set (heap_set (heap_set (heap_set R6.out)))))
      obtain ⟨j0, j1, j2, j3, j4, j5⟩ := cells6 f11
      clear f11
      refine bodyPost_ret (v := .tuple #[.agg #[.int .i64 xt, .bool xkh, .string xkd, .bool xvh, .string xvd, .slice a xhs.length cap], .int .i64 0]) (by simp [results, Tryz.results76, go_sem, j0, j1, j2, j3, j4, j5]) rfl ?_
      refine ⟨(((((C6.out.setCell _ _ (by simp)).setCell _ _ (by simp)).setCell _ _ (by simp)).setCell _ _ (by simp)).setCell _ _ (by simp)).setCell _ _ (by simp), ?_⟩
      rw [HN.out]
      have hx : ∀ g, (Value.slice a xhs.length cap).ownBlock = some g → g ≠ w.heap.size := fun g hg h => own_ne O6.out (h ▸ R6.out) (by decide) hg
      exact ⟨a, cap, rfl, own_apart O6.out (fun g hg => store6_eq (hx g hg)), store6 M6.out (by omega), store6 N6.out (by omega), HX.out⟩
    · have HN := hid (hT.1 hF)
      have HF := hid hF
      have hne : ((F : Int) != 0) = true := by rw [bne_iff_ne]; omega
      clear hT hF
      have rr := R6.out
      obtain ⟨m0, m1, m2, m3, m4, m5⟩ := cells6 rr
      have n0 := froz_of (i := 0) rr
      have n1 := froz_of (i := 1) rr
      have n2 := froz_of (i := 2) rr
      have n3 := froz_of (i := 3) rr
      have n4 := froz_of (i := 4) rr
      have n5 := froz_of (i := 5) rr
      clear rr
      go_wp2_with fail
      have f11 : ((((((w7.setCell ⟨w.heap.size, 0, none⟩ (.int .i64 0)).setCell ⟨w.heap.size, 1, none⟩ (.bool false)).setCell ⟨w.heap.size, 2, none⟩ (.string ⟨#[]⟩)).setCell ⟨w.heap.size, 3, none⟩ (.bool false)).setCell ⟨w.heap.size, 4, none⟩ (.string ⟨#[]⟩)).setCell ⟨w.heap.size, 5, none⟩ (.slice none 0 0)).heap[w.heap.size]? = some (.cells #[.int .i64 0, .bool false, .string ⟨#[]⟩, .bool false, .string ⟨#[]⟩, .slice none 0 0] 49 (0, 0)) := heap_set (heap_set (heap_set (heap_set (heap_set (heap_set R6.out)))))
      obtain ⟨j0, j1, j2, j3, j4, j5⟩ := cells6 f11
      clear f11
      refine bodyPost_ret (v := .tuple #[noRec, .int .i64 F]) (by simp [results, noRec, Tryz.results76, go_sem, j0, j1, j2, j3, j4, j5]) rfl ?_
      refine ⟨(((((C6.out.setCell _ _ (by simp)).setCell _ _ (by simp)).setCell _ _ (by simp)).setCell _ _ (by simp)).setCell _ _ (by simp)).setCell _ _ (by simp), ?_⟩
      rw [HN.out]
      exact ⟨rfl, HF.out⟩
end Go.Proofs.YtihokphamgkkcaaGreat
