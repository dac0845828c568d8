/- What the record's writer lays down: the record's form behind what is written; its own bytes are counted first. -/
import Derived.Test.YtihokphamgkkcaaGreatSz
namespace Go.Proofs.YtihokphamgkkcaaGreat
open Go.RowKit
/-- A writer at work, beside a block of another kind that stays. -/
structure WK (p B Q : Nat) (c : Array Value) (T : TypeId) (w x : World) (l : List Nat) : Prop where
  wr : Wr x p B l
  ch : Ch (WU p B w) w x
  q : x.heap[Q]? = some (.cells c T (0, 0))
theorem WK.drew {p B Q : Nat} {c : Array Value} {T : TypeId} {w x : World} {l : List Nat} (h : WK p B Q c T w x l) : WK p B Q c T w x.drew l := ⟨h.wr.ch ((Ch.refl (fun _ => False) _).drew) (fun h => h) (fun _ _ h => h), h.ch.drew, h.q⟩
theorem WK.next {p B Q : Nat} {c : Array Value} {T : TypeId} {w x x' : World} {l l' : List Nat} {e : Ending} (h : WK p B Q c T w x l) (hQ : Q ≠ p) (hT : T ≠ 5) (k : Lays p B l' x e x') : WK p B Q c T w x' l' := ⟨k.2.1, h.ch.tu k.2.2, k.2.2.other h.q hQ hT⟩
theorem WK.below {p B Q : Nat} {c : Array Value} {T : TypeId} {w x x' : World} {l : List Nat} (h : WK p B Q c T w x l) (hb : Below x.heap.size x x') : WK p B Q c T w x' l := ⟨h.wr.below hb, h.ch.tu (Ch.of_below hb), (hb.block _ (lt_of_heap h.q)).trans h.q⟩
theorem Wr.pB {w : World} {p B : Nat} {l : List Nat} (h : Wr w p B l) : p < B ∧ B ≤ w.heap.size := by
  obtain ⟨_, _, _, _, _, _, hp, hB, _⟩ := h
  exact ⟨hp, hB⟩
theorem hds_ch {w0 w x : World} {p B : Nat} {a : Option Addr} {hs : List Hdr} (V : Hds w0 a hs) (h0 : Below w0.heap.size w0 w) (hp : w0.heap.size ≤ p) (hB : p < B) (hc : Ch (WU p B w) w x) : Hds x a hs :=
  V.below (h0.trans (hc.below h0.size (fun i hi hs => by rcases hs with rfl | ⟨h, _⟩ <;> omega)))
theorem wol_any (p B : Nat) (l : List Nat) (b : Bool) (t : ByteArray) (w : World) (h : Wr w p B l) (hl : l.length + (ol b t).length ≤ 140737488350000) :
    Calls Tryz.prog 125 #[.pointer (some ⟨p, 0, none⟩), .agg #[.bool b, .string t]] w (Lays p B (l ++ ol b t) w) := by
  cases b with
  | false => exact wnull_any p B l t w h (by omega)
  | true =>
    have := wopt_any p B l t w h (by omega) (by
      unfold ol at hl
      rw [if_pos rfl, List.length_append, bl_len] at hl
      omega)
    unfold ol
    rw [if_pos rfl, ← List.append_assoc]
    exact this
theorem wtx_any (p B : Nat) (l : List Nat) (t : ByteArray) (w : World) (h : Wr w p B l) (hl : l.length + (tx t).length ≤ 140737488350000) :
    Calls Tryz.prog 126 #[.pointer (some ⟨p, 0, none⟩), .string t] w (Lays p B (l ++ tx t) w) := by
  have := wtext_any p B l t w h (by omega) (by
    unfold tx at hl
    rw [List.length_append, bl_len] at hl
    omega)
  unfold tx
  rw [← List.append_assoc]
  exact this
theorem cells6 {x : World} {Q : Nat} {T : TypeId} {v0 v1 v2 v3 v4 v5 : Value} (h : x.heap[Q]? = some (.cells #[v0, v1, v2, v3, v4, v5] T (0, 0))) :
    x.cell? ⟨Q, 0, none⟩ = some v0 ∧ x.cell? ⟨Q, 1, none⟩ = some v1 ∧ x.cell? ⟨Q, 2, none⟩ = some v2 ∧ x.cell? ⟨Q, 3, none⟩ = some v3 ∧ x.cell? ⟨Q, 4, none⟩ = some v4 ∧ x.cell? ⟨Q, 5, none⟩ = some v5 :=
  ⟨(cell_of h).trans rfl, (cell_of h).trans rfl, (cell_of h).trans rfl, (cell_of h).trans rfl, (cell_of h).trans rfl, (cell_of h).trans rfl⟩
theorem cells3 {x : World} {Q : Nat} {T : TypeId} {v0 v1 v2 : Value} (h : x.heap[Q]? = some (.cells #[v0, v1, v2] T (0, 0))) :
    x.cell? ⟨Q, 0, none⟩ = some v0 ∧ x.cell? ⟨Q, 1, none⟩ = some v1 ∧ x.cell? ⟨Q, 2, none⟩ = some v2 :=
  ⟨(cell_of h).trans rfl, (cell_of h).trans rfl, (cell_of h).trans rfl⟩
set_option maxHeartbeats 2000000 in
set_option maxRecDepth 20000 in
theorem wrec_any (p B : Nat) (l : List Nat) (r : Rec) (a : Option Addr) (cap : Nat) (first : Int) (n : Nat) (w0 w : World) (V : Hds w0 a r.hs) (h0 : Below w0.heap.size w0 w) (hp : w0.heap.size ≤ p) (h : Wr w p B l) (hi : I64 (r.t - first)) (hn : n ≤ 65536) (hm : Mod r) (hll : l.length + (fm (r.t - first) n r).length ≤ 140737488000000) :
    Calls Tryz.prog 86 #[.pointer (some ⟨p, 0, none⟩), recV r a cap, .int .i64 first, .int .i64 n] w (Lays p B (l ++ fm (r.t - first) n r) w) := by
  obtain ⟨hpB, hBw⟩ := h.pB
  have ho := fun x V => ownsize_any r a cap (r.t - first) n x V hi (by omega) (own_le _ _ _ hm) hm.n hm.k hm.v hm.h
  have hlen : l.length + (M.form (own (r.t - first) n r).length).length + (1 + (M.form (M.zz (r.t - first)).toNat).length + (M.form n).length + (ol r.kh r.kd).length + (ol r.vh r.vd).length + (M.form r.hs.length).length + (hl r.hs).length) ≤ 140737488000000 := by
    simp only [fm, own, List.length_append, List.length_cons, List.length_nil] at hll ⊢
    omega
  have hown := own_le (r.t - first) n r hm
  have HF : Hid (l ++ fm (r.t - first) n r = l ++ M.form (own (r.t - first) n r).length ++ nb 1 0 ++ M.form (M.zz (r.t - first)).toNat ++ M.form n ++ ol r.kh r.kd ++ ol r.vh r.vd ++ M.form r.hs.length ++ hl r.hs) := by
    unfold Hid fm
    conv => lhs; rhs; rhs; unfold own
    simp only [List.append_assoc]
    rfl
  have hz := hm.n
  rw [HF.out]
  generalize (own (r.t - first) n r).length = OL at *
  obtain ⟨t, kh, kd, vh, vd, hs⟩ := r
  simp only [recV] at *
  have hx : IntKind.i64.wrap (t - first) = t - first := wrap_in hi.1 hi.2
  have HI := hid hi
  have hi1 := hi.1
  have hi2 := hi.2
  have HVV := hid V
  have H0 := hid h0
  have CO := hid ho
  clear V h0 ho hm hll HF hi
  go_enter Tryz.func86, Tryz.ntmps86
  go_wp2_with fail
  have hw1 : Wr (w.alloc (.cells #[.int .i64 t, .bool kh, .string kd, .bool vh, .string vd, .slice a hs.length cap] 49)) p B l := h.alloc _
  have hq1 : (w.alloc (.cells #[.int .i64 t, .bool kh, .string kd, .bool vh, .string vd, .slice a hs.length cap] 49)).heap[w.heap.size]? = some (.cells #[.int .i64 t, .bool kh, .string kd, .bool vh, .string vd, .slice a hs.length cap] 49 (0, 0)) := heap_new _ _
  have hb1 : Below w0.heap.size w0 (w.alloc (.cells #[.int .i64 t, .bool kh, .string kd, .bool vh, .string vd, .slice a hs.length cap] 49)) := H0.out.alloc H0.out.size _
  have hc1 : Ch (WU p B w) w (w.alloc (.cells #[.int .i64 t, .bool kh, .string kd, .bool vh, .string vd, .slice a hs.length cap] 49)) := Ch.alloc (Ch.refl _ _) _
  have hQ : w.heap.size ≠ p := by omega
  generalize hW : w.alloc (.cells #[.int .i64 t, .bool kh, .string kd, .bool vh, .string vd, .slice a hs.length cap] 49) = W at *
  generalize w.heap.size = Q at *
  have k1 : WK p B Q #[.int .i64 t, .bool kh, .string kd, .bool vh, .string vd, .slice a hs.length cap] 49 W W l := ⟨hw1, Ch.refl _ _, hq1⟩
  have HB1 := hid hb1
  have HC1 := hid hc1
  clear hw1 hq1 hb1 hc1 hW h
  have C1 := hid (fun x (k : WK p B Q #[.int .i64 t, .bool kh, .string kd, .bool vh, .string vd, .slice a hs.length cap] 49 W x l) => (CO.out x (hds_ch HVV.out HB1.out hp hpB k.ch)).mono fun _ _ h => And.intro h.1 (k.below h.2))
  have C2 := hid (fun x (k : WK p B Q #[.int .i64 t, .bool kh, .string kd, .bool vh, .string vd, .slice a hs.length cap] 49 W x l) => (wuvarint_any p B l OL x k.wr (by omega) (by omega)).mono fun _ _ h => And.intro h.1 (k.next hQ (by decide) h))
  have x1 : IntKind.u64.wrap (OL : Int) = OL := by rw [IntKind.wrap_u64]; omega
  go_region_held3 (fun x => x.cell? ⟨Q, 0, none⟩ = some (.int .i64 t) ∧ x.cell? ⟨Q, 1, none⟩ = some (.bool kh) ∧ x.cell? ⟨Q, 2, none⟩ = some (.string kd) ∧ x.cell? ⟨Q, 3, none⟩ = some (.bool vh) ∧ x.cell? ⟨Q, 4, none⟩ = some (.string vd) ∧ x.cell? ⟨Q, 5, none⟩ = some (.slice a hs.length cap)) (first | exact cells6 (WK.q (by assumption)) | exact cells6 (WK.q (WK.drew (by assumption)))) (first | (go_at_call 123; refine (C1.out _ ?_).mono ?_; (first | assumption | exact WK.drew (by assumption)); rintro e w' ⟨rfl, hk⟩) | (go_at_call 122; refine (C2.out _ ?_).mono ?_; (first | assumption | exact WK.drew (by assumption)); rintro e w' ⟨rfl, hk⟩))
  clear C1 C2 CO x1
  go_wp2_with fail
  refine (wu8_any p B _ 0 _ hk.wr (by omega) (by simp only [List.length_append]; omega)).mono ?_
  rintro e w2 he
  have k2 := hk.next hQ (by decide) he
  obtain ⟨rfl, _, _⟩ := he
  clear hk
  go_wp2_with fail
  refine (wvarint_any p B _ (t - first) _ k2.wr hi1 hi2 (by simp only [List.length_append, nb_len]; omega)).mono ?_
  rintro e w3 he
  have k3 := k2.next hQ (by decide) he
  obtain ⟨rfl, _, _⟩ := he
  clear k2
  go_wp2_with fail
  refine (wuvarint_any p B _ n _ k3.wr (by omega) (by simp only [List.length_append, nb_len]; omega)).mono ?_
  rintro e w4 he
  have k4 := k3.next hQ (by decide) he
  obtain ⟨rfl, _, _⟩ := he
  clear k3
  go_wp2_with fail
  have C4 := hid (fun x (k : WK p B Q #[.int .i64 t, .bool kh, .string kd, .bool vh, .string vd, .slice a hs.length cap] 49 W x (l ++ M.form OL ++ nb 1 0 ++ M.form (M.zz (t - first)).toNat ++ M.form n)) => (wol_any p B _ kh kd x k.wr (by simp only [List.length_append, nb_len]; omega)).mono fun _ _ h => And.intro h.1 (k.next hQ (by decide) h))
  go_region_held3 (fun x => x.cell? ⟨Q, 0, none⟩ = some (.int .i64 t) ∧ x.cell? ⟨Q, 1, none⟩ = some (.bool kh) ∧ x.cell? ⟨Q, 2, none⟩ = some (.string kd) ∧ x.cell? ⟨Q, 3, none⟩ = some (.bool vh) ∧ x.cell? ⟨Q, 4, none⟩ = some (.string vd) ∧ x.cell? ⟨Q, 5, none⟩ = some (.slice a hs.length cap)) (first | exact cells6 (WK.q (by assumption)) | exact cells6 (WK.q (WK.drew (by assumption)))) (first | (go_at_call 125; refine (C4.out _ ?_).mono ?_; (first | assumption | exact WK.drew (by assumption)); rintro e w' ⟨rfl, k5⟩))
  clear C4 k4
  go_wp2_with fail
  have C5 := hid (fun x (k : WK p B Q #[.int .i64 t, .bool kh, .string kd, .bool vh, .string vd, .slice a hs.length cap] 49 W x (l ++ M.form OL ++ nb 1 0 ++ M.form (M.zz (t - first)).toNat ++ M.form n ++ ol kh kd)) => (wol_any p B _ vh vd x k.wr (by simp only [List.length_append, nb_len]; omega)).mono fun _ _ h => And.intro h.1 (k.next hQ (by decide) h))
  go_region_held3 (fun x => x.cell? ⟨Q, 0, none⟩ = some (.int .i64 t) ∧ x.cell? ⟨Q, 1, none⟩ = some (.bool kh) ∧ x.cell? ⟨Q, 2, none⟩ = some (.string kd) ∧ x.cell? ⟨Q, 3, none⟩ = some (.bool vh) ∧ x.cell? ⟨Q, 4, none⟩ = some (.string vd) ∧ x.cell? ⟨Q, 5, none⟩ = some (.slice a hs.length cap)) (first | exact cells6 (WK.q (by assumption)) | exact cells6 (WK.q (WK.drew (by assumption)))) (first | (go_at_call 125; refine (C5.out _ ?_).mono ?_; (first | assumption | exact WK.drew (by assumption)); rintro e w' ⟨rfl, k6⟩))
  clear C5 k5
  go_wp2_with fail
  have x1 : IntKind.u64.wrap (hs.length : Int) = hs.length := by rw [IntKind.wrap_u64]; omega
  have C6 := hid (fun x (k : WK p B Q #[.int .i64 t, .bool kh, .string kd, .bool vh, .string vd, .slice a hs.length cap] 49 W x (l ++ M.form OL ++ nb 1 0 ++ M.form (M.zz (t - first)).toNat ++ M.form n ++ ol kh kd ++ ol vh vd)) => (wuvarint_any p B _ hs.length x k.wr (by omega) (by simp only [List.length_append, nb_len]; omega)).mono fun _ _ h => And.intro h.1 (k.next hQ (by decide) h))
  go_region_held3 (fun x => x.cell? ⟨Q, 0, none⟩ = some (.int .i64 t) ∧ x.cell? ⟨Q, 1, none⟩ = some (.bool kh) ∧ x.cell? ⟨Q, 2, none⟩ = some (.string kd) ∧ x.cell? ⟨Q, 3, none⟩ = some (.bool vh) ∧ x.cell? ⟨Q, 4, none⟩ = some (.string vd) ∧ x.cell? ⟨Q, 5, none⟩ = some (.slice a hs.length cap)) (first | exact cells6 (WK.q (by assumption)) | exact cells6 (WK.q (WK.drew (by assumption)))) (first | (go_at_call 122; refine (C6.out _ ?_).mono ?_; (first | assumption | exact WK.drew (by assumption)); rintro e w' ⟨rfl, k7⟩))
  clear C6 k6
  clear x1
  have c5 := (cells6 k7.q).2.2.2.2.2
  have K7 := hid k7
  obtain ⟨l7, e7⟩ : ∃ l7, l7 = l ++ M.form OL ++ nb 1 0 ++ M.form (M.zz (t - first)).toNat ++ M.form n ++ ol kh kd ++ ol vh vd ++ M.form hs.length := ⟨_, rfl⟩
  rw [← e7] at K7 ⊢
  have hl7 : l7.length + (hl hs).length ≤ 140737488000000 := by rw [e7]; simp only [List.length_append, nb_len]; omega
  have E7 := hid e7
  clear k7 e7
  go_wp2_with fail
  go_loopg [62] hs.length (fun k i wr => ∃ j : Nat, j + k = hs.length ∧ i = .int .i64 j ∧ Wr wr p B (l7 ++ hl (hs.take j)) ∧ Ch (WU p B W) W wr)
  case atStart => exact ⟨0, by omega, rfl, by simp only [List.take_zero]; simpa [hl] using K7.out.wr, K7.out.ch⟩
  case round =>
    obtain ⟨j, hk, rfl, hwr, hch⟩ := hrel
    by_cases hlt : j < hs.length
    · obtain ⟨k, rfl⟩ : ∃ k, gk = k + 1 := ⟨gk - 1, by omega⟩
      have HTK := hid (hl_take hs j hlt)
      have htl2 := hl_take_le hs (j + 1)
      have HV2 := hid (hds_ch HVV.out HB1.out hp hpB hch)
      rcases HV2.out with h | ⟨b, off, rfl, hbl, hc⟩
      · rw [h] at hlt; simp at hlt
      obtain ⟨q0, q1, q2⟩ := hc j hlt
      rw [HTK.out, List.length_append, hl1, List.length_append] at htl2
      generalize hs.getD j df = x at *
      obtain ⟨xk, xh, xd⟩ := x
      simp only at q0 q1 q2 htl2
      have b1 : (0 : Int) ≤ (j : Int) := by omega
      have b2 : (j : Int) < hs.length := by omega
      have hpw := hwr.lt
      clear hc
      go_wp2_with fail
      have kk : WK p B wr.heap.size #[.string xk, .bool xh, .string xd] 51 (wr.alloc (.cells #[.string xk, .bool xh, .string xd] 51)) (wr.alloc (.cells #[.string xk, .bool xh, .string xd] 51)) (l7 ++ hl (hs.take j)) := ⟨hwr.alloc _, Ch.refl _ _, heap_new _ _⟩
      have hcc : Ch (WU p B W) W (wr.alloc (.cells #[.string xk, .bool xh, .string xd] 51)) := hch.alloc _
      have hQ2 : wr.heap.size ≠ p := by omega
      generalize wr.alloc (.cells #[.string xk, .bool xh, .string xd] 51) = W2 at *
      have HCC := hid hcc
      clear hcc hwr hch
      have D1 := hid (fun x (k : WK p B wr.heap.size #[.string xk, .bool xh, .string xd] 51 W2 x (l7 ++ hl (hs.take j))) => (wtx_any p B _ xk x k.wr (by rw [List.length_append]; omega)).mono fun _ _ h => And.intro h.1 (k.next hQ2 (by decide) h))
      go_region_held3 (fun x => x.cell? ⟨wr.heap.size, 0, none⟩ = some (.string xk) ∧ x.cell? ⟨wr.heap.size, 1, none⟩ = some (.bool xh) ∧ x.cell? ⟨wr.heap.size, 2, none⟩ = some (.string xd)) (first | exact cells3 (WK.q (by assumption)) | exact cells3 (WK.q (WK.drew (by assumption)))) (first | (go_at_call 126; refine (D1.out _ ?_).mono ?_; (first | assumption | exact WK.drew (by assumption)); rintro e w' ⟨rfl, kk2⟩))
      clear D1 kk
      go_wp2_with fail
      have D2 := hid (fun x (k : WK p B wr.heap.size #[.string xk, .bool xh, .string xd] 51 W2 x (l7 ++ hl (hs.take j) ++ tx xk)) => (wol_any p B _ xh xd x k.wr (by rw [List.length_append, List.length_append]; omega)).mono fun _ _ h => And.intro h.1 (k.next hQ2 (by decide) h))
      go_region_held3 (fun x => x.cell? ⟨wr.heap.size, 0, none⟩ = some (.string xk) ∧ x.cell? ⟨wr.heap.size, 1, none⟩ = some (.bool xh) ∧ x.cell? ⟨wr.heap.size, 2, none⟩ = some (.string xd)) (first | exact cells3 (WK.q (by assumption)) | exact cells3 (WK.q (WK.drew (by assumption)))) (first | (go_at_call 125; refine (D2.out _ ?_).mono ?_; (first | assumption | exact WK.drew (by assumption)); rintro e w' ⟨rfl, kk3⟩))
      clear D2 kk2
      have K3 := hid kk3
      clear kk3
      go_wp2_with fail
      go_roundg k
      case measure => omega
      case rel =>
        refine ⟨j + 1, by omega, by go_num, ?_, HCC.out.tu K3.out.ch⟩
        rw [HTK.out, hl1, ← List.append_assoc, ← List.append_assoc]
        exact K3.out.wr
    · have hj : j = hs.length := by omega
      subst hj
      rw [List.take_length] at hwr
      go_wp2_with fail
      go_end0
      exact ⟨rfl, by rw [← E7.out]; exact hwr, HC1.out.tu hch⟩
end Go.Proofs.YtihokphamgkkcaaGreat
