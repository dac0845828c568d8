import Derived.Test.YtlbkkeoffeohnabOsz
/- How many bytes a record's own form has, as the program counts them; nothing that was there before is turned. -/
namespace Go.Proofs.Ytlbkkeoffeohnab
open Go.RowKit
def df : Hdr := (⟨#[]⟩, false, ⟨#[]⟩)
/-- Headers where they lie. -/
def Hds (w : World) (a : Option Addr) (hs : List Hdr) : Prop := hs = [] ∨ ∃ b off, a = some ⟨b, off, none⟩ ∧ b < w.heap.size ∧ ∀ j, j < hs.length → w.cell? ⟨b, off + j * 3, none⟩ = some (.string (hs.getD j df).1) ∧ w.cell? ⟨b, off + j * 3 + 1, none⟩ = some (.bool (hs.getD j df).2.1) ∧ w.cell? ⟨b, off + j * 3 + 2, none⟩ = some (.string (hs.getD j df).2.2)
theorem Hds.belowB {w w' : World} {B : Nat} {a : Option Addr} {hs : List Hdr} (h : Hds w a hs) (hB : w.heap.size ≤ B) (hb : Below B w w') : Hds w' a hs := by
  rcases h with h | ⟨b, off, ha, hlt, hc⟩
  · exact Or.inl h
  · refine Or.inr ⟨b, off, ha, Nat.lt_of_lt_of_le hlt hb.size, fun j hj => ?_⟩
    obtain ⟨h0, h1, h2⟩ := hc j hj
    exact ⟨(hb.cell (p := ⟨b, _, none⟩) (by show b < B; omega)).trans h0, (hb.cell (p := ⟨b, _, none⟩) (by show b < B; omega)).trans h1, (hb.cell (p := ⟨b, _, none⟩) (by show b < B; omega)).trans h2⟩
theorem Hds.below {w w' : World} {a : Option Addr} {hs : List Hdr} (h : Hds w a hs) (hb : Below w.heap.size w w') : Hds w' a hs := h.belowB (Nat.le_refl _) hb
/-- A record's value. -/
def recV (r : Rec) (a : Option Addr) (cap : Nat) : Value := .agg #[.int .i64 r.t, .bool r.kh, .string r.kd, .bool r.vh, .string r.vd, .slice a r.hs.length cap]
theorem hl_snoc (l : List Hdr) (x : Hdr) : hl (l ++ [x]) = hl l ++ hl1 x := by simp [hl]
theorem hl_take (hs : List Hdr) (j : Nat) (h : j < hs.length) : hl (hs.take (j + 1)) = hl (hs.take j) ++ hl1 (hs.getD j df) := by
  have e : hs.take (j + 1) = hs.take j ++ [hs.getD j df] := by
    rw [List.take_succ_eq_append_getElem h, List.getD_eq_getElem?_getD, List.getElem?_eq_getElem h]; rfl
  rw [e, hl_snoc]
theorem hl_app (l m : List Hdr) : hl (l ++ m) = hl l ++ hl m := by simp [hl]
theorem hl_take_le (hs : List Hdr) (j : Nat) : (hl (hs.take j)).length ≤ (hl hs).length := by
  have e := hl_app (hs.take j) (hs.drop j)
  rw [List.take_append_drop] at e
  rw [e, List.length_append]
  omega
theorem bel_next {B : Nat} {w0 w w' : World} (h : Below B w0 w) (hB : B ≤ w0.heap.size) (h' : Below w.heap.size w w') : Below B w0 w' :=
  ⟨h'.os.trans h.os, h'.tape.trans h.tape, h'.output.trans h.output, Nat.le_trans h.size h'.size, fun i hi => (h'.block i (by have := h.size; omega)).trans (h.block i hi)⟩
theorem optsizeB (h : Bool) (d : ByteArray) (B : Nat) (w0 w : World) (hd : d.size ≤ 1000000000000000000) (hB : B ≤ w0.heap.size) (hb : Below B w0 w) :
    Calls Try.prog 41 #[.agg #[.bool h, .string d]] w fun e w' => e = .returned (.int .i64 (ol h d).length) ∧ Below B w0 w' :=
  (optsize_any h d w hd).mono fun _ _ h => ⟨h.1, bel_next hb hB h.2⟩
theorem textsizeB (d : ByteArray) (B : Nat) (w0 w : World) (hd : d.size ≤ 1000000000000000000) (hB : B ≤ w0.heap.size) (hb : Below B w0 w) :
    Calls Try.prog 42 #[.string d] w fun e w' => e = .returned (.int .i64 (tx d).length) ∧ Below B w0 w' :=
  (textsize_any d w hd).mono fun _ _ h => ⟨h.1, bel_next hb hB h.2⟩
/-- A block of cells that stays. -/
theorem held_at {w0 x : World} {B P i : Nat} {c : Array Value} {T : TypeId} {v : Value} (h : w0.heap[P]? = some (.cells c T (0, 0))) (hP : P < B) (hv : c[i]? = some v) (hb : Below B w0 x) : x.cell? ⟨P, i, none⟩ = some v :=
  (cell_of ((hb.block P hP).trans h)).trans hv
theorem held5 {w0 x : World} {B P : Nat} {T : TypeId} {v0 v1 v2 v3 v4 v5 : Value} (h : w0.heap[P]? = some (.cells #[v0, v1, v2, v3, v4, v5] T (0, 0))) (hP : P < B) (hb : Below B w0 x) :
    (x.cell? ⟨P, 1, none⟩ = some v1 ∧ x.cell? ⟨P, 2, none⟩ = some v2 ∧ x.cell? ⟨P, 3, none⟩ = some v3 ∧ x.cell? ⟨P, 4, none⟩ = some v4 ∧ x.cell? ⟨P, 5, none⟩ = some v5) ∧ Below B w0 x :=
  ⟨⟨held_at h hP rfl hb, held_at h hP rfl hb, held_at h hP rfl hb, held_at h hP rfl hb, held_at h hP rfl hb⟩, hb⟩
theorem held3 {w0 x : World} {B P : Nat} {T : TypeId} {v0 v1 v2 : Value} (h : w0.heap[P]? = some (.cells #[v0, v1, v2] T (0, 0))) (hP : P < B) (hb : Below B w0 x) :
    (x.cell? ⟨P, 0, none⟩ = some v0 ∧ x.cell? ⟨P, 1, none⟩ = some v1 ∧ x.cell? ⟨P, 2, none⟩ = some v2) ∧ Below B w0 x :=
  ⟨⟨held_at h hP rfl hb, held_at h hP rfl hb, held_at h hP rfl hb⟩, hb⟩
theorem tx_ge (d : ByteArray) : 1 ≤ (tx d).length ∧ d.size ≤ (tx d).length := by
  unfold tx
  rw [List.length_append, bl_len]; have := M.form_pos d.size; exact ⟨by omega, by omega⟩
/-- Texts that can be counted, those of nulls too. -/
def Small (hs : List Hdr) : Prop := ∀ x ∈ hs, x.2.2.size ≤ 1000000000000000000
set_option maxHeartbeats 1000000 in
set_option maxRecDepth 20000 in
theorem ownsize_any (r : Rec) (a : Option Addr) (cap : Nat) (d : Int) (n : Nat) (w : World) (V : Hds w a r.hs) (hd : I64 d) (hn : n ≤ 9223372036854775807) (hL : (own d n r).length ≤ 1000000000000000000) (hz : r.hs.length ≤ 9223372036854775807) (hkz : r.kd.size ≤ 1000000000000000000) (hvz : r.vd.size ≤ 1000000000000000000) (hsm : Small r.hs) :
    Calls Try.prog 38 #[recV r a cap, .int .i64 d, .int .i64 n] w fun e w' => e = .returned (.int .i64 (own d n r).length) ∧ Below w.heap.size w w' := by
  obtain ⟨t, kh, kd, vh, vd, hs⟩ := r
  simp only [recV, own, List.length_append] at *
  have hkz' := hkz
  have hvz' := hvz
  have hf1 := M.form_le (M.zz d).toNat
  have hf2 := M.form_le n
  have hf3 := M.form_le hs.length
  have hL' : (hl hs).length ≤ 1000000000000000000 := by omega
  have hK' : (ol kh kd).length ≤ 1000000000000000000 := by omega
  have hV' : (ol vh vd).length ≤ 1000000000000000000 := by omega
  have hsz : M.size n = (M.form n).length := rfl
  have hsz2 : M.size hs.length = (M.form hs.length).length := rfl
  have HSM := hid hsm
  have HV := hid V
  clear hL V hsm
  go_enter Try.func38, Try.ntmps38
  go_wp2_with (first
    | (go_at_call 40; refine (ssize64_any d _ hd.1 hd.2).mono ?_; rintro e w' ⟨rfl, rfl⟩)
    | (go_at_call 39; refine (size_any n _ (by omega) (by omega)).mono ?_; rintro e w' ⟨rfl, rfl⟩))
  have h1 : (w.alloc (.cells #[.int .i64 t, .bool kh, .string kd, .bool vh, .string vd, .slice a hs.length cap] 40)).heap[w.heap.size]? = some (.cells #[.int .i64 t, .bool kh, .string kd, .bool vh, .string vd, .slice a hs.length cap] 40 (0, 0)) := heap_new _ _
  have hb1 : Below w.heap.size w (w.alloc (.cells #[.int .i64 t, .bool kh, .string kd, .bool vh, .string vd, .slice a hs.length cap] 40)) := (Below.refl _ w).alloc (Nat.le_refl _) _
  have hs1 : (w.alloc (.cells #[.int .i64 t, .bool kh, .string kd, .bool vh, .string vd, .slice a hs.length cap] 40)).heap.size = w.heap.size + 1 := by simp
  generalize hW : w.alloc (.cells #[.int .i64 t, .bool kh, .string kd, .bool vh, .string vd, .slice a hs.length cap] 40) = W at *
  have hB : w.heap.size + 1 ≤ W.heap.size := by omega
  have HB1 := hid hb1
  have h0 : Below (w.heap.size + 1) W W := Below.refl _ _
  have H1 := hid h1
  clear h1 hb1 hW
  have x1 : IntKind.u64.wrap (hs.length : Int) = hs.length := by rw [IntKind.wrap_u64]; omega
  have x2 : IntKind.i64.wrap (((ol kh kd).length : Int) + ((ol vh vd).length : Int)) = ((ol kh kd).length : Int) + ((ol vh vd).length : Int) := wrap_in (by omega) (by omega)
  have x3 : IntKind.i64.wrap (((ol kh kd).length : Int) + ((ol vh vd).length : Int) + ((M.form hs.length).length : Int)) = ((ol kh kd).length : Int) + ((ol vh vd).length : Int) + ((M.form hs.length).length : Int) := wrap_in (by omega) (by omega)
  have x4 : IntKind.i64.wrap (1 + ((M.form (M.zz d).toNat).length : Int) + ((M.form n).length : Int) + (((ol kh kd).length : Int) + ((ol vh vd).length : Int) + ((M.form hs.length).length : Int))) = 1 + ((M.form (M.zz d).toNat).length : Int) + ((M.form n).length : Int) + (((ol kh kd).length : Int) + ((ol vh vd).length : Int) + ((M.form hs.length).length : Int)) := wrap_in (by omega) (by omega)
  go_region_held3 (fun x => (x.cell? ⟨w.heap.size, 1, none⟩ = some (.bool kh) ∧ x.cell? ⟨w.heap.size, 2, none⟩ = some (.string kd) ∧ x.cell? ⟨w.heap.size, 3, none⟩ = some (.bool vh) ∧ x.cell? ⟨w.heap.size, 4, none⟩ = some (.string vd) ∧ x.cell? ⟨w.heap.size, 5, none⟩ = some (.slice a hs.length cap)) ∧ Below (w.heap.size + 1) W x) (first | exact held5 H1.out (Nat.lt_succ_self _) (by assumption) | exact held5 H1.out (Nat.lt_succ_self _) (Below.drew (by assumption))) (first | (go_at_call 41; refine (optsizeB _ _ (w.heap.size + 1) W _ ?_ hB ?_).mono ?_; assumption; (first | assumption | exact Below.drew (by assumption)); rintro e w' ⟨rfl, hbel⟩) | (go_at_call 39; refine (size_any hs.length _ (by omega) (by omega)).mono ?_; rintro e w' ⟨rfl, rfl⟩))
  clear x1 x2 x3 x4
  rename_i hH
  obtain ⟨⟨_, _, _, _, c5⟩, hbx⟩ := hH
  obtain ⟨Z, hZ⟩ : ∃ Z : Nat, 1 + ((M.form (M.zz d).toNat).length : Int) + ((M.form n).length : Int) + (((ol kh kd).length : Int) + ((ol vh vd).length : Int) + ((M.form hs.length).length : Int)) = (Z : Int) := ⟨1 + (M.form (M.zz d).toNat).length + (M.form n).length + ((ol kh kd).length + (ol vh vd).length + (M.form hs.length).length), by omega⟩
  have hZ' : Z ≤ 3000000000000000000 := by omega
  rw [hZ]
  have HZ := hid hZ
  clear hZ hbel
  go_wp2_with fail
  go_loopg [7, 35] hs.length (fun k z i wr => ∃ j : Nat, j + k = hs.length ∧ i = .int .i64 j ∧ z = .int .i64 ((Z + (hl (hs.take j)).length : Nat) : Int) ∧ Below (w.heap.size + 1) W wr)
  case atStart => exact ⟨0, by omega, rfl, by simp [hl], hbx⟩
  case round =>
    obtain ⟨j, hk, rfl, rfl, hb⟩ := hrel
    have htl := hl_take_le hs j
    by_cases hlt : j < hs.length
    · obtain ⟨k, rfl⟩ : ∃ k, gk = k + 1 := ⟨gk - 1, by omega⟩
      have HTK := hid (hl_take hs j hlt)
      have htl2 := hl_take_le hs (j + 1)
      have hxm : hs.getD j df ∈ hs := by rw [List.getD_eq_getElem?_getD, List.getElem?_eq_getElem hlt]; exact List.getElem_mem hlt
      have hx2 := HSM.out _ hxm
      rcases HV.out with h | ⟨b, off, rfl, hbl, hc⟩
      · rw [h] at hlt; simp at hlt
      obtain ⟨q0, q1, q2⟩ := hc j hlt
      rw [HTK.out, List.length_append, hl1, List.length_append] at htl2
      have hcw : ∀ o, wr.cell? ⟨b, o, none⟩ = w.cell? ⟨b, o, none⟩ := fun o => (hb.cell (p := ⟨b, o, none⟩) (by show b < _; omega)).trans (HB1.out.cell (p := ⟨b, o, none⟩) hbl)
      generalize hs.getD j df = x at *
      obtain ⟨xk, xh, xd⟩ := x
      simp only at q0 q1 q2 hx2 htl2
      have k0 := (hcw (off + j * 3)).trans q0
      have k1 := (hcw (off + j * 3 + 1)).trans q1
      have k2 := (hcw (off + j * 3 + 2)).trans q2
      have b1 : (0 : Int) ≤ (j : Int) := by omega
      have b2 : (j : Int) < hs.length := by omega
      have hbw := hb.size
      have htx := (tx_ge xk).2
      have htz : xk.size ≤ 1000000000000000000 := by omega
      generalize hT : (hl (hs.take j)).length = TL at *
      generalize htxl : (tx xk).length = TX at *
      generalize holl : (ol xh xd).length = OX at *
      clear hcw q0 q1 q2 hc
      go_wp2_with fail
      have g2 : (wr.alloc (.cells #[.string xk, .bool xh, .string xd] 72)).heap[wr.heap.size]? = some (.cells #[.string xk, .bool xh, .string xd] 72 (0, 0)) := heap_new _ _
      have hs2 : (wr.alloc (.cells #[.string xk, .bool xh, .string xd] 72)).heap.size = wr.heap.size + 1 := by simp
      have hb2 : Below (w.heap.size + 1) W (wr.alloc (.cells #[.string xk, .bool xh, .string xd] 72)) := hb.alloc (by omega) _
      generalize wr.alloc (.cells #[.string xk, .bool xh, .string xd] 72) = W2 at *
      have hB2 : wr.heap.size + 1 ≤ W2.heap.size := by omega
      have h02 : Below (wr.heap.size + 1) W2 W2 := Below.refl _ _
      have G2 := hid g2
      have HB2 := hid hb2
      clear g2 hb2
      have y1 : IntKind.i64.wrap ((TX : Int) + (OX : Int)) = (TX : Int) + (OX : Int) := wrap_in (by omega) (by omega)
      have y2 : IntKind.i64.wrap ((Z : Int) + (TL : Int) + ((TX : Int) + (OX : Int))) = (Z : Int) + (TL : Int) + ((TX : Int) + (OX : Int)) := wrap_in (by omega) (by omega)
      have C1 := hid (fun w hb => textsizeB xk (wr.heap.size + 1) W2 w htz hB2 hb)
      have C2 := hid (fun w hb => optsizeB xh xd (wr.heap.size + 1) W2 w hx2 hB2 hb)
      rw [htxl] at C1
      rw [holl] at C2
      go_region_held3 (fun x => (x.cell? ⟨wr.heap.size, 0, none⟩ = some (.string xk) ∧ x.cell? ⟨wr.heap.size, 1, none⟩ = some (.bool xh) ∧ x.cell? ⟨wr.heap.size, 2, none⟩ = some (.string xd)) ∧ Below (wr.heap.size + 1) W2 x) (first | exact held3 G2.out (Nat.lt_succ_self _) (by assumption) | exact held3 G2.out (Nat.lt_succ_self _) (Below.drew (by assumption))) (first | (go_at_call 42; refine (C1.out _ ?_).mono ?_; (first | assumption | exact Below.drew (by assumption)); rintro e w' ⟨rfl, hbel⟩) | (go_at_call 41; refine (C2.out _ ?_).mono ?_; (first | assumption | exact Below.drew (by assumption)); rintro e w' ⟨rfl, hbel⟩))
      all_goals
        clear y1 y2
        rename_i hH2
        go_wp2_with fail
        go_roundg k
        case measure => omega
        case rel =>
          refine ⟨j + 1, by omega, by go_num, ?_, HB2.out.trans (hH2.2.mono (by omega))⟩
          refine congrArg (Value.int .i64) ?_
          rw [HTK.out, List.length_append, hl1, List.length_append, hT, htxl, holl]
          omega
    · have hj : j = hs.length := by omega
      subst hj
      rw [List.take_length]
      have HZ' := HZ
      have hbf := HB1.out.trans (hb.mono (Nat.le_succ _))
      go_wp2_with fail
      go_ret
      exact ⟨ret_int (by have := HZ'.out; omega), hbf⟩
end Go.Proofs.Ytlbkkeoffeohnab
