/- The calls of layer 17's reader. -/
import Derived.Test.YtgdaaohlongmlaaGreatPt1
import Derived.Test.YtgdaaohlongmlaaGreatRmA
import Derived.Test.YtgdaaohlongmlaaGreatRmB
import Derived.Deep.RegionHeld3
namespace Go.Proofs.YtgdaaohlongmlaaGreat
open Go.RowKit
/-- Layer 17's reader: what it reads of, and its own fault. -/
def RR (w : World) (q pb f : Nat) : Prop := w.heap[q]? = some (.cells #[.pointer (some ⟨pb, 0, none⟩), .int .i64 f] 111 (0, 0))
theorem RR.c0 {w : World} {q pb f : Nat} (h : RR w q pb f) : w.cell? ⟨q, 0, none⟩ = some (.pointer (some ⟨pb, 0, none⟩)) := (cell_of h).trans rfl
theorem RR.c1 {w : World} {q pb f : Nat} (h : RR w q pb f) : w.cell? ⟨q, 1, none⟩ = some (.int .i64 f) := (cell_of h).trans rfl
theorem RR.lt {w : World} {q pb f : Nat} (h : RR w q pb f) : q < w.heap.size := lt_of_heap h
theorem RR.ch {S : Nat → Prop} {w w' : World} {q pb f : Nat} (h : RR w q pb f) (hc : Ch S w w') (hS : ¬ S q) : RR w' q pb f := (hc.block q h.lt hS).trans h
/-- The first thing that was wrong. -/
def fl (f e : Nat) : Nat := if f ≠ 0 then f else e
/-- A fault is kept unless something was wrong ahead of it. -/
def rf (b : Bool) (why f e : Nat) : Nat := if b = true ∧ fl f e = 0 then why else f
theorem fl_0 (e : Nat) : fl 0 e = e := rfl
theorem rf_no (why f e : Nat) : rf false why f e = f := by unfold rf; rw [if_neg (by simp)]
theorem fxle {n : Nat} {s : ByteArray} {k e x k' e' : Nat} (hk : k ≤ s.size) (h : fx n s k e = (x, k', e')) : k' ≤ s.size := by
  unfold fx at h
  split at h
  · injection h with _ h; injection h with h _; omega
  · split at h
    · injection h with _ h; injection h with h _; omega
    · injection h with _ h; injection h with h _; omega
theorem wrapY {n : Int} (h1 : -9223372036854775808 ≤ n) (h2 : n ≤ 9223372036854775807) : IntKind.i64.wrap n = n := by
  simp only [IntKind.wrap, IntKind.bits, IntKind.signed, Bool.true_and]; split <;> rename_i h <;> simp at h <;> omega
theorem fx_less (n : Nat) (s : ByteArray) (k e : Nat) : (fx n s k e).1 < 256 ^ n := by
  have hp : 0 < 256 ^ n := Nat.pow_pos (by omega)
  unfold fx
  split
  · exact hp
  · split
    · rename_i h; exact be_ext s k n h
    · exact hp
theorem fxlt {n : Nat} {s : ByteArray} {k e x k' e' : Nat} (h : fx n s k e = (x, k', e')) : x < 256 ^ n := by
  have := fx_less n s k e
  rw [h] at this
  exact this
/-- A reader of layer 17 in memory. -/
def RS (w : World) (q b : Nat) (s : ByteArray) (k e f : Nat) : Prop := RR w q b f ∧ Rd w b s k e ∧ b ≠ q
theorem RS.ch {S : Nat → Prop} {w w' : World} {q b : Nat} {s : ByteArray} {k e f : Nat} (h : RS w q b s k e f) (hc : Ch S w w') (h1 : ¬ S q) (h2 : ¬ S b) : RS w' q b s k e f := ⟨h.1.ch hc h1, h.2.1.ch hc h2, h.2.2⟩
theorem RS.below {w w' : World} {q b : Nat} {s : ByteArray} {k e f : Nat} (h : RS w q b s k e f) (hc : Below w.heap.size w w') : RS w' q b s k e f := h.ch (Ch.of_below (S := fun _ => False) hc) (fun h => h) (fun h => h)
theorem RS.ltq {w : World} {q b : Nat} {s : ByteArray} {k e f : Nat} (h : RS w q b s k e f) : q < w.heap.size := h.1.lt
theorem RS.ltb {w : World} {q b : Nat} {s : ByteArray} {k e f : Nat} (h : RS w q b s k e f) : b < w.heap.size := h.2.1.lt
/-- What a call of the reader answers and leaves. -/
def RN (q b : Nat) (s : ByteArray) (v : Value) (k' e' f' : Nat) (w : World) (r : Ending) (w' : World) : Prop := r = .returned v ∧ RS w' q b s k' e' f' ∧ Ch (fun i => i = b ∨ i = q) w w'
theorem rs_rd {w w' : World} {q b : Nat} {s : ByteArray} {k e f k' e' : Nat} (h : RS w q b s k e f) (hr : Rd w' b s k' e') (hc : Ch (fun i => i = b) w w') : RS w' q b s k' e' f ∧ Ch (fun i => i = b ∨ i = q) w w' :=
  ⟨⟨h.1.ch hc (fun e => h.2.2 e.symm), hr, h.2.2⟩, hc.mono (fun _ _ h => Or.inl h)⟩
set_option maxHeartbeats 1000000 in
theorem rfailed_any (q b f : Nat) (s : ByteArray) (k e : Nat) (w : World) (h : RS w q b s k e f) :
    Calls Tryz.prog 35 #[.pointer (some ⟨q, 0, none⟩)] w fun r w' => r = .returned (.int .i64 (fl f e)) ∧ w' = w := by
  have c0 := h.1.c0
  have c1 := h.1.c1
  by_cases hf : f = 0
  · subst hf
    rw [fl_0]
    have CE := hid (rerr_any b s k e w h.2.1)
    clear h
    go_enter Tryz.func35, Tryz.ntmps35
    go_wp2_with (go_at_call 80; refine CE.out.mono ?_; rintro e w' ⟨rfl, rfl⟩)
    go_ret
    exact ⟨rfl, rfl⟩
  · have e1 : fl f e = f := by unfold fl; rw [if_pos hf]
    rw [e1]
    have hne : ((f : Int) != 0) = true := by rw [bne_iff_ne]; omega
    clear e1 h hf
    go_enter Tryz.func35, Tryz.ntmps35
    go_wp2
    go_ret
    exact ⟨rfl, rfl⟩
/-- What a refusal leaves. -/
def Ref (q b : Nat) (s : ByteArray) (k e f' : Nat) (w : World) (r : Ending) (w' : World) : Prop := r = .returned (.tuple #[]) ∧ RS w' q b s k e f' ∧ Ch (fun i => i = b ∨ i = q) w w'
set_option maxHeartbeats 1000000 in
theorem rrefuse_any (q b f : Nat) (s : ByteArray) (k e why : Nat) (c : Bool) (w : World) (h : RS w q b s k e f) :
    Calls Tryz.prog 34 #[.pointer (some ⟨q, 0, none⟩), .bool c, .int .i64 why] w (Ref q b s k e (rf c why f e) w) := by
  have hfz := froz_of (i := 1) h.1
  have c1 := h.1.c1
  cases c with
  | false =>
    rw [rf_no]
    have H := hid h
    clear h
    go_enter Tryz.func34, Tryz.ntmps34
    go_wp2
    go_end0
    exact ⟨rfl, H.out, Ch.refl _ _⟩
  | true =>
    have CE := hid (rfailed_any q b f s k e w h)
    have H := hid h
    by_cases hz : fl f e = 0
    · have e1 : rf true why f e = why := by unfold rf; rw [if_pos ⟨rfl, hz⟩]
      rw [e1]
      rw [hz] at CE
      clear h e1 hz
      go_enter Tryz.func34, Tryz.ntmps34
      go_wp2_with (go_at_call 35; refine CE.out.mono ?_; rintro e w' ⟨rfl, rfl⟩)
      go_end0
      exact ⟨rfl, ⟨heap_set H.out.1, H.out.2.1.far _ H.out.2.2, H.out.2.2⟩, (Ch.refl _ _).setCell _ _ (fun _ => Or.inr rfl)⟩
    · have e1 : rf true why f e = f := by unfold rf; rw [if_neg (fun h => hz h.2)]
      rw [e1]
      have hne : (((fl f e : Nat) : Int) == 0) = false := by rw [beq_eq_false_iff_ne]; omega
      generalize fl f e = FE at *
      clear h e1 hz
      go_enter Tryz.func34, Tryz.ntmps34
      go_wp2_with (go_at_call 35; refine CE.out.mono ?_; rintro e w' ⟨rfl, rfl⟩)
      go_end0
      exact ⟨rfl, H.out, Ch.refl _ _⟩
theorem dq_bad {s : ByteArray} {k e : Nat} (h : e ≠ 0) : dq s k e = e := by unfold dq; rw [if_neg (by omega)]
set_option maxHeartbeats 1000000 in
theorem rdone17_any (q b f : Nat) (s : ByteArray) (k e : Nat) (w : World) (h : RS w q b s k e f) (hk : k ≤ s.size) (hs : s.size ≤ 9223372036854775807) :
    Calls Tryz.prog 36 #[.pointer (some ⟨q, 0, none⟩)] w fun r w' => r = .returned (.int .i64 (fl f (dq s k e))) ∧ ∃ n, w' = w.drewN n := by
  have c0 := h.1.c0
  have CF := hid (rfailed_any q b f s k e w h)
  have CD := hid (rdone_any b s k e w h.2.1 hk hs)
  clear h
  by_cases hz : fl f e = 0
  · have hf : f = 0 := by unfold fl at hz; split at hz <;> omega
    subst hf
    rw [fl_0] at hz ⊢
    subst hz
    rw [fl_0] at CF
    generalize dq s k 0 = D at *
    go_enter Tryz.func36, Tryz.ntmps36
    go_wp2_with (first
      | (go_at_call 35; refine CF.out.mono ?_; rintro e w' ⟨rfl, rfl⟩)
      | (go_at_call 81; refine CD.out.mono ?_; rintro e w' ⟨rfl, n1, rfl⟩))
    go_ret
    exact ⟨rfl, _, rfl⟩
  · have e1 : fl f (dq s k e) = fl f e := by
      unfold fl at hz ⊢
      split
      · rfl
      · rename_i h; rw [if_neg h] at hz; exact dq_bad hz
    rw [e1]
    have hne : (((fl f e : Nat) : Int) != 0) = true := by rw [bne_iff_ne]; omega
    generalize fl f e = FE at *
    clear e1 hz CD
    go_enter Tryz.func36, Tryz.ntmps36
    go_wp2_with (go_at_call 35; refine CF.out.mono ?_; rintro e w' ⟨rfl, rfl⟩)
    go_ret
    exact ⟨rfl, 0, rfl⟩
theorem rnew_any (s : ByteArray) (w : World) :
    Calls Tryz.prog 32 #[.string s] w fun e w' => e = .returned (.pointer (some ⟨w.heap.size + 1, 0, none⟩)) ∧ RS w' (w.heap.size + 1) w.heap.size s 0 0 0 ∧ Below w.heap.size w w' := by
  go_enter Tryz.func32, Tryz.ntmps32
  go_wp2_with (go_at_call 78; refine (newreader_any s _).mono ?_; rintro e w' ⟨rfl, rfl⟩)
  go_ret
  exact ⟨rfl, ⟨heap_new' _ _ _ (by simp), (show Rd _ _ _ _ _ from heap_alloc_at (heap_new _ _)), by omega⟩, ((Below.refl _ _).alloc (Nat.le_refl _) _).alloc (by simp) _⟩
set_option maxHeartbeats 1000000 in
theorem rkind_any (q b f : Nat) (s : ByteArray) (k e x k' e' : Nat) (w : World) (h : RS w q b s k e f) (hk : k ≤ s.size) (hs : s.size ≤ 9223372036854775807) (hx : fx 1 s k e = (x, k', e')) :
    Calls Tryz.prog 33 #[.pointer (some ⟨q, 0, none⟩)] w (RN q b s (.int .i64 x) k' e' f w) := by
  have c0 := h.1.c0
  have hlt := fxlt hx
  have C := hid (u8_any b s k e w h.2.1 hk hs)
  rw [hx] at C
  dsimp only at C
  have H := hid h
  clear h hx
  go_enter Tryz.func33, Tryz.ntmps33
  go_wp2_with (go_at_call 79; refine C.out.mono ?_; rintro e w' ⟨rfl, hr, hc⟩)
  go_ret
  exact ⟨rfl, rs_rd H.out hr hc⟩
set_option maxHeartbeats 1000000 in
theorem rerrno_any (q b f : Nat) (s : ByteArray) (k e x k' e' : Nat) (w : World) (h : RS w q b s k e f) (hk : k ≤ s.size) (hs : s.size ≤ 9223372036854775807) (hx : fx 4 s k e = (x, k', e')) :
    Calls Tryz.prog 42 #[.pointer (some ⟨q, 0, none⟩)] w (RN q b s (.int .i64 (wrap32 x)) k' e' f w) := by
  have c0 := h.1.c0
  have hlt := fxlt hx
  have hw : IntKind.i64.wrap (wrap32 (x : Int)) = wrap32 (x : Int) := wrapY (by unfold wrap32; omega) (by unfold wrap32; omega)
  have C := hid (i32_any b s k e w h.2.1 hk hs)
  rw [hx] at C
  dsimp only at C
  have H := hid h
  clear h hx
  go_enter Tryz.func42, Tryz.ntmps42
  go_wp2_with (go_at_call 86; refine C.out.mono ?_; rintro e w' ⟨rfl, hr, hc⟩)
  go_ret
  exact ⟨rfl, rs_rd H.out hr hc⟩
set_option maxHeartbeats 1000000 in
theorem rnumber_any (q b f : Nat) (s : ByteArray) (k e x k' e' : Nat) (w : World) (h : RS w q b s k e f) (hk : k ≤ s.size) (hs : s.size ≤ 9223372036854775807) (hx : fx 8 s k e = (x, k', e')) :
    Calls Tryz.prog 54 #[.pointer (some ⟨q, 0, none⟩)] w (RN q b s (.int .i64 (wrap64 x)) k' e' f w) := by
  have c0 := h.1.c0
  have hlt := fxlt hx
  have C := hid (i64_any b s k e w h.2.1 hk hs)
  rw [hx] at C
  dsimp only at C
  have H := hid h
  clear h hx
  go_enter Tryz.func54, Tryz.ntmps54
  go_wp2_with (go_at_call 93; refine C.out.mono ?_; rintro e w' ⟨rfl, hr, hc⟩)
  go_ret
  exact ⟨rfl, rs_rd H.out hr hc⟩
set_option maxHeartbeats 1000000 in
theorem rtruth_any (q b f : Nat) (s : ByteArray) (k e x k' e' : Nat) (w : World) (h : RS w q b s k e f) (hk : k ≤ s.size) (hs : s.size ≤ 9223372036854775807) (hx : fx 1 s k e = (x, k', e')) :
    Calls Tryz.prog 70 #[.pointer (some ⟨q, 0, none⟩)] w (RN q b s (.bool (decide (x = 1))) k' e' (rf (decide (1 < x)) 91 f e') w) := by
  have c0 := h.1.c0
  have hlt := fxlt hx
  have C := hid (u8_any b s k e w h.2.1 hk hs)
  rw [hx] at C
  dsimp only at C
  have H := hid h
  clear h hx
  have CR := hid (fun (c : Bool) (w1 : World) (h1 : RS w1 q b s k' e' f) => rrefuse_any q b f s k' e' 91 c w1 h1)
  by_cases h1 : 1 < x
  · have hx1 : ((x : Int) == 1) = false := by rw [beq_eq_false_iff_ne]; omega
    have hx2 : ¬ x = 1 := by omega
    have h1i : (1 : Int) < (x : Int) := by omega
    have h1d : decide ((1 : Int) < (x : Int)) = true := decide_eq_true h1i
    rw [decide_eq_false hx2, decide_eq_true h1]
    clear hx2
    have CT := hid (CR.out true)
    clear CR
    generalize rf true 91 f e' = F1 at *
    go_enter Tryz.func70, Tryz.ntmps70
    go_wp2_with fail
    refine C.out.mono ?_
    rintro e w1 ⟨rfl, hr, hc⟩
    obtain ⟨h2, hc2⟩ := rs_rd H.out hr hc
    clear hr hc
    go_wp2_with fail
    refine (CT.out w1 h2).mono ?_
    rintro e w2 ⟨rfl, h3, hc3⟩
    go_wp2_with fail
    go_ret
    exact ⟨rfl, h3, hc2.trans hc3⟩
  · have hx2 : decide (x = 1) = ((x : Int) == 1) := by
      by_cases h : x = 1
      · subst h; rfl
      · rw [decide_eq_false h]; symm; rw [beq_eq_false_iff_ne]; omega
    rw [hx2, decide_eq_false h1, rf_no]
    have h1i : ¬ (1 : Int) < (x : Int) := by omega
    have h1d : decide ((1 : Int) < (x : Int)) = false := decide_eq_false h1i
    clear hx2
    have CT := hid (fun w1 h1 => (CR.out false w1 h1))
    rw [rf_no] at CT
    clear CR
    go_enter Tryz.func70, Tryz.ntmps70
    go_wp2_with fail
    refine C.out.mono ?_
    rintro e w1 ⟨rfl, hr, hc⟩
    obtain ⟨h2, hc2⟩ := rs_rd H.out hr hc
    clear hr hc
    go_wp2_with fail
    refine (CT.out w1 h2).mono ?_
    rintro e w2 ⟨rfl, h3, hc3⟩
    go_wp2_with fail
    go_ret
    exact ⟨rfl, h3, hc2.trans hc3⟩
/-- What a text behind its length is read as, where nothing was wrong. -/
def dcut (M : Nat) (s : ByteArray) (n k : Nat) : Bool := decide (M < n) || decide (s.size - k < n)
set_option maxHeartbeats 1000000 in
theorem rdata_err (q b M : Nat) (s : ByteArray) (k e x k' e' : Nat) (w : World) (h : RS w q b s k e 0) (hk : k ≤ s.size) (hs : s.size ≤ 9223372036854775807) (hx : fx 4 s k e = (x, k', e')) (he : e' ≠ 0 ∨ dcut M s x k' = true) :
    Calls Tryz.prog 50 #[.pointer (some ⟨q, 0, none⟩), .int .u32 M] w (RN q b s (.string ⟨#[]⟩) k' e' (rf (dcut M s x k') 21 0 e') w) := by
  have c0 := h.1.c0
  have hlt := fxlt hx
  have hk' := fxle hk hx
  have C := hid (u32_any b s k e w h.2.1 hk hs)
  rw [hx] at C
  dsimp only at C
  have H := hid h
  have CL := hid (fun (w1 : World) (h1 : RS w1 q b s k' e' 0) => rleft_any b s k' e' w1 h1.2.1 hk' hs)
  have CR := hid (fun (w1 : World) (h1 : RS w1 q b s k' e' 0) => rrefuse_any q b 0 s k' e' 21 (dcut M s x k') w1 h1)
  have CF := hid (fun (w1 : World) (h1 : RS w1 q b s k' e' (rf (dcut M s x k') 21 0 e')) => rfailed_any q b _ s k' e' w1 h1)
  have hne : ((fl (rf (dcut M s x k') 21 0 e') e' : Nat) : Int) ≠ 0 := by
    rcases he with he | he
    · unfold fl; split
      · rename_i h1; intro h2; exact h1 (by omega)
      · intro h2; exact he (by omega)
    · rw [he]
      by_cases h0 : e' = 0
      · subst h0; decide
      · unfold rf fl; rw [if_neg (by simp [h0])]; simp [h0]
  have hneb : (((fl (rf (dcut M s x k') 21 0 e') e' : Nat) : Int) != 0) = true := by rw [bne_iff_ne]; exact hne
  obtain ⟨L, hL⟩ : ∃ L : Nat, (s.size : Int) - k' = L := ⟨s.size - k', by omega⟩
  have hLs : s.size - k' = L := by omega
  rw [hL] at CL
  have hwL : IntKind.u64.wrap (L : Int) = L := by rw [IntKind.wrap_u64]; omega
  have hwx : IntKind.u64.wrap (x : Int) = x := by rw [IntKind.wrap_u64]; omega
  by_cases h1 : M < x
  · have hd : dcut M s x k' = true := by unfold dcut; rw [decide_eq_true h1]; rfl
    rw [hd] at CR CF hneb ⊢
    generalize rf true 21 0 e' = F1 at *
    generalize fl F1 e' = FE at *
    clear h hx hd he hne hL hLs CL
    go_enter Tryz.func50, Tryz.ntmps50
    go_wp2_with fail
    refine C.out.mono ?_
    rintro e w1 ⟨rfl, hr, hc⟩
    obtain ⟨h2, hc2⟩ := rs_rd H.out hr hc
    clear hr hc
    have d0 := h2.1.c0
    go_wp2_with fail
    refine (CR.out w1 h2).mono ?_
    rintro e w2 ⟨rfl, h3, hc3⟩
    go_wp2_with fail
    refine (CF.out w2 h3).mono ?_
    rintro e w3 ⟨rfl, rfl⟩
    go_wp2_with fail
    go_ret
    exact ⟨rfl, h3, hc2.trans hc3⟩
  · have HE := hid he
    have hM1 : ¬ (M : Int) < (x : Int) := by omega
    have hcut : dcut M s x k' = decide ((L : Int) < (x : Int)) := by
      unfold dcut
      rw [decide_eq_false h1, hLs, Bool.false_or]
      by_cases h2 : L < x
      · rw [decide_eq_true h2]; symm; exact decide_eq_true (by omega)
      · rw [decide_eq_false h2]; symm; exact decide_eq_false (by omega)
    rw [hcut] at CR CF hneb ⊢
    by_cases h2 : L < x
    · have h2i : decide ((L : Int) < (x : Int)) = true := decide_eq_true (by omega)
      rw [h2i] at CR CF hneb ⊢
      generalize rf true 21 0 e' = F1 at *
      generalize fl F1 e' = FE at *
      clear h hx he hne hL hLs hcut h2i HE
      go_enter Tryz.func50, Tryz.ntmps50
      go_wp2_with fail
      refine C.out.mono ?_
      rintro e w1 ⟨rfl, hr, hc⟩
      obtain ⟨h2, hc2⟩ := rs_rd H.out hr hc
      clear hr hc
      have d0 := h2.1.c0
      go_wp2_with fail
      refine (CL.out w1 h2).mono ?_
      rintro e w1' ⟨rfl, n1, rfl⟩
      go_wp2_with fail
      refine (CR.out _ (show RS (w1.drewN n1) q b s k' e' 0 from h2)).mono ?_
      rintro e w2 ⟨rfl, h3, hc3⟩
      go_wp2_with fail
      refine (CF.out w2 h3).mono ?_
      rintro e w3 ⟨rfl, rfl⟩
      go_wp2_with fail
      go_ret
      exact ⟨rfl, h3, (hc2.drewN n1).trans hc3⟩
    · have h2i : decide ((L : Int) < (x : Int)) = false := decide_eq_false (by omega)
      rw [h2i] at CR CF hneb ⊢
      generalize rf false 21 0 e' = F1 at *
      generalize fl F1 e' = FE at *
      clear h hx he hne hL hLs hcut h2i HE
      go_enter Tryz.func50, Tryz.ntmps50
      go_wp2_with fail
      refine C.out.mono ?_
      rintro e w1 ⟨rfl, hr, hc⟩
      obtain ⟨h2, hc2⟩ := rs_rd H.out hr hc
      clear hr hc
      have d0 := h2.1.c0
      go_wp2_with fail
      refine (CL.out w1 h2).mono ?_
      rintro e w1' ⟨rfl, n1, rfl⟩
      go_wp2_with fail
      refine (CR.out _ (show RS (w1.drewN n1) q b s k' e' 0 from h2)).mono ?_
      rintro e w2 ⟨rfl, h3, hc3⟩
      go_wp2_with fail
      refine (CF.out w2 h3).mono ?_
      rintro e w3 ⟨rfl, rfl⟩
      go_wp2_with fail
      go_ret
      exact ⟨rfl, h3, (hc2.drewN n1).trans hc3⟩
set_option maxHeartbeats 1000000 in
theorem rdata_ok (q b M : Nat) (s : ByteArray) (k x k' : Nat) (w : World) (h : RS w q b s k 0 0) (hk : k ≤ s.size) (hs : s.size ≤ 9223372036854775807) (hx : fx 4 s k 0 = (x, k', 0)) (hM1 : x ≤ M) (hL1 : k' + x ≤ s.size) (hM : M ≤ 1073741824) :
    Calls Tryz.prog 50 #[.pointer (some ⟨q, 0, none⟩), .int .u32 M] w (RN q b s (.string (s.extract k' (k' + x))) (k' + x) 0 0 w) := by
  have c0 := h.1.c0
  have hlt := fxlt hx
  have hk' := fxle hk hx
  have C := hid (u32_any b s k 0 w h.2.1 hk hs)
  rw [hx] at C
  dsimp only at C
  have H := hid h
  have CL := hid (fun (w1 : World) (h1 : RS w1 q b s k' 0 0) => rleft_any b s k' 0 w1 h1.2.1 hk' hs)
  have CR := hid (fun (w1 : World) (h1 : RS w1 q b s k' 0 0) => rrefuse_any q b 0 s k' 0 21 false w1 h1)
  rw [rf_no] at CR
  have CF := hid (fun (w1 : World) (h1 : RS w1 q b s k' 0 0) => rfailed_any q b 0 s k' 0 w1 h1)
  rw [fl_0] at CF
  have CW := hid (fun (w1 : World) (h1 : RS w1 q b s k' 0 0) => rraw_any b s k' 0 (x : Int) w1 h1.2.1 hk' hs (by omega) (by omega))
  rw [rq_ok hL1] at CW
  dsimp only at CW
  obtain ⟨L, hL⟩ : ∃ L : Nat, (s.size : Int) - k' = L := ⟨s.size - k', by omega⟩
  rw [hL] at CL
  have hwL : IntKind.u64.wrap (L : Int) = L := by rw [IntKind.wrap_u64]; omega
  have hwx : IntKind.u64.wrap (x : Int) = x := by rw [IntKind.wrap_u64]; omega
  have hwi : IntKind.i64.wrap (x : Int) = x := wrapY (by omega) (by omega)
  have hm1 : ¬ (M : Int) < (x : Int) := by omega
  have hl1 : ¬ L < x := by omega
  have hm0 : ¬ M < x := by omega
  clear h hx hL hL1 hM1
  generalize s.extract k' (k' + x) = D at *
  go_enter Tryz.func50, Tryz.ntmps50
  go_wp2_with fail
  refine C.out.mono ?_
  rintro e w1 ⟨rfl, hr, hc⟩
  obtain ⟨h2, hc2⟩ := rs_rd H.out hr hc
  clear hr hc
  have d0 := h2.1.c0
  go_wp2_with fail
  refine (CL.out w1 h2).mono ?_
  rintro e w1' ⟨rfl, n1, rfl⟩
  go_wp2_with fail
  refine (CR.out _ (show RS (w1.drewN n1) q b s k' 0 0 from h2)).mono ?_
  rintro e w2 ⟨rfl, h3, hc3⟩
  go_wp2_with fail
  refine (CF.out w2 h3).mono ?_
  rintro e w3 ⟨rfl, rfl⟩
  have d3 := h3.1.c0
  go_wp2_with fail
  refine (CW.out _ h3).mono ?_
  rintro e w4 ⟨rfl, hr, hc⟩
  obtain ⟨h4, hc4⟩ := rs_rd h3 hr hc
  go_wp2_with fail
  go_ret
  exact ⟨rfl, h4, ((hc2.drewN n1).trans hc3).trans hc4⟩
end Go.Proofs.YtgdaaohlongmlaaGreat
