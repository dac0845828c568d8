/- Texts of the proof, put together: Zw1, Zr1, Zr2, Zra, Zr3, Zr4, Zr5, Zrb. -/
import Derived.Test.YtgdaaohlongmlaaGreatMPS
import Derived.Test.YtgdaaohlongmlaaGreatMWX
import Derived.Test.YtgdaaohlongmlaaGreatRX3
namespace Go.Proofs.YtgdaaohlongmlaaGreat
open Go.RowKit
theorem norm_ws (l m : List Nat) : bs l ++ bs m = bs (l ++ m) := (bs_app l m).symm
theorem zu8_any (p : Nat) (L : List Nat) (V : Nat) (w : World) (h : WX w p (bs L)) (hV : V < 256) (hl : L.length ≤ 2000000000) :
    Calls Tryz.prog 24 #[.pointer (some ⟨p, 0, none⟩), .int .u8 V] w (LaysX p (bs (L ++ nb 1 V)) w) := by
  have C := xwu8_any p (bs L) V w h hV (by rw [size_bs]; omega)
  rw [norm_ws, show [V] = nb 1 V by simp [nb]; omega] at C
  exact C
theorem zu32_any (p : Nat) (L : List Nat) (V : Nat) (w : World) (h : WX w p (bs L)) (hV : V < 4294967296) (hl : L.length ≤ 2000000000) :
    Calls Tryz.prog 62 #[.pointer (some ⟨p, 0, none⟩), .int .u32 V] w (LaysX p (bs (L ++ nb 4 V)) w) := by
  have C := xwu32_any p (bs L) V w h hV (by rw [size_bs]; omega)
  rw [norm_ws] at C
  exact C
theorem zi32_any (p : Nat) (L : List Nat) (v : Int) (w : World) (h : WX w p (bs L)) (h0 : 0 ≤ v) (h1 : v ≤ 2147483647) (hl : L.length ≤ 2000000000) :
    Calls Tryz.prog 31 #[.pointer (some ⟨p, 0, none⟩), .int .i32 v] w (LaysX p (bs (L ++ nb 4 v.toNat)) w) := by
  have C := xwi32_any p (bs L) v w h (by rw [size_bs]; omega)
  rw [norm_ws, show v % 4294967296 = v by omega] at C
  exact C
theorem zi64_any (p : Nat) (L : List Nat) (v : Int) (w : World) (h : WX w p (bs L)) (hl : L.length ≤ 2000000000) :
    Calls Tryz.prog 26 #[.pointer (some ⟨p, 0, none⟩), .int .i64 v] w (LaysX p (bs (L ++ nb 8 (un v))) w) := by
  have C := xwi64_any p (bs L) v w h (by rw [size_bs]; omega)
  rw [norm_ws] at C
  exact C
theorem zraw_any (p : Nat) (L : List Nat) (t : ByteArray) (w : World) (h : WX w p (bs L)) (hl : L.length + t.size ≤ 9223372036854775807) :
    Calls Tryz.prog 63 #[.pointer (some ⟨p, 0, none⟩), .string t] w (LaysX p (bs (L ++ bl t)) w) := by
  have C := xwraw_any p (bs L) t w h (by rw [size_bs]; exact hl)
  rw [show bs L ++ t = bs (L ++ bl t) by rw [bs_app, bs_bl]] at C
  exact C
theorem LaysX.tr {p : Nat} {a b c : World} (h : Ch (fun i => i = p) a b) (k : Ch (fun i => i = p) b c) : Ch (fun i => i = p) a c := h.trans k
set_option maxHeartbeats 1000000 in
theorem zdata_any (p : Nat) (L : List Nat) (t : ByteArray) (w : World) (h : WX w p (bs L)) (ht : t.size ≤ 1073741824) (hl : L.length ≤ 1000) :
    Calls Tryz.prog 25 #[.pointer (some ⟨p, 0, none⟩), .string t] w (LaysX p (bs (L ++ (nb 4 t.size ++ bl t))) w) := by
  have hw : IntKind.u32.wrap (t.size : Int) = t.size := by rw [IntKind.wrap_u32]; omega
  have C := hid (zu32_any p L t.size w h (by omega) (by omega))
  have C2 := hid (fun w1 h1 => zraw_any p (L ++ nb 4 t.size) t w1 h1 (by rw [List.length_append, nb_len]; omega))
  clear h
  go_enter Tryz.func25, Tryz.ntmps25
  go_wp2_with fail
  refine C.out.mono ?_
  rintro e w1 ⟨rfl, h1, hc1⟩
  go_wp2_with fail
  refine (C2.out w1 h1).mono ?_
  rintro e w2 ⟨rfl, h2, hc2⟩
  go_wp2_with fail
  go_end0
  rw [List.append_assoc] at h2
  exact ⟨rfl, h2, hc1.trans hc2⟩
theorem xknown_yes (v : Int) (w : World) (h : 1 ≤ v ∧ v ≤ 6) :
    Calls Tryz.prog 22 #[.int .i64 v] w fun e w' => e = .returned (.bool true) ∧ w' = w := by
  obtain ⟨h1, h2⟩ := h
  go_enter Tryz.func22, Tryz.ntmps22
  go_wp2
  go_ret
  exact ⟨rfl, rfl⟩
theorem xknown_no (v : Int) (w : World) (h : ¬ (1 ≤ v ∧ v ≤ 6)) :
    Calls Tryz.prog 22 #[.int .i64 v] w fun e w' => e = .returned (.bool false) ∧ w' = w := by
  by_cases h1 : 1 ≤ v
  · have h2 : ¬ v ≤ 6 := fun h3 => h ⟨h1, h3⟩
    go_enter Tryz.func22, Tryz.ntmps22
    go_wp2
    go_ret
    exact ⟨rfl, rfl⟩
  · go_enter Tryz.func22, Tryz.ntmps22
    go_wp2
    go_ret
    exact ⟨rfl, rfl⟩
end Go.Proofs.YtgdaaohlongmlaaGreat
namespace Go.Proofs.YtgdaaohlongmlaaGreat
open Go.RowKit
theorem rx_set {w : World} {b G i : Nat} {s : ByteArray} {k e : Nat} {v : Value} (h : RX w b s k e) (hG : G ≠ b) : RX (w.setCell ⟨G, i, none⟩ v) b s k e := h.far _ (fun e => hG e.symm)
theorem ch2 {b G : Nat} {w w' : World} (h : Ch (fun i => i = b) w w') : Ch (fun i => i = b ∨ i = G) w w' := h.mono (fun _ _ h => Or.inl h)
set_option maxHeartbeats 1000000 in
theorem xtaken_short (b M : Nat) (s : ByteArray) (k e x k' e' : Nat) (w : World) (h : RX w b s k e) (hk : k ≤ s.size) (hs : s.size ≤ 9223372036854775807) (hx : fx 4 s k e = (x, k', e')) (he : e' ≠ 0) :
    Calls Tryz.prog 39 #[.pointer (some ⟨b, 0, none⟩), .int .i64 M] w (AnsX b s (.string ⟨#[]⟩) k' e' w) := by
  have C := hid (xu32_any b s k e w h hk hs)
  rw [hx] at C
  dsimp only at C
  have hne : ((e' : Int) != 0) = true := by rw [bne_iff_ne]; omega
  clear he h hx
  go_enter Tryz.func39, Tryz.ntmps39
  go_wp2_with fail
  refine C.out.mono ?_
  rintro r w1 ⟨rfl, h1, hc1⟩
  go_wp2_with fail
  go_ret2
  exact ⟨rfl, h1, hc1⟩
set_option maxHeartbeats 1000000 in
theorem xtaken_cut (b M : Nat) (s : ByteArray) (k x k' : Nat) (w : World) (h : RX w b s k 0) (hk : k ≤ s.size) (hs : s.size ≤ 9223372036854775807) (hx : fx 4 s k 0 = (x, k', 0)) (hc : dcut M s x k' = true) (hM : M ≤ 1073741824) :
    Calls Tryz.prog 39 #[.pointer (some ⟨b, 0, none⟩), .int .i64 M] w fun r w' => r = .returned (.tuple #[.string ⟨#[]⟩, .int .i64 21]) ∧ RX w' b s k' 0 ∧ Ch (fun i => i = b) w w' := by
  have hk' := fxle hk hx
  have hlt := fxlt hx
  have C := hid (xu32_any b s k 0 w h hk hs)
  rw [hx] at C
  dsimp only at C
  have CL := hid (fun (w1 : World) (h1 : RX w1 b s k' 0) => xleft_any b s k' 0 w1 h1 hk' hs)
  obtain ⟨L, hL⟩ : ∃ L : Nat, (s.size : Int) - k' = L := ⟨s.size - k', by omega⟩
  have hLs : s.size - k' = L := by omega
  rw [hL] at CL
  have hwL : IntKind.u64.wrap (L : Int) = L := by rw [IntKind.wrap_u64]; omega
  have hwx : IntKind.u64.wrap (x : Int) = x := by rw [IntKind.wrap_u64]; omega
  have hwM : IntKind.u64.wrap (M : Int) = M := by rw [IntKind.wrap_u64]; omega
  by_cases h1 : M < x
  · clear h hx hc hL hLs CL
    go_enter Tryz.func39, Tryz.ntmps39
    go_wp2_with fail
    refine C.out.mono ?_
    rintro r w1 ⟨rfl, h2, hc2⟩
    go_wp2_with fail
    go_ret2
    exact ⟨rfl, h2, hc2⟩
  · have h2 : L < x := by
      unfold dcut at hc
      rw [decide_eq_false h1, Bool.false_or, hLs] at hc
      exact of_decide_eq_true hc
    clear h hx hc hL hLs
    go_enter Tryz.func39, Tryz.ntmps39
    go_wp2_with fail
    refine C.out.mono ?_
    rintro r w1 ⟨rfl, h3, hc3⟩
    go_wp2_with fail
    refine (CL.out w1 h3).mono ?_
    rintro r w2 ⟨rfl, n1, rfl⟩
    go_wp2_with fail
    go_ret2
    exact ⟨rfl, h3, hc3.drewN n1⟩
set_option maxHeartbeats 1000000 in
theorem xtaken_ok (b M : Nat) (s : ByteArray) (k x k' : Nat) (w : World) (h : RX w b s k 0) (hk : k ≤ s.size) (hs : s.size ≤ 9223372036854775807) (hx : fx 4 s k 0 = (x, k', 0)) (hM1 : x ≤ M) (hL1 : k' + x ≤ s.size) (hM : M ≤ 1073741824) :
    Calls Tryz.prog 39 #[.pointer (some ⟨b, 0, none⟩), .int .i64 M] w (AnsX b s (.string (s.extract k' (k' + x))) (k' + x) 0 w) := by
  have hk' := fxle hk hx
  have hlt := fxlt hx
  have C := hid (xu32_any b s k 0 w h hk hs)
  rw [hx] at C
  dsimp only at C
  have CL := hid (fun (w1 : World) (h1 : RX w1 b s k' 0) => xleft_any b s k' 0 w1 h1 hk' hs)
  have CW := hid (fun (w1 : World) (h1 : RX w1 b s k' 0) => xraw_any b s k' 0 (x : Int) w1 h1 hk' hs (by omega) (by omega))
  rw [rq_ok hL1] at CW
  dsimp only at CW
  obtain ⟨L, hL⟩ : ∃ L : Nat, (s.size : Int) - k' = L := ⟨s.size - k', by omega⟩
  rw [hL] at CL
  have hwL : IntKind.u64.wrap (L : Int) = L := by rw [IntKind.wrap_u64]; omega
  have hwx : IntKind.u64.wrap (x : Int) = x := by rw [IntKind.wrap_u64]; omega
  have hwM : IntKind.u64.wrap (M : Int) = M := by rw [IntKind.wrap_u64]; omega
  have hwi : IntKind.i64.wrap (x : Int) = x := wrapY (by omega) (by omega)
  have hm0 : ¬ M < x := by omega
  have hl1 : ¬ L < x := by omega
  clear h hx hL hL1 hM1
  generalize s.extract k' (k' + x) = D at *
  go_enter Tryz.func39, Tryz.ntmps39
  go_wp2_with fail
  refine C.out.mono ?_
  rintro r w1 ⟨rfl, h2, hc2⟩
  go_wp2_with fail
  refine (CL.out w1 h2).mono ?_
  rintro r w2 ⟨rfl, n1, rfl⟩
  go_wp2_with fail
  refine (CW.out _ (show RX (w1.drewN n1) b s k' 0 from h2)).mono ?_
  rintro r w3 ⟨rfl, h3, hc3⟩
  go_wp2_with fail
  go_ret2
  exact ⟨rfl, h3, (hc2.drewN n1).trans hc3⟩
end Go.Proofs.YtgdaaohlongmlaaGreat
namespace Go.Proofs.YtgdaaohlongmlaaGreat
open Go.RowKit
set_option maxHeartbeats 1000000 in
set_option maxRecDepth 20000 in
theorem zrsk_1 (s : ByteArray) (x2 k2 E : Nat) (w : World) (hs : s.size ≤ 9223372036854775807) (h0 : fx 1 s 0 0 = (1, 1, 0)) (h1 : fx 4 s 1 0 = (x2, k2, 0)) (hM : x2 ≤ 16777216) (hL : k2 + x2 ≤ s.size) (hE : fl 0 (dq s (k2 + x2) 0) = E) :
    Calls Tryz.prog 15 #[.string s] w fun e w' => e = .returned (ra2 #[.int .i64 1, .string (s.extract k2 (k2 + x2)), .int .i64 0, .int .i64 0, .int .i64 0] #[.int .i64 0, .string ⟨#[]⟩, .int .i64 0, .int .i64 0, .int .i64 0] E) ∧ Below w.heap.size w w' := by
  have hk1 := fxle (Nat.zero_le _) h0
  have g1 : (w.alloc (.cells #[.int .i64 0, .string ⟨#[]⟩, .int .i64 0, .int .i64 0, .int .i64 0] 24)).heap[w.heap.size]? = some (.cells #[.int .i64 0, .string ⟨#[]⟩, .int .i64 0, .int .i64 0, .int .i64 0] 24 (0, 0)) := heap_new _ _
  have b1 : Below w.heap.size w (w.alloc (.cells #[.int .i64 0, .string ⟨#[]⟩, .int .i64 0, .int .i64 0, .int .i64 0] 24)) := (Below.refl _ _).alloc (Nat.le_refl _) _
  go_enter Tryz.func15, Tryz.ntmps15
  go_wp2_with fail
  generalize w.alloc (.cells #[.int .i64 0, .string ⟨#[]⟩, .int .i64 0, .int .i64 0, .int .i64 0] 24) = w1 at *
  refine (xnew_any s w1).mono ?_
  rintro e w2 ⟨rfl, rfl⟩
  have h2 : RX (w1.alloc (.cells #[.string s, .int .i64 0, .int .i64 0] 113)) w1.heap.size s 0 0 := heap_new _ _
  have g2 : (w1.alloc (.cells #[.string s, .int .i64 0, .int .i64 0] 113)).heap[w.heap.size]? = some (.cells #[.int .i64 0, .string ⟨#[]⟩, .int .i64 0, .int .i64 0, .int .i64 0] 24 (0, 0)) := heap_alloc_at g1
  have b2 : Below w.heap.size w (w1.alloc (.cells #[.string s, .int .i64 0, .int .i64 0] 113)) := b1.alloc b1.size _
  have hbb : w.heap.size < w1.heap.size := lt_of_heap g1
  have G2 := hid g2
  have B2 := hid b2
  clear g1 b1 g2 b2
  go_wp2_with fail
  generalize w1.alloc (.cells #[.string s, .int .i64 0, .int .i64 0] 113) = w2 at *
  generalize w1.heap.size = b at *
  have CU := xu8_any b s 0 0 w2 h2 (Nat.zero_le _) hs
  rw [h0] at CU
  dsimp only at CU
  refine CU.mono ?_
  rintro e w3 ⟨rfl, h3, hc3⟩
  have G3 : Hid (w3.heap[w.heap.size]? = some (.cells #[.int .i64 0, .string ⟨#[]⟩, .int .i64 0, .int .i64 0, .int .i64 0] 24 (0, 0))) := hid ((hc3.block _ (lt_of_heap G2.out) (by omega)).trans G2.out)
  have B3 : Hid (Below w.heap.size w w3) := hid (B2.out.trans (hc3.below B2.out.size (fun i hi h => by omega)))
  clear hc3 G2 B2 h2 CU
  have h4 : RX (w3.alloc (.cells #[.int .i64 1, .string ⟨#[]⟩, .int .i64 0, .int .i64 0, .int .i64 0] 24)) b s 1 0 := h3.alloc _
  have r4 : (w3.alloc (.cells #[.int .i64 1, .string ⟨#[]⟩, .int .i64 0, .int .i64 0, .int .i64 0] 24)).heap[w3.heap.size]? = some (.cells #[.int .i64 1, .string ⟨#[]⟩, .int .i64 0, .int .i64 0, .int .i64 0] 24 (0, 0)) := heap_new _ _
  have G4 : Hid ((w3.alloc (.cells #[.int .i64 1, .string ⟨#[]⟩, .int .i64 0, .int .i64 0, .int .i64 0] 24)).heap[w.heap.size]? = some (.cells #[.int .i64 0, .string ⟨#[]⟩, .int .i64 0, .int .i64 0, .int .i64 0] 24 (0, 0))) := hid (heap_alloc_at G3.out)
  have B4 : Hid (Below w.heap.size w (w3.alloc (.cells #[.int .i64 1, .string ⟨#[]⟩, .int .i64 0, .int .i64 0, .int .i64 0] 24))) := hid (B3.out.alloc B3.out.size _)
  have hGG : w3.heap.size ≠ b ∧ w.heap.size < w3.heap.size := ⟨by have := h3.lt; omega, lt_of_heap G3.out⟩
  clear G3 B3 h3
  go_wp2_with fail
  generalize (w3.alloc (.cells #[.int .i64 1, .string ⟨#[]⟩, .int .i64 0, .int .i64 0, .int .i64 0] 24)) = w4 at *
  generalize w3.heap.size = G at *
  refine (xknown_yes _ _ (by omega)).mono ?_
  rintro e w4 ⟨rfl, rfl⟩
  have k4 : w4.cell? ⟨G, 0, none⟩ = some (.int .i64 1) := (cell_of r4).trans rfl
  have R4 := hid r4
  have H4 := hid h4
  clear r4 h4
  go_wp2_with fail
  have CN := xtaken_ok b 16777216 s 1 x2 k2 w4 H4.out hk1 hs h1 hM hL (by omega)
  refine CN.mono ?_
  rintro e w5 ⟨rfl, h5, hc5⟩
  have r5 : w5.heap[G]? = some (.cells #[.int .i64 1, .string ⟨#[]⟩, .int .i64 0, .int .i64 0, .int .i64 0] 24 (0, 0)) := (hc5.block _ (lt_of_heap R4.out) hGG.1).trans R4.out
  have d4 : w5.cell? ⟨G, 1, none⟩ = some (.string ⟨#[]⟩) := (cell_of r5).trans rfl
  have z4 := froz_of (i := 1) r5
  have G6 : Hid ((w5.setCell ⟨G, 1, none⟩ (.string (s.extract k2 (k2 + x2)))).heap[w.heap.size]? = some (.cells #[.int .i64 0, .string ⟨#[]⟩, .int .i64 0, .int .i64 0, .int .i64 0] 24 (0, 0))) := hid (heap_set_far ((hc5.block _ (lt_of_heap G4.out) (by omega)).trans G4.out) (by show w.heap.size ≠ G; omega))
  have B6 : Hid (Below w.heap.size w (w5.setCell ⟨G, 1, none⟩ (.string (s.extract k2 (k2 + x2))))) := hid ((B4.out.trans (hc5.below B4.out.size (fun i hi h => by omega))).setCell (by show w.heap.size ≤ G; omega) _)
  have R6 : Hid ((w5.setCell ⟨G, 1, none⟩ (.string (s.extract k2 (k2 + x2)))).heap[G]? = some (.cells #[.int .i64 1, .string (s.extract k2 (k2 + x2)), .int .i64 0, .int .i64 0, .int .i64 0] 24 (0, 0))) := hid (heap_set r5)
  have H6 : Hid (RX (w5.setCell ⟨G, 1, none⟩ (.string (s.extract k2 (k2 + x2)))) b s (k2 + x2) 0) := hid (rx_set h5 hGG.1)
  clear r5 h5 hc5 R4 H4 G4 B4 CN k4
  go_upto_region 20 with fail
  generalize w5.setCell ⟨G, 1, none⟩ (.string (s.extract k2 (k2 + x2))) = w6 at *
  have hE' : dq s (k2 + x2) 0 = E := by rw [fl_0] at hE; exact hE
  have hkf : (k2 + x2) ≤ s.size := by first | exact hL | exact hk1
  go_wp2_with fail
  have CD := xdone_any b s (k2 + x2) 0 w6 H6.out hkf hs
  rw [show dqx s (k2 + x2) 0 = E from hE'] at CD
  refine CD.mono ?_
  rintro e w19 ⟨rfl, n1, rfl⟩
  have G19 : Hid ((w6.drewN n1).heap[w.heap.size]? = some (.cells #[.int .i64 0, .string ⟨#[]⟩, .int .i64 0, .int .i64 0, .int .i64 0] 24 (0, 0))) := hid G6.out
  have R19 : Hid ((w6.drewN n1).heap[G]? = some (.cells #[.int .i64 1, .string (s.extract k2 (k2 + x2)), .int .i64 0, .int .i64 0, .int .i64 0] 24 (0, 0))) := hid R6.out
  have B19 : Hid (Below w.heap.size w (w6.drewN n1)) := hid (drewN_bel B6.out n1)
  clear G6 R6 B6 H6 CD
  generalize w6.drewN n1 = w19 at *
  have xx0 : w19.cell? ⟨w.heap.size, 0, none⟩ = some (.int .i64 0) := (cell_of G19.out).trans rfl
  have xx1 : w19.cell? ⟨w.heap.size, 1, none⟩ = some (.string ⟨#[]⟩) := (cell_of G19.out).trans rfl
  have xx2 : w19.cell? ⟨w.heap.size, 2, none⟩ = some (.int .i64 0) := (cell_of G19.out).trans rfl
  have xx3 : w19.cell? ⟨w.heap.size, 3, none⟩ = some (.int .i64 0) := (cell_of G19.out).trans rfl
  have xx4 : w19.cell? ⟨w.heap.size, 4, none⟩ = some (.int .i64 0) := (cell_of G19.out).trans rfl
  have yy0 : w19.cell? ⟨G, 0, none⟩ = some (.int .i64 1) := (cell_of R19.out).trans rfl
  have yy1 : w19.cell? ⟨G, 1, none⟩ = some (.string (s.extract k2 (k2 + x2))) := (cell_of R19.out).trans rfl
  have yy2 : w19.cell? ⟨G, 2, none⟩ = some (.int .i64 0) := (cell_of R19.out).trans rfl
  have yy3 : w19.cell? ⟨G, 3, none⟩ = some (.int .i64 0) := (cell_of R19.out).trans rfl
  have yy4 : w19.cell? ⟨G, 4, none⟩ = some (.int .i64 0) := (cell_of R19.out).trans rfl
  by_cases hE0 : E = 0
  · subst hE0
    have gF : (((((w19.setCell ⟨w.heap.size, 0, none⟩ (.int .i64 1)).setCell ⟨w.heap.size, 1, none⟩ (.string (s.extract k2 (k2 + x2)))).setCell ⟨w.heap.size, 2, none⟩ (.int .i64 0)).setCell ⟨w.heap.size, 3, none⟩ (.int .i64 0)).setCell ⟨w.heap.size, 4, none⟩ (.int .i64 0)).heap[w.heap.size]? = some (.cells #[.int .i64 1, .string (s.extract k2 (k2 + x2)), .int .i64 0, .int .i64 0, .int .i64 0] 24 (0, 0)) := (heap_set (heap_set (heap_set (heap_set (heap_set G19.out)))))
    have bF : Below w.heap.size w (((((w19.setCell ⟨w.heap.size, 0, none⟩ (.int .i64 1)).setCell ⟨w.heap.size, 1, none⟩ (.string (s.extract k2 (k2 + x2)))).setCell ⟨w.heap.size, 2, none⟩ (.int .i64 0)).setCell ⟨w.heap.size, 3, none⟩ (.int .i64 0)).setCell ⟨w.heap.size, 4, none⟩ (.int .i64 0)) := (((((B19.out.setCell (Nat.le_refl _) _).setCell (Nat.le_refl _) _).setCell (Nat.le_refl _) _).setCell (Nat.le_refl _) _).setCell (Nat.le_refl _) _)
    have hrF := lt_of_heap G19.out
    have zz0 := froz_of (i := 0) G19.out
    have zz1 := froz_of (i := 1) G19.out
    have zz2 := froz_of (i := 2) G19.out
    have zz3 := froz_of (i := 3) G19.out
    have zz4 := froz_of (i := 4) G19.out
    go_wp2_with fail
    generalize (((((w19.setCell ⟨w.heap.size, 0, none⟩ (.int .i64 1)).setCell ⟨w.heap.size, 1, none⟩ (.string (s.extract k2 (k2 + x2)))).setCell ⟨w.heap.size, 2, none⟩ (.int .i64 0)).setCell ⟨w.heap.size, 3, none⟩ (.int .i64 0)).setCell ⟨w.heap.size, 4, none⟩ (.int .i64 0)) = wF at *
    have ff0 : wF.cell? ⟨w.heap.size, 0, none⟩ = some (.int .i64 1) := (cell_of gF).trans rfl
    have ff1 : wF.cell? ⟨w.heap.size, 1, none⟩ = some (.string (s.extract k2 (k2 + x2))) := (cell_of gF).trans rfl
    have ff2 : wF.cell? ⟨w.heap.size, 2, none⟩ = some (.int .i64 0) := (cell_of gF).trans rfl
    have ff3 : wF.cell? ⟨w.heap.size, 3, none⟩ = some (.int .i64 0) := (cell_of gF).trans rfl
    have ff4 : wF.cell? ⟨w.heap.size, 4, none⟩ = some (.int .i64 0) := (cell_of gF).trans rfl
    exact bodyPost_ret (v := .tuple #[.agg #[.int .i64 1, .string (s.extract k2 (k2 + x2)), .int .i64 0, .int .i64 0, .int .i64 0], .int .i64 0]) (by simp [results, Tryz.results15, go_sem, ff0, ff1, ff2, ff3, ff4]) rfl ⟨rfl, bF⟩
  · have hne : ((E : Int) != 0) = true := by rw [bne_iff_ne]; omega
    have hne2 : ((E : Int) == 0) = false := by rw [beq_eq_false_iff_ne]; omega
    have gF : (((((w19.setCell ⟨w.heap.size, 0, none⟩ (.int .i64 0)).setCell ⟨w.heap.size, 1, none⟩ (.string ⟨#[]⟩)).setCell ⟨w.heap.size, 2, none⟩ (.int .i64 0)).setCell ⟨w.heap.size, 3, none⟩ (.int .i64 0)).setCell ⟨w.heap.size, 4, none⟩ (.int .i64 0)).heap[w.heap.size]? = some (.cells #[.int .i64 0, .string ⟨#[]⟩, .int .i64 0, .int .i64 0, .int .i64 0] 24 (0, 0)) := (heap_set (heap_set (heap_set (heap_set (heap_set G19.out)))))
    have bF : Below w.heap.size w (((((w19.setCell ⟨w.heap.size, 0, none⟩ (.int .i64 0)).setCell ⟨w.heap.size, 1, none⟩ (.string ⟨#[]⟩)).setCell ⟨w.heap.size, 2, none⟩ (.int .i64 0)).setCell ⟨w.heap.size, 3, none⟩ (.int .i64 0)).setCell ⟨w.heap.size, 4, none⟩ (.int .i64 0)) := (((((B19.out.setCell (Nat.le_refl _) _).setCell (Nat.le_refl _) _).setCell (Nat.le_refl _) _).setCell (Nat.le_refl _) _).setCell (Nat.le_refl _) _)
    have hrF := lt_of_heap G19.out
    have zz0 := froz_of (i := 0) G19.out
    have zz1 := froz_of (i := 1) G19.out
    have zz2 := froz_of (i := 2) G19.out
    have zz3 := froz_of (i := 3) G19.out
    have zz4 := froz_of (i := 4) G19.out
    go_wp2_with fail
    generalize (((((w19.setCell ⟨w.heap.size, 0, none⟩ (.int .i64 0)).setCell ⟨w.heap.size, 1, none⟩ (.string ⟨#[]⟩)).setCell ⟨w.heap.size, 2, none⟩ (.int .i64 0)).setCell ⟨w.heap.size, 3, none⟩ (.int .i64 0)).setCell ⟨w.heap.size, 4, none⟩ (.int .i64 0)) = wF at *
    have ff0 : wF.cell? ⟨w.heap.size, 0, none⟩ = some (.int .i64 0) := (cell_of gF).trans rfl
    have ff1 : wF.cell? ⟨w.heap.size, 1, none⟩ = some (.string ⟨#[]⟩) := (cell_of gF).trans rfl
    have ff2 : wF.cell? ⟨w.heap.size, 2, none⟩ = some (.int .i64 0) := (cell_of gF).trans rfl
    have ff3 : wF.cell? ⟨w.heap.size, 3, none⟩ = some (.int .i64 0) := (cell_of gF).trans rfl
    have ff4 : wF.cell? ⟨w.heap.size, 4, none⟩ = some (.int .i64 0) := (cell_of gF).trans rfl
    exact bodyPost_ret (v := .tuple #[.agg #[.int .i64 0, .string ⟨#[]⟩, .int .i64 0, .int .i64 0, .int .i64 0], .int .i64 E]) (by simp [results, Tryz.results15, go_sem, ff0, ff1, ff2, ff3, ff4]) rfl ⟨by rw [ra2_no hE0], bF⟩
set_option maxHeartbeats 1000000 in
set_option maxRecDepth 20000 in
theorem zrsk_2 (s : ByteArray) (x2 k2 e2 x3 k3 e3 E : Nat) (w : World) (hs : s.size ≤ 9223372036854775807) (h0 : fx 1 s 0 0 = (2, 1, 0)) (h1 : fx 8 s 1 0 = (x2, k2, e2)) (h2 : fx 8 s k2 e2 = (x3, k3, e3)) (hE : fl 0 (dq s k3 e3) = E) :
    Calls Tryz.prog 15 #[.string s] w fun e w' => e = .returned (ra2 #[.int .i64 2, .string ⟨#[]⟩, .int .i64 (wrap64 x2), .int .i64 0, .int .i64 (wrap64 x3)] #[.int .i64 0, .string ⟨#[]⟩, .int .i64 0, .int .i64 0, .int .i64 0] E) ∧ Below w.heap.size w w' := by
  have hk1 := fxle (Nat.zero_le _) h0
  have g1 : (w.alloc (.cells #[.int .i64 0, .string ⟨#[]⟩, .int .i64 0, .int .i64 0, .int .i64 0] 24)).heap[w.heap.size]? = some (.cells #[.int .i64 0, .string ⟨#[]⟩, .int .i64 0, .int .i64 0, .int .i64 0] 24 (0, 0)) := heap_new _ _
  have b1 : Below w.heap.size w (w.alloc (.cells #[.int .i64 0, .string ⟨#[]⟩, .int .i64 0, .int .i64 0, .int .i64 0] 24)) := (Below.refl _ _).alloc (Nat.le_refl _) _
  go_enter Tryz.func15, Tryz.ntmps15
  go_wp2_with fail
  generalize w.alloc (.cells #[.int .i64 0, .string ⟨#[]⟩, .int .i64 0, .int .i64 0, .int .i64 0] 24) = w1 at *
  refine (xnew_any s w1).mono ?_
  rintro e w2 ⟨rfl, rfl⟩
  have h2 : RX (w1.alloc (.cells #[.string s, .int .i64 0, .int .i64 0] 113)) w1.heap.size s 0 0 := heap_new _ _
  have g2 : (w1.alloc (.cells #[.string s, .int .i64 0, .int .i64 0] 113)).heap[w.heap.size]? = some (.cells #[.int .i64 0, .string ⟨#[]⟩, .int .i64 0, .int .i64 0, .int .i64 0] 24 (0, 0)) := heap_alloc_at g1
  have b2 : Below w.heap.size w (w1.alloc (.cells #[.string s, .int .i64 0, .int .i64 0] 113)) := b1.alloc b1.size _
  have hbb : w.heap.size < w1.heap.size := lt_of_heap g1
  have G2 := hid g2
  have B2 := hid b2
  clear g1 b1 g2 b2
  go_wp2_with fail
  generalize w1.alloc (.cells #[.string s, .int .i64 0, .int .i64 0] 113) = w2 at *
  generalize w1.heap.size = b at *
  have CU := xu8_any b s 0 0 w2 h2 (Nat.zero_le _) hs
  rw [h0] at CU
  dsimp only at CU
  refine CU.mono ?_
  rintro e w3 ⟨rfl, h3, hc3⟩
  have G3 : Hid (w3.heap[w.heap.size]? = some (.cells #[.int .i64 0, .string ⟨#[]⟩, .int .i64 0, .int .i64 0, .int .i64 0] 24 (0, 0))) := hid ((hc3.block _ (lt_of_heap G2.out) (by omega)).trans G2.out)
  have B3 : Hid (Below w.heap.size w w3) := hid (B2.out.trans (hc3.below B2.out.size (fun i hi h => by omega)))
  clear hc3 G2 B2 h2 CU
  have h4 : RX (w3.alloc (.cells #[.int .i64 2, .string ⟨#[]⟩, .int .i64 0, .int .i64 0, .int .i64 0] 24)) b s 1 0 := h3.alloc _
  have r4 : (w3.alloc (.cells #[.int .i64 2, .string ⟨#[]⟩, .int .i64 0, .int .i64 0, .int .i64 0] 24)).heap[w3.heap.size]? = some (.cells #[.int .i64 2, .string ⟨#[]⟩, .int .i64 0, .int .i64 0, .int .i64 0] 24 (0, 0)) := heap_new _ _
  have G4 : Hid ((w3.alloc (.cells #[.int .i64 2, .string ⟨#[]⟩, .int .i64 0, .int .i64 0, .int .i64 0] 24)).heap[w.heap.size]? = some (.cells #[.int .i64 0, .string ⟨#[]⟩, .int .i64 0, .int .i64 0, .int .i64 0] 24 (0, 0))) := hid (heap_alloc_at G3.out)
  have B4 : Hid (Below w.heap.size w (w3.alloc (.cells #[.int .i64 2, .string ⟨#[]⟩, .int .i64 0, .int .i64 0, .int .i64 0] 24))) := hid (B3.out.alloc B3.out.size _)
  have hGG : w3.heap.size ≠ b ∧ w.heap.size < w3.heap.size := ⟨by have := h3.lt; omega, lt_of_heap G3.out⟩
  clear G3 B3 h3
  go_wp2_with fail
  generalize (w3.alloc (.cells #[.int .i64 2, .string ⟨#[]⟩, .int .i64 0, .int .i64 0, .int .i64 0] 24)) = w4 at *
  generalize w3.heap.size = G at *
  refine (xknown_yes _ _ (by omega)).mono ?_
  rintro e w4 ⟨rfl, rfl⟩
  have k4 : w4.cell? ⟨G, 0, none⟩ = some (.int .i64 2) := (cell_of r4).trans rfl
  have R4 := hid r4
  have H4 := hid h4
  clear r4 h4
  go_wp2_with fail
  have CN := (show Calls _ _ _ _ (AnsX b s (.int .i64 (wrap64 x2)) k2 e2 w4) from by have C := xi64_any b s 1 0 w4 H4.out hk1 hs; rw [h1] at C; exact C)
  refine CN.mono ?_
  rintro e w5 ⟨rfl, h5, hc5⟩
  have r5 : w5.heap[G]? = some (.cells #[.int .i64 2, .string ⟨#[]⟩, .int .i64 0, .int .i64 0, .int .i64 0] 24 (0, 0)) := (hc5.block _ (lt_of_heap R4.out) hGG.1).trans R4.out
  have d4 : w5.cell? ⟨G, 2, none⟩ = some (.int .i64 0) := (cell_of r5).trans rfl
  have z4 := froz_of (i := 2) r5
  have G6 : Hid ((w5.setCell ⟨G, 2, none⟩ (.int .i64 (wrap64 x2))).heap[w.heap.size]? = some (.cells #[.int .i64 0, .string ⟨#[]⟩, .int .i64 0, .int .i64 0, .int .i64 0] 24 (0, 0))) := hid (heap_set_far ((hc5.block _ (lt_of_heap G4.out) (by omega)).trans G4.out) (by show w.heap.size ≠ G; omega))
  have B6 : Hid (Below w.heap.size w (w5.setCell ⟨G, 2, none⟩ (.int .i64 (wrap64 x2)))) := hid ((B4.out.trans (hc5.below B4.out.size (fun i hi h => by omega))).setCell (by show w.heap.size ≤ G; omega) _)
  have R6 : Hid ((w5.setCell ⟨G, 2, none⟩ (.int .i64 (wrap64 x2))).heap[G]? = some (.cells #[.int .i64 2, .string ⟨#[]⟩, .int .i64 (wrap64 x2), .int .i64 0, .int .i64 0] 24 (0, 0))) := hid (heap_set r5)
  have H6 : Hid (RX (w5.setCell ⟨G, 2, none⟩ (.int .i64 (wrap64 x2))) b s k2 e2) := hid (rx_set h5 hGG.1)
  clear r5 h5 hc5 R4 H4 G4 B4 CN k4
  go_wp2_with fail
  generalize w5.setCell ⟨G, 2, none⟩ (.int .i64 (wrap64 x2)) = w6 at *
  have CN := (show Calls _ _ _ _ (AnsX b s (.int .i64 (wrap64 x3)) k3 e3 w6) from by have C := xi64_any b s k2 e2 w6 H6.out (fxle hk1 h1) hs; rw [h2] at C; exact C)
  refine CN.mono ?_
  rintro e w7 ⟨rfl, h7, hc7⟩
  have r7 : w7.heap[G]? = some (.cells #[.int .i64 2, .string ⟨#[]⟩, .int .i64 (wrap64 x2), .int .i64 0, .int .i64 0] 24 (0, 0)) := (hc7.block _ (lt_of_heap R6.out) hGG.1).trans R6.out
  have d6 : w7.cell? ⟨G, 4, none⟩ = some (.int .i64 0) := (cell_of r7).trans rfl
  have z6 := froz_of (i := 4) r7
  have G8 : Hid ((w7.setCell ⟨G, 4, none⟩ (.int .i64 (wrap64 x3))).heap[w.heap.size]? = some (.cells #[.int .i64 0, .string ⟨#[]⟩, .int .i64 0, .int .i64 0, .int .i64 0] 24 (0, 0))) := hid (heap_set_far ((hc7.block _ (lt_of_heap G6.out) (by omega)).trans G6.out) (by show w.heap.size ≠ G; omega))
  have B8 : Hid (Below w.heap.size w (w7.setCell ⟨G, 4, none⟩ (.int .i64 (wrap64 x3)))) := hid ((B6.out.trans (hc7.below B6.out.size (fun i hi h => by omega))).setCell (by show w.heap.size ≤ G; omega) _)
  have R8 : Hid ((w7.setCell ⟨G, 4, none⟩ (.int .i64 (wrap64 x3))).heap[G]? = some (.cells #[.int .i64 2, .string ⟨#[]⟩, .int .i64 (wrap64 x2), .int .i64 0, .int .i64 (wrap64 x3)] 24 (0, 0))) := hid (heap_set r7)
  have H8 : Hid (RX (w7.setCell ⟨G, 4, none⟩ (.int .i64 (wrap64 x3))) b s k3 e3) := hid (rx_set h7 hGG.1)
  clear r7 h7 hc7 R6 H6 G6 B6 CN
  go_upto_region 20 with fail
  generalize w7.setCell ⟨G, 4, none⟩ (.int .i64 (wrap64 x3)) = w8 at *
  have hkf : k3 ≤ s.size := by first | exact fxle (fxle hk1 h1) h2 | exact fxle hk1 h1
  by_cases hef : e3 = 0
  · subst hef
    have hE' : dq s k3 0 = E := by rw [fl_0] at hE; exact hE
    go_wp2_with fail
    have CD := xdone_any b s k3 0 w8 H8.out hkf hs
    rw [show dqx s k3 0 = E from hE'] at CD
    refine CD.mono ?_
    rintro e w19 ⟨rfl, n1, rfl⟩
    have G19 : Hid ((w8.drewN n1).heap[w.heap.size]? = some (.cells #[.int .i64 0, .string ⟨#[]⟩, .int .i64 0, .int .i64 0, .int .i64 0] 24 (0, 0))) := hid G8.out
    have R19 : Hid ((w8.drewN n1).heap[G]? = some (.cells #[.int .i64 2, .string ⟨#[]⟩, .int .i64 (wrap64 x2), .int .i64 0, .int .i64 (wrap64 x3)] 24 (0, 0))) := hid R8.out
    have B19 : Hid (Below w.heap.size w (w8.drewN n1)) := hid (drewN_bel B8.out n1)
    clear G8 R8 B8 H8 CD
    generalize w8.drewN n1 = w19 at *
    have xx0 : w19.cell? ⟨w.heap.size, 0, none⟩ = some (.int .i64 0) := (cell_of G19.out).trans rfl
    have xx1 : w19.cell? ⟨w.heap.size, 1, none⟩ = some (.string ⟨#[]⟩) := (cell_of G19.out).trans rfl
    have xx2 : w19.cell? ⟨w.heap.size, 2, none⟩ = some (.int .i64 0) := (cell_of G19.out).trans rfl
    have xx3 : w19.cell? ⟨w.heap.size, 3, none⟩ = some (.int .i64 0) := (cell_of G19.out).trans rfl
    have xx4 : w19.cell? ⟨w.heap.size, 4, none⟩ = some (.int .i64 0) := (cell_of G19.out).trans rfl
    have yy0 : w19.cell? ⟨G, 0, none⟩ = some (.int .i64 2) := (cell_of R19.out).trans rfl
    have yy1 : w19.cell? ⟨G, 1, none⟩ = some (.string ⟨#[]⟩) := (cell_of R19.out).trans rfl
    have yy2 : w19.cell? ⟨G, 2, none⟩ = some (.int .i64 (wrap64 x2)) := (cell_of R19.out).trans rfl
    have yy3 : w19.cell? ⟨G, 3, none⟩ = some (.int .i64 0) := (cell_of R19.out).trans rfl
    have yy4 : w19.cell? ⟨G, 4, none⟩ = some (.int .i64 (wrap64 x3)) := (cell_of R19.out).trans rfl
    by_cases hE0 : E = 0
    · subst hE0
      have gF : (((((w19.setCell ⟨w.heap.size, 0, none⟩ (.int .i64 2)).setCell ⟨w.heap.size, 1, none⟩ (.string ⟨#[]⟩)).setCell ⟨w.heap.size, 2, none⟩ (.int .i64 (wrap64 x2))).setCell ⟨w.heap.size, 3, none⟩ (.int .i64 0)).setCell ⟨w.heap.size, 4, none⟩ (.int .i64 (wrap64 x3))).heap[w.heap.size]? = some (.cells #[.int .i64 2, .string ⟨#[]⟩, .int .i64 (wrap64 x2), .int .i64 0, .int .i64 (wrap64 x3)] 24 (0, 0)) := (heap_set (heap_set (heap_set (heap_set (heap_set G19.out)))))
      have bF : Below w.heap.size w (((((w19.setCell ⟨w.heap.size, 0, none⟩ (.int .i64 2)).setCell ⟨w.heap.size, 1, none⟩ (.string ⟨#[]⟩)).setCell ⟨w.heap.size, 2, none⟩ (.int .i64 (wrap64 x2))).setCell ⟨w.heap.size, 3, none⟩ (.int .i64 0)).setCell ⟨w.heap.size, 4, none⟩ (.int .i64 (wrap64 x3))) := (((((B19.out.setCell (Nat.le_refl _) _).setCell (Nat.le_refl _) _).setCell (Nat.le_refl _) _).setCell (Nat.le_refl _) _).setCell (Nat.le_refl _) _)
      have hrF := lt_of_heap G19.out
      have zz0 := froz_of (i := 0) G19.out
      have zz1 := froz_of (i := 1) G19.out
      have zz2 := froz_of (i := 2) G19.out
      have zz3 := froz_of (i := 3) G19.out
      have zz4 := froz_of (i := 4) G19.out
      go_wp2_with fail
      generalize (((((w19.setCell ⟨w.heap.size, 0, none⟩ (.int .i64 2)).setCell ⟨w.heap.size, 1, none⟩ (.string ⟨#[]⟩)).setCell ⟨w.heap.size, 2, none⟩ (.int .i64 (wrap64 x2))).setCell ⟨w.heap.size, 3, none⟩ (.int .i64 0)).setCell ⟨w.heap.size, 4, none⟩ (.int .i64 (wrap64 x3))) = wF at *
      have ff0 : wF.cell? ⟨w.heap.size, 0, none⟩ = some (.int .i64 2) := (cell_of gF).trans rfl
      have ff1 : wF.cell? ⟨w.heap.size, 1, none⟩ = some (.string ⟨#[]⟩) := (cell_of gF).trans rfl
      have ff2 : wF.cell? ⟨w.heap.size, 2, none⟩ = some (.int .i64 (wrap64 x2)) := (cell_of gF).trans rfl
      have ff3 : wF.cell? ⟨w.heap.size, 3, none⟩ = some (.int .i64 0) := (cell_of gF).trans rfl
      have ff4 : wF.cell? ⟨w.heap.size, 4, none⟩ = some (.int .i64 (wrap64 x3)) := (cell_of gF).trans rfl
      exact bodyPost_ret (v := .tuple #[.agg #[.int .i64 2, .string ⟨#[]⟩, .int .i64 (wrap64 x2), .int .i64 0, .int .i64 (wrap64 x3)], .int .i64 0]) (by simp [results, Tryz.results15, go_sem, ff0, ff1, ff2, ff3, ff4]) rfl ⟨rfl, bF⟩
    · have hne : ((E : Int) != 0) = true := by rw [bne_iff_ne]; omega
      have hne2 : ((E : Int) == 0) = false := by rw [beq_eq_false_iff_ne]; omega
      have gF : (((((w19.setCell ⟨w.heap.size, 0, none⟩ (.int .i64 0)).setCell ⟨w.heap.size, 1, none⟩ (.string ⟨#[]⟩)).setCell ⟨w.heap.size, 2, none⟩ (.int .i64 0)).setCell ⟨w.heap.size, 3, none⟩ (.int .i64 0)).setCell ⟨w.heap.size, 4, none⟩ (.int .i64 0)).heap[w.heap.size]? = some (.cells #[.int .i64 0, .string ⟨#[]⟩, .int .i64 0, .int .i64 0, .int .i64 0] 24 (0, 0)) := (heap_set (heap_set (heap_set (heap_set (heap_set G19.out)))))
      have bF : Below w.heap.size w (((((w19.setCell ⟨w.heap.size, 0, none⟩ (.int .i64 0)).setCell ⟨w.heap.size, 1, none⟩ (.string ⟨#[]⟩)).setCell ⟨w.heap.size, 2, none⟩ (.int .i64 0)).setCell ⟨w.heap.size, 3, none⟩ (.int .i64 0)).setCell ⟨w.heap.size, 4, none⟩ (.int .i64 0)) := (((((B19.out.setCell (Nat.le_refl _) _).setCell (Nat.le_refl _) _).setCell (Nat.le_refl _) _).setCell (Nat.le_refl _) _).setCell (Nat.le_refl _) _)
      have hrF := lt_of_heap G19.out
      have zz0 := froz_of (i := 0) G19.out
      have zz1 := froz_of (i := 1) G19.out
      have zz2 := froz_of (i := 2) G19.out
      have zz3 := froz_of (i := 3) G19.out
      have zz4 := froz_of (i := 4) G19.out
      go_wp2_with fail
      generalize (((((w19.setCell ⟨w.heap.size, 0, none⟩ (.int .i64 0)).setCell ⟨w.heap.size, 1, none⟩ (.string ⟨#[]⟩)).setCell ⟨w.heap.size, 2, none⟩ (.int .i64 0)).setCell ⟨w.heap.size, 3, none⟩ (.int .i64 0)).setCell ⟨w.heap.size, 4, none⟩ (.int .i64 0)) = wF at *
      have ff0 : wF.cell? ⟨w.heap.size, 0, none⟩ = some (.int .i64 0) := (cell_of gF).trans rfl
      have ff1 : wF.cell? ⟨w.heap.size, 1, none⟩ = some (.string ⟨#[]⟩) := (cell_of gF).trans rfl
      have ff2 : wF.cell? ⟨w.heap.size, 2, none⟩ = some (.int .i64 0) := (cell_of gF).trans rfl
      have ff3 : wF.cell? ⟨w.heap.size, 3, none⟩ = some (.int .i64 0) := (cell_of gF).trans rfl
      have ff4 : wF.cell? ⟨w.heap.size, 4, none⟩ = some (.int .i64 0) := (cell_of gF).trans rfl
      exact bodyPost_ret (v := .tuple #[.agg #[.int .i64 0, .string ⟨#[]⟩, .int .i64 0, .int .i64 0, .int .i64 0], .int .i64 E]) (by simp [results, Tryz.results15, go_sem, ff0, ff1, ff2, ff3, ff4]) rfl ⟨by rw [ra2_no hE0], bF⟩
  · have hE0 : E = e3 := by rw [fl_0, dq_bad hef] at hE; exact hE.symm
    subst hE0
    have hne : ((E : Int) != 0) = true := by rw [bne_iff_ne]; omega
    have hne2 : ((E : Int) == 0) = false := by rw [beq_eq_false_iff_ne]; omega
    have xx0 : w8.cell? ⟨w.heap.size, 0, none⟩ = some (.int .i64 0) := (cell_of G8.out).trans rfl
    have xx1 : w8.cell? ⟨w.heap.size, 1, none⟩ = some (.string ⟨#[]⟩) := (cell_of G8.out).trans rfl
    have xx2 : w8.cell? ⟨w.heap.size, 2, none⟩ = some (.int .i64 0) := (cell_of G8.out).trans rfl
    have xx3 : w8.cell? ⟨w.heap.size, 3, none⟩ = some (.int .i64 0) := (cell_of G8.out).trans rfl
    have xx4 : w8.cell? ⟨w.heap.size, 4, none⟩ = some (.int .i64 0) := (cell_of G8.out).trans rfl
    have gF : (((((w8.setCell ⟨w.heap.size, 0, none⟩ (.int .i64 0)).setCell ⟨w.heap.size, 1, none⟩ (.string ⟨#[]⟩)).setCell ⟨w.heap.size, 2, none⟩ (.int .i64 0)).setCell ⟨w.heap.size, 3, none⟩ (.int .i64 0)).setCell ⟨w.heap.size, 4, none⟩ (.int .i64 0)).heap[w.heap.size]? = some (.cells #[.int .i64 0, .string ⟨#[]⟩, .int .i64 0, .int .i64 0, .int .i64 0] 24 (0, 0)) := (heap_set (heap_set (heap_set (heap_set (heap_set G8.out)))))
    have bF : Below w.heap.size w (((((w8.setCell ⟨w.heap.size, 0, none⟩ (.int .i64 0)).setCell ⟨w.heap.size, 1, none⟩ (.string ⟨#[]⟩)).setCell ⟨w.heap.size, 2, none⟩ (.int .i64 0)).setCell ⟨w.heap.size, 3, none⟩ (.int .i64 0)).setCell ⟨w.heap.size, 4, none⟩ (.int .i64 0)) := (((((B8.out.setCell (Nat.le_refl _) _).setCell (Nat.le_refl _) _).setCell (Nat.le_refl _) _).setCell (Nat.le_refl _) _).setCell (Nat.le_refl _) _)
    have hrF := lt_of_heap G8.out
    have zz0 := froz_of (i := 0) G8.out
    have zz1 := froz_of (i := 1) G8.out
    have zz2 := froz_of (i := 2) G8.out
    have zz3 := froz_of (i := 3) G8.out
    have zz4 := froz_of (i := 4) G8.out
    go_wp2_with fail
    generalize (((((w8.setCell ⟨w.heap.size, 0, none⟩ (.int .i64 0)).setCell ⟨w.heap.size, 1, none⟩ (.string ⟨#[]⟩)).setCell ⟨w.heap.size, 2, none⟩ (.int .i64 0)).setCell ⟨w.heap.size, 3, none⟩ (.int .i64 0)).setCell ⟨w.heap.size, 4, none⟩ (.int .i64 0)) = wF at *
    have ff0 : wF.cell? ⟨w.heap.size, 0, none⟩ = some (.int .i64 0) := (cell_of gF).trans rfl
    have ff1 : wF.cell? ⟨w.heap.size, 1, none⟩ = some (.string ⟨#[]⟩) := (cell_of gF).trans rfl
    have ff2 : wF.cell? ⟨w.heap.size, 2, none⟩ = some (.int .i64 0) := (cell_of gF).trans rfl
    have ff3 : wF.cell? ⟨w.heap.size, 3, none⟩ = some (.int .i64 0) := (cell_of gF).trans rfl
    have ff4 : wF.cell? ⟨w.heap.size, 4, none⟩ = some (.int .i64 0) := (cell_of gF).trans rfl
    exact bodyPost_ret (v := .tuple #[.agg #[.int .i64 0, .string ⟨#[]⟩, .int .i64 0, .int .i64 0, .int .i64 0], .int .i64 E]) (by simp [results, Tryz.results15, go_sem, ff0, ff1, ff2, ff3, ff4]) rfl ⟨by rw [ra2_no hef], bF⟩
set_option maxHeartbeats 1000000 in
set_option maxRecDepth 20000 in
theorem zrsk_3 (s : ByteArray) (x2 k2 e2 E : Nat) (w : World) (hs : s.size ≤ 9223372036854775807) (h0 : fx 1 s 0 0 = (3, 1, 0)) (h1 : fx 8 s 1 0 = (x2, k2, e2)) (hE : fl 0 (dq s k2 e2) = E) :
    Calls Tryz.prog 15 #[.string s] w fun e w' => e = .returned (ra2 #[.int .i64 3, .string ⟨#[]⟩, .int .i64 0, .int .i64 (wrap64 x2), .int .i64 0] #[.int .i64 0, .string ⟨#[]⟩, .int .i64 0, .int .i64 0, .int .i64 0] E) ∧ Below w.heap.size w w' := by
  have hk1 := fxle (Nat.zero_le _) h0
  have g1 : (w.alloc (.cells #[.int .i64 0, .string ⟨#[]⟩, .int .i64 0, .int .i64 0, .int .i64 0] 24)).heap[w.heap.size]? = some (.cells #[.int .i64 0, .string ⟨#[]⟩, .int .i64 0, .int .i64 0, .int .i64 0] 24 (0, 0)) := heap_new _ _
  have b1 : Below w.heap.size w (w.alloc (.cells #[.int .i64 0, .string ⟨#[]⟩, .int .i64 0, .int .i64 0, .int .i64 0] 24)) := (Below.refl _ _).alloc (Nat.le_refl _) _
  go_enter Tryz.func15, Tryz.ntmps15
  go_wp2_with fail
  generalize w.alloc (.cells #[.int .i64 0, .string ⟨#[]⟩, .int .i64 0, .int .i64 0, .int .i64 0] 24) = w1 at *
  refine (xnew_any s w1).mono ?_
  rintro e w2 ⟨rfl, rfl⟩
  have h2 : RX (w1.alloc (.cells #[.string s, .int .i64 0, .int .i64 0] 113)) w1.heap.size s 0 0 := heap_new _ _
  have g2 : (w1.alloc (.cells #[.string s, .int .i64 0, .int .i64 0] 113)).heap[w.heap.size]? = some (.cells #[.int .i64 0, .string ⟨#[]⟩, .int .i64 0, .int .i64 0, .int .i64 0] 24 (0, 0)) := heap_alloc_at g1
  have b2 : Below w.heap.size w (w1.alloc (.cells #[.string s, .int .i64 0, .int .i64 0] 113)) := b1.alloc b1.size _
  have hbb : w.heap.size < w1.heap.size := lt_of_heap g1
  have G2 := hid g2
  have B2 := hid b2
  clear g1 b1 g2 b2
  go_wp2_with fail
  generalize w1.alloc (.cells #[.string s, .int .i64 0, .int .i64 0] 113) = w2 at *
  generalize w1.heap.size = b at *
  have CU := xu8_any b s 0 0 w2 h2 (Nat.zero_le _) hs
  rw [h0] at CU
  dsimp only at CU
  refine CU.mono ?_
  rintro e w3 ⟨rfl, h3, hc3⟩
  have G3 : Hid (w3.heap[w.heap.size]? = some (.cells #[.int .i64 0, .string ⟨#[]⟩, .int .i64 0, .int .i64 0, .int .i64 0] 24 (0, 0))) := hid ((hc3.block _ (lt_of_heap G2.out) (by omega)).trans G2.out)
  have B3 : Hid (Below w.heap.size w w3) := hid (B2.out.trans (hc3.below B2.out.size (fun i hi h => by omega)))
  clear hc3 G2 B2 h2 CU
  have h4 : RX (w3.alloc (.cells #[.int .i64 3, .string ⟨#[]⟩, .int .i64 0, .int .i64 0, .int .i64 0] 24)) b s 1 0 := h3.alloc _
  have r4 : (w3.alloc (.cells #[.int .i64 3, .string ⟨#[]⟩, .int .i64 0, .int .i64 0, .int .i64 0] 24)).heap[w3.heap.size]? = some (.cells #[.int .i64 3, .string ⟨#[]⟩, .int .i64 0, .int .i64 0, .int .i64 0] 24 (0, 0)) := heap_new _ _
  have G4 : Hid ((w3.alloc (.cells #[.int .i64 3, .string ⟨#[]⟩, .int .i64 0, .int .i64 0, .int .i64 0] 24)).heap[w.heap.size]? = some (.cells #[.int .i64 0, .string ⟨#[]⟩, .int .i64 0, .int .i64 0, .int .i64 0] 24 (0, 0))) := hid (heap_alloc_at G3.out)
  have B4 : Hid (Below w.heap.size w (w3.alloc (.cells #[.int .i64 3, .string ⟨#[]⟩, .int .i64 0, .int .i64 0, .int .i64 0] 24))) := hid (B3.out.alloc B3.out.size _)
  have hGG : w3.heap.size ≠ b ∧ w.heap.size < w3.heap.size := ⟨by have := h3.lt; omega, lt_of_heap G3.out⟩
  clear G3 B3 h3
  go_wp2_with fail
  generalize (w3.alloc (.cells #[.int .i64 3, .string ⟨#[]⟩, .int .i64 0, .int .i64 0, .int .i64 0] 24)) = w4 at *
  generalize w3.heap.size = G at *
  refine (xknown_yes _ _ (by omega)).mono ?_
  rintro e w4 ⟨rfl, rfl⟩
  have k4 : w4.cell? ⟨G, 0, none⟩ = some (.int .i64 3) := (cell_of r4).trans rfl
  have R4 := hid r4
  have H4 := hid h4
  clear r4 h4
  go_wp2_with fail
  have CN := (show Calls _ _ _ _ (AnsX b s (.int .i64 (wrap64 x2)) k2 e2 w4) from by have C := xi64_any b s 1 0 w4 H4.out hk1 hs; rw [h1] at C; exact C)
  refine CN.mono ?_
  rintro e w5 ⟨rfl, h5, hc5⟩
  have r5 : w5.heap[G]? = some (.cells #[.int .i64 3, .string ⟨#[]⟩, .int .i64 0, .int .i64 0, .int .i64 0] 24 (0, 0)) := (hc5.block _ (lt_of_heap R4.out) hGG.1).trans R4.out
  have d4 : w5.cell? ⟨G, 3, none⟩ = some (.int .i64 0) := (cell_of r5).trans rfl
  have z4 := froz_of (i := 3) r5
  have G6 : Hid ((w5.setCell ⟨G, 3, none⟩ (.int .i64 (wrap64 x2))).heap[w.heap.size]? = some (.cells #[.int .i64 0, .string ⟨#[]⟩, .int .i64 0, .int .i64 0, .int .i64 0] 24 (0, 0))) := hid (heap_set_far ((hc5.block _ (lt_of_heap G4.out) (by omega)).trans G4.out) (by show w.heap.size ≠ G; omega))
  have B6 : Hid (Below w.heap.size w (w5.setCell ⟨G, 3, none⟩ (.int .i64 (wrap64 x2)))) := hid ((B4.out.trans (hc5.below B4.out.size (fun i hi h => by omega))).setCell (by show w.heap.size ≤ G; omega) _)
  have R6 : Hid ((w5.setCell ⟨G, 3, none⟩ (.int .i64 (wrap64 x2))).heap[G]? = some (.cells #[.int .i64 3, .string ⟨#[]⟩, .int .i64 0, .int .i64 (wrap64 x2), .int .i64 0] 24 (0, 0))) := hid (heap_set r5)
  have H6 : Hid (RX (w5.setCell ⟨G, 3, none⟩ (.int .i64 (wrap64 x2))) b s k2 e2) := hid (rx_set h5 hGG.1)
  clear r5 h5 hc5 R4 H4 G4 B4 CN k4
  go_upto_region 20 with fail
  generalize w5.setCell ⟨G, 3, none⟩ (.int .i64 (wrap64 x2)) = w6 at *
  have hkf : k2 ≤ s.size := by first | exact fxle (fxle hk1 h1) h2 | exact fxle hk1 h1
  by_cases hef : e2 = 0
  · subst hef
    have hE' : dq s k2 0 = E := by rw [fl_0] at hE; exact hE
    go_wp2_with fail
    have CD := xdone_any b s k2 0 w6 H6.out hkf hs
    rw [show dqx s k2 0 = E from hE'] at CD
    refine CD.mono ?_
    rintro e w19 ⟨rfl, n1, rfl⟩
    have G19 : Hid ((w6.drewN n1).heap[w.heap.size]? = some (.cells #[.int .i64 0, .string ⟨#[]⟩, .int .i64 0, .int .i64 0, .int .i64 0] 24 (0, 0))) := hid G6.out
    have R19 : Hid ((w6.drewN n1).heap[G]? = some (.cells #[.int .i64 3, .string ⟨#[]⟩, .int .i64 0, .int .i64 (wrap64 x2), .int .i64 0] 24 (0, 0))) := hid R6.out
    have B19 : Hid (Below w.heap.size w (w6.drewN n1)) := hid (drewN_bel B6.out n1)
    clear G6 R6 B6 H6 CD
    generalize w6.drewN n1 = w19 at *
    have xx0 : w19.cell? ⟨w.heap.size, 0, none⟩ = some (.int .i64 0) := (cell_of G19.out).trans rfl
    have xx1 : w19.cell? ⟨w.heap.size, 1, none⟩ = some (.string ⟨#[]⟩) := (cell_of G19.out).trans rfl
    have xx2 : w19.cell? ⟨w.heap.size, 2, none⟩ = some (.int .i64 0) := (cell_of G19.out).trans rfl
    have xx3 : w19.cell? ⟨w.heap.size, 3, none⟩ = some (.int .i64 0) := (cell_of G19.out).trans rfl
    have xx4 : w19.cell? ⟨w.heap.size, 4, none⟩ = some (.int .i64 0) := (cell_of G19.out).trans rfl
    have yy0 : w19.cell? ⟨G, 0, none⟩ = some (.int .i64 3) := (cell_of R19.out).trans rfl
    have yy1 : w19.cell? ⟨G, 1, none⟩ = some (.string ⟨#[]⟩) := (cell_of R19.out).trans rfl
    have yy2 : w19.cell? ⟨G, 2, none⟩ = some (.int .i64 0) := (cell_of R19.out).trans rfl
    have yy3 : w19.cell? ⟨G, 3, none⟩ = some (.int .i64 (wrap64 x2)) := (cell_of R19.out).trans rfl
    have yy4 : w19.cell? ⟨G, 4, none⟩ = some (.int .i64 0) := (cell_of R19.out).trans rfl
    by_cases hE0 : E = 0
    · subst hE0
      have gF : (((((w19.setCell ⟨w.heap.size, 0, none⟩ (.int .i64 3)).setCell ⟨w.heap.size, 1, none⟩ (.string ⟨#[]⟩)).setCell ⟨w.heap.size, 2, none⟩ (.int .i64 0)).setCell ⟨w.heap.size, 3, none⟩ (.int .i64 (wrap64 x2))).setCell ⟨w.heap.size, 4, none⟩ (.int .i64 0)).heap[w.heap.size]? = some (.cells #[.int .i64 3, .string ⟨#[]⟩, .int .i64 0, .int .i64 (wrap64 x2), .int .i64 0] 24 (0, 0)) := (heap_set (heap_set (heap_set (heap_set (heap_set G19.out)))))
      have bF : Below w.heap.size w (((((w19.setCell ⟨w.heap.size, 0, none⟩ (.int .i64 3)).setCell ⟨w.heap.size, 1, none⟩ (.string ⟨#[]⟩)).setCell ⟨w.heap.size, 2, none⟩ (.int .i64 0)).setCell ⟨w.heap.size, 3, none⟩ (.int .i64 (wrap64 x2))).setCell ⟨w.heap.size, 4, none⟩ (.int .i64 0)) := (((((B19.out.setCell (Nat.le_refl _) _).setCell (Nat.le_refl _) _).setCell (Nat.le_refl _) _).setCell (Nat.le_refl _) _).setCell (Nat.le_refl _) _)
      have hrF := lt_of_heap G19.out
      have zz0 := froz_of (i := 0) G19.out
      have zz1 := froz_of (i := 1) G19.out
      have zz2 := froz_of (i := 2) G19.out
      have zz3 := froz_of (i := 3) G19.out
      have zz4 := froz_of (i := 4) G19.out
      go_wp2_with fail
      generalize (((((w19.setCell ⟨w.heap.size, 0, none⟩ (.int .i64 3)).setCell ⟨w.heap.size, 1, none⟩ (.string ⟨#[]⟩)).setCell ⟨w.heap.size, 2, none⟩ (.int .i64 0)).setCell ⟨w.heap.size, 3, none⟩ (.int .i64 (wrap64 x2))).setCell ⟨w.heap.size, 4, none⟩ (.int .i64 0)) = wF at *
      have ff0 : wF.cell? ⟨w.heap.size, 0, none⟩ = some (.int .i64 3) := (cell_of gF).trans rfl
      have ff1 : wF.cell? ⟨w.heap.size, 1, none⟩ = some (.string ⟨#[]⟩) := (cell_of gF).trans rfl
      have ff2 : wF.cell? ⟨w.heap.size, 2, none⟩ = some (.int .i64 0) := (cell_of gF).trans rfl
      have ff3 : wF.cell? ⟨w.heap.size, 3, none⟩ = some (.int .i64 (wrap64 x2)) := (cell_of gF).trans rfl
      have ff4 : wF.cell? ⟨w.heap.size, 4, none⟩ = some (.int .i64 0) := (cell_of gF).trans rfl
      exact bodyPost_ret (v := .tuple #[.agg #[.int .i64 3, .string ⟨#[]⟩, .int .i64 0, .int .i64 (wrap64 x2), .int .i64 0], .int .i64 0]) (by simp [results, Tryz.results15, go_sem, ff0, ff1, ff2, ff3, ff4]) rfl ⟨rfl, bF⟩
    · have hne : ((E : Int) != 0) = true := by rw [bne_iff_ne]; omega
      have hne2 : ((E : Int) == 0) = false := by rw [beq_eq_false_iff_ne]; omega
      have gF : (((((w19.setCell ⟨w.heap.size, 0, none⟩ (.int .i64 0)).setCell ⟨w.heap.size, 1, none⟩ (.string ⟨#[]⟩)).setCell ⟨w.heap.size, 2, none⟩ (.int .i64 0)).setCell ⟨w.heap.size, 3, none⟩ (.int .i64 0)).setCell ⟨w.heap.size, 4, none⟩ (.int .i64 0)).heap[w.heap.size]? = some (.cells #[.int .i64 0, .string ⟨#[]⟩, .int .i64 0, .int .i64 0, .int .i64 0] 24 (0, 0)) := (heap_set (heap_set (heap_set (heap_set (heap_set G19.out)))))
      have bF : Below w.heap.size w (((((w19.setCell ⟨w.heap.size, 0, none⟩ (.int .i64 0)).setCell ⟨w.heap.size, 1, none⟩ (.string ⟨#[]⟩)).setCell ⟨w.heap.size, 2, none⟩ (.int .i64 0)).setCell ⟨w.heap.size, 3, none⟩ (.int .i64 0)).setCell ⟨w.heap.size, 4, none⟩ (.int .i64 0)) := (((((B19.out.setCell (Nat.le_refl _) _).setCell (Nat.le_refl _) _).setCell (Nat.le_refl _) _).setCell (Nat.le_refl _) _).setCell (Nat.le_refl _) _)
      have hrF := lt_of_heap G19.out
      have zz0 := froz_of (i := 0) G19.out
      have zz1 := froz_of (i := 1) G19.out
      have zz2 := froz_of (i := 2) G19.out
      have zz3 := froz_of (i := 3) G19.out
      have zz4 := froz_of (i := 4) G19.out
      go_wp2_with fail
      generalize (((((w19.setCell ⟨w.heap.size, 0, none⟩ (.int .i64 0)).setCell ⟨w.heap.size, 1, none⟩ (.string ⟨#[]⟩)).setCell ⟨w.heap.size, 2, none⟩ (.int .i64 0)).setCell ⟨w.heap.size, 3, none⟩ (.int .i64 0)).setCell ⟨w.heap.size, 4, none⟩ (.int .i64 0)) = wF at *
      have ff0 : wF.cell? ⟨w.heap.size, 0, none⟩ = some (.int .i64 0) := (cell_of gF).trans rfl
      have ff1 : wF.cell? ⟨w.heap.size, 1, none⟩ = some (.string ⟨#[]⟩) := (cell_of gF).trans rfl
      have ff2 : wF.cell? ⟨w.heap.size, 2, none⟩ = some (.int .i64 0) := (cell_of gF).trans rfl
      have ff3 : wF.cell? ⟨w.heap.size, 3, none⟩ = some (.int .i64 0) := (cell_of gF).trans rfl
      have ff4 : wF.cell? ⟨w.heap.size, 4, none⟩ = some (.int .i64 0) := (cell_of gF).trans rfl
      exact bodyPost_ret (v := .tuple #[.agg #[.int .i64 0, .string ⟨#[]⟩, .int .i64 0, .int .i64 0, .int .i64 0], .int .i64 E]) (by simp [results, Tryz.results15, go_sem, ff0, ff1, ff2, ff3, ff4]) rfl ⟨by rw [ra2_no hE0], bF⟩
  · have hE0 : E = e2 := by rw [fl_0, dq_bad hef] at hE; exact hE.symm
    subst hE0
    have hne : ((E : Int) != 0) = true := by rw [bne_iff_ne]; omega
    have hne2 : ((E : Int) == 0) = false := by rw [beq_eq_false_iff_ne]; omega
    have xx0 : w6.cell? ⟨w.heap.size, 0, none⟩ = some (.int .i64 0) := (cell_of G6.out).trans rfl
    have xx1 : w6.cell? ⟨w.heap.size, 1, none⟩ = some (.string ⟨#[]⟩) := (cell_of G6.out).trans rfl
    have xx2 : w6.cell? ⟨w.heap.size, 2, none⟩ = some (.int .i64 0) := (cell_of G6.out).trans rfl
    have xx3 : w6.cell? ⟨w.heap.size, 3, none⟩ = some (.int .i64 0) := (cell_of G6.out).trans rfl
    have xx4 : w6.cell? ⟨w.heap.size, 4, none⟩ = some (.int .i64 0) := (cell_of G6.out).trans rfl
    have gF : (((((w6.setCell ⟨w.heap.size, 0, none⟩ (.int .i64 0)).setCell ⟨w.heap.size, 1, none⟩ (.string ⟨#[]⟩)).setCell ⟨w.heap.size, 2, none⟩ (.int .i64 0)).setCell ⟨w.heap.size, 3, none⟩ (.int .i64 0)).setCell ⟨w.heap.size, 4, none⟩ (.int .i64 0)).heap[w.heap.size]? = some (.cells #[.int .i64 0, .string ⟨#[]⟩, .int .i64 0, .int .i64 0, .int .i64 0] 24 (0, 0)) := (heap_set (heap_set (heap_set (heap_set (heap_set G6.out)))))
    have bF : Below w.heap.size w (((((w6.setCell ⟨w.heap.size, 0, none⟩ (.int .i64 0)).setCell ⟨w.heap.size, 1, none⟩ (.string ⟨#[]⟩)).setCell ⟨w.heap.size, 2, none⟩ (.int .i64 0)).setCell ⟨w.heap.size, 3, none⟩ (.int .i64 0)).setCell ⟨w.heap.size, 4, none⟩ (.int .i64 0)) := (((((B6.out.setCell (Nat.le_refl _) _).setCell (Nat.le_refl _) _).setCell (Nat.le_refl _) _).setCell (Nat.le_refl _) _).setCell (Nat.le_refl _) _)
    have hrF := lt_of_heap G6.out
    have zz0 := froz_of (i := 0) G6.out
    have zz1 := froz_of (i := 1) G6.out
    have zz2 := froz_of (i := 2) G6.out
    have zz3 := froz_of (i := 3) G6.out
    have zz4 := froz_of (i := 4) G6.out
    go_wp2_with fail
    generalize (((((w6.setCell ⟨w.heap.size, 0, none⟩ (.int .i64 0)).setCell ⟨w.heap.size, 1, none⟩ (.string ⟨#[]⟩)).setCell ⟨w.heap.size, 2, none⟩ (.int .i64 0)).setCell ⟨w.heap.size, 3, none⟩ (.int .i64 0)).setCell ⟨w.heap.size, 4, none⟩ (.int .i64 0)) = wF at *
    have ff0 : wF.cell? ⟨w.heap.size, 0, none⟩ = some (.int .i64 0) := (cell_of gF).trans rfl
    have ff1 : wF.cell? ⟨w.heap.size, 1, none⟩ = some (.string ⟨#[]⟩) := (cell_of gF).trans rfl
    have ff2 : wF.cell? ⟨w.heap.size, 2, none⟩ = some (.int .i64 0) := (cell_of gF).trans rfl
    have ff3 : wF.cell? ⟨w.heap.size, 3, none⟩ = some (.int .i64 0) := (cell_of gF).trans rfl
    have ff4 : wF.cell? ⟨w.heap.size, 4, none⟩ = some (.int .i64 0) := (cell_of gF).trans rfl
    exact bodyPost_ret (v := .tuple #[.agg #[.int .i64 0, .string ⟨#[]⟩, .int .i64 0, .int .i64 0, .int .i64 0], .int .i64 E]) (by simp [results, Tryz.results15, go_sem, ff0, ff1, ff2, ff3, ff4]) rfl ⟨by rw [ra2_no hef], bF⟩
set_option maxHeartbeats 1000000 in
set_option maxRecDepth 20000 in
theorem zrsk_4 (s : ByteArray) (E : Nat) (w : World) (hs : s.size ≤ 9223372036854775807) (h0 : fx 1 s 0 0 = (4, 1, 0)) (hE : fl 0 (dq s 1 0) = E) :
    Calls Tryz.prog 15 #[.string s] w fun e w' => e = .returned (ra2 #[.int .i64 4, .string ⟨#[]⟩, .int .i64 0, .int .i64 0, .int .i64 0] #[.int .i64 0, .string ⟨#[]⟩, .int .i64 0, .int .i64 0, .int .i64 0] E) ∧ Below w.heap.size w w' := by
  have hk1 := fxle (Nat.zero_le _) h0
  have g1 : (w.alloc (.cells #[.int .i64 0, .string ⟨#[]⟩, .int .i64 0, .int .i64 0, .int .i64 0] 24)).heap[w.heap.size]? = some (.cells #[.int .i64 0, .string ⟨#[]⟩, .int .i64 0, .int .i64 0, .int .i64 0] 24 (0, 0)) := heap_new _ _
  have b1 : Below w.heap.size w (w.alloc (.cells #[.int .i64 0, .string ⟨#[]⟩, .int .i64 0, .int .i64 0, .int .i64 0] 24)) := (Below.refl _ _).alloc (Nat.le_refl _) _
  go_enter Tryz.func15, Tryz.ntmps15
  go_wp2_with fail
  generalize w.alloc (.cells #[.int .i64 0, .string ⟨#[]⟩, .int .i64 0, .int .i64 0, .int .i64 0] 24) = w1 at *
  refine (xnew_any s w1).mono ?_
  rintro e w2 ⟨rfl, rfl⟩
  have h2 : RX (w1.alloc (.cells #[.string s, .int .i64 0, .int .i64 0] 113)) w1.heap.size s 0 0 := heap_new _ _
  have g2 : (w1.alloc (.cells #[.string s, .int .i64 0, .int .i64 0] 113)).heap[w.heap.size]? = some (.cells #[.int .i64 0, .string ⟨#[]⟩, .int .i64 0, .int .i64 0, .int .i64 0] 24 (0, 0)) := heap_alloc_at g1
  have b2 : Below w.heap.size w (w1.alloc (.cells #[.string s, .int .i64 0, .int .i64 0] 113)) := b1.alloc b1.size _
  have hbb : w.heap.size < w1.heap.size := lt_of_heap g1
  have G2 := hid g2
  have B2 := hid b2
  clear g1 b1 g2 b2
  go_wp2_with fail
  generalize w1.alloc (.cells #[.string s, .int .i64 0, .int .i64 0] 113) = w2 at *
  generalize w1.heap.size = b at *
  have CU := xu8_any b s 0 0 w2 h2 (Nat.zero_le _) hs
  rw [h0] at CU
  dsimp only at CU
  refine CU.mono ?_
  rintro e w3 ⟨rfl, h3, hc3⟩
  have G3 : Hid (w3.heap[w.heap.size]? = some (.cells #[.int .i64 0, .string ⟨#[]⟩, .int .i64 0, .int .i64 0, .int .i64 0] 24 (0, 0))) := hid ((hc3.block _ (lt_of_heap G2.out) (by omega)).trans G2.out)
  have B3 : Hid (Below w.heap.size w w3) := hid (B2.out.trans (hc3.below B2.out.size (fun i hi h => by omega)))
  clear hc3 G2 B2 h2 CU
  have h4 : RX (w3.alloc (.cells #[.int .i64 4, .string ⟨#[]⟩, .int .i64 0, .int .i64 0, .int .i64 0] 24)) b s 1 0 := h3.alloc _
  have r4 : (w3.alloc (.cells #[.int .i64 4, .string ⟨#[]⟩, .int .i64 0, .int .i64 0, .int .i64 0] 24)).heap[w3.heap.size]? = some (.cells #[.int .i64 4, .string ⟨#[]⟩, .int .i64 0, .int .i64 0, .int .i64 0] 24 (0, 0)) := heap_new _ _
  have G4 : Hid ((w3.alloc (.cells #[.int .i64 4, .string ⟨#[]⟩, .int .i64 0, .int .i64 0, .int .i64 0] 24)).heap[w.heap.size]? = some (.cells #[.int .i64 0, .string ⟨#[]⟩, .int .i64 0, .int .i64 0, .int .i64 0] 24 (0, 0))) := hid (heap_alloc_at G3.out)
  have B4 : Hid (Below w.heap.size w (w3.alloc (.cells #[.int .i64 4, .string ⟨#[]⟩, .int .i64 0, .int .i64 0, .int .i64 0] 24))) := hid (B3.out.alloc B3.out.size _)
  have hGG : w3.heap.size ≠ b ∧ w.heap.size < w3.heap.size := ⟨by have := h3.lt; omega, lt_of_heap G3.out⟩
  clear G3 B3 h3
  go_wp2_with fail
  generalize (w3.alloc (.cells #[.int .i64 4, .string ⟨#[]⟩, .int .i64 0, .int .i64 0, .int .i64 0] 24)) = w4 at *
  generalize w3.heap.size = G at *
  refine (xknown_yes _ _ (by omega)).mono ?_
  rintro e w4 ⟨rfl, rfl⟩
  have k4 : w4.cell? ⟨G, 0, none⟩ = some (.int .i64 4) := (cell_of r4).trans rfl
  have R4 := hid r4
  have H4 := hid h4
  clear r4 h4
  have hE' : dq s 1 0 = E := by rw [fl_0] at hE; exact hE
  have hkf : 1 ≤ s.size := by first | exact hL | exact hk1
  go_wp2_with fail
  have CD := xdone_any b s 1 0 w4 H4.out hkf hs
  rw [show dqx s 1 0 = E from hE'] at CD
  refine CD.mono ?_
  rintro e w19 ⟨rfl, n1, rfl⟩
  have G19 : Hid ((w4.drewN n1).heap[w.heap.size]? = some (.cells #[.int .i64 0, .string ⟨#[]⟩, .int .i64 0, .int .i64 0, .int .i64 0] 24 (0, 0))) := hid G4.out
  have R19 : Hid ((w4.drewN n1).heap[G]? = some (.cells #[.int .i64 4, .string ⟨#[]⟩, .int .i64 0, .int .i64 0, .int .i64 0] 24 (0, 0))) := hid R4.out
  have B19 : Hid (Below w.heap.size w (w4.drewN n1)) := hid (drewN_bel B4.out n1)
  clear G4 R4 B4 H4 CD
  generalize w4.drewN n1 = w19 at *
  have xx0 : w19.cell? ⟨w.heap.size, 0, none⟩ = some (.int .i64 0) := (cell_of G19.out).trans rfl
  have xx1 : w19.cell? ⟨w.heap.size, 1, none⟩ = some (.string ⟨#[]⟩) := (cell_of G19.out).trans rfl
  have xx2 : w19.cell? ⟨w.heap.size, 2, none⟩ = some (.int .i64 0) := (cell_of G19.out).trans rfl
  have xx3 : w19.cell? ⟨w.heap.size, 3, none⟩ = some (.int .i64 0) := (cell_of G19.out).trans rfl
  have xx4 : w19.cell? ⟨w.heap.size, 4, none⟩ = some (.int .i64 0) := (cell_of G19.out).trans rfl
  have yy0 : w19.cell? ⟨G, 0, none⟩ = some (.int .i64 4) := (cell_of R19.out).trans rfl
  have yy1 : w19.cell? ⟨G, 1, none⟩ = some (.string ⟨#[]⟩) := (cell_of R19.out).trans rfl
  have yy2 : w19.cell? ⟨G, 2, none⟩ = some (.int .i64 0) := (cell_of R19.out).trans rfl
  have yy3 : w19.cell? ⟨G, 3, none⟩ = some (.int .i64 0) := (cell_of R19.out).trans rfl
  have yy4 : w19.cell? ⟨G, 4, none⟩ = some (.int .i64 0) := (cell_of R19.out).trans rfl
  by_cases hE0 : E = 0
  · subst hE0
    have gF : (((((w19.setCell ⟨w.heap.size, 0, none⟩ (.int .i64 4)).setCell ⟨w.heap.size, 1, none⟩ (.string ⟨#[]⟩)).setCell ⟨w.heap.size, 2, none⟩ (.int .i64 0)).setCell ⟨w.heap.size, 3, none⟩ (.int .i64 0)).setCell ⟨w.heap.size, 4, none⟩ (.int .i64 0)).heap[w.heap.size]? = some (.cells #[.int .i64 4, .string ⟨#[]⟩, .int .i64 0, .int .i64 0, .int .i64 0] 24 (0, 0)) := (heap_set (heap_set (heap_set (heap_set (heap_set G19.out)))))
    have bF : Below w.heap.size w (((((w19.setCell ⟨w.heap.size, 0, none⟩ (.int .i64 4)).setCell ⟨w.heap.size, 1, none⟩ (.string ⟨#[]⟩)).setCell ⟨w.heap.size, 2, none⟩ (.int .i64 0)).setCell ⟨w.heap.size, 3, none⟩ (.int .i64 0)).setCell ⟨w.heap.size, 4, none⟩ (.int .i64 0)) := (((((B19.out.setCell (Nat.le_refl _) _).setCell (Nat.le_refl _) _).setCell (Nat.le_refl _) _).setCell (Nat.le_refl _) _).setCell (Nat.le_refl _) _)
    have hrF := lt_of_heap G19.out
    have zz0 := froz_of (i := 0) G19.out
    have zz1 := froz_of (i := 1) G19.out
    have zz2 := froz_of (i := 2) G19.out
    have zz3 := froz_of (i := 3) G19.out
    have zz4 := froz_of (i := 4) G19.out
    go_wp2_with fail
    generalize (((((w19.setCell ⟨w.heap.size, 0, none⟩ (.int .i64 4)).setCell ⟨w.heap.size, 1, none⟩ (.string ⟨#[]⟩)).setCell ⟨w.heap.size, 2, none⟩ (.int .i64 0)).setCell ⟨w.heap.size, 3, none⟩ (.int .i64 0)).setCell ⟨w.heap.size, 4, none⟩ (.int .i64 0)) = wF at *
    have ff0 : wF.cell? ⟨w.heap.size, 0, none⟩ = some (.int .i64 4) := (cell_of gF).trans rfl
    have ff1 : wF.cell? ⟨w.heap.size, 1, none⟩ = some (.string ⟨#[]⟩) := (cell_of gF).trans rfl
    have ff2 : wF.cell? ⟨w.heap.size, 2, none⟩ = some (.int .i64 0) := (cell_of gF).trans rfl
    have ff3 : wF.cell? ⟨w.heap.size, 3, none⟩ = some (.int .i64 0) := (cell_of gF).trans rfl
    have ff4 : wF.cell? ⟨w.heap.size, 4, none⟩ = some (.int .i64 0) := (cell_of gF).trans rfl
    exact bodyPost_ret (v := .tuple #[.agg #[.int .i64 4, .string ⟨#[]⟩, .int .i64 0, .int .i64 0, .int .i64 0], .int .i64 0]) (by simp [results, Tryz.results15, go_sem, ff0, ff1, ff2, ff3, ff4]) rfl ⟨rfl, bF⟩
  · have hne : ((E : Int) != 0) = true := by rw [bne_iff_ne]; omega
    have hne2 : ((E : Int) == 0) = false := by rw [beq_eq_false_iff_ne]; omega
    have gF : (((((w19.setCell ⟨w.heap.size, 0, none⟩ (.int .i64 0)).setCell ⟨w.heap.size, 1, none⟩ (.string ⟨#[]⟩)).setCell ⟨w.heap.size, 2, none⟩ (.int .i64 0)).setCell ⟨w.heap.size, 3, none⟩ (.int .i64 0)).setCell ⟨w.heap.size, 4, none⟩ (.int .i64 0)).heap[w.heap.size]? = some (.cells #[.int .i64 0, .string ⟨#[]⟩, .int .i64 0, .int .i64 0, .int .i64 0] 24 (0, 0)) := (heap_set (heap_set (heap_set (heap_set (heap_set G19.out)))))
    have bF : Below w.heap.size w (((((w19.setCell ⟨w.heap.size, 0, none⟩ (.int .i64 0)).setCell ⟨w.heap.size, 1, none⟩ (.string ⟨#[]⟩)).setCell ⟨w.heap.size, 2, none⟩ (.int .i64 0)).setCell ⟨w.heap.size, 3, none⟩ (.int .i64 0)).setCell ⟨w.heap.size, 4, none⟩ (.int .i64 0)) := (((((B19.out.setCell (Nat.le_refl _) _).setCell (Nat.le_refl _) _).setCell (Nat.le_refl _) _).setCell (Nat.le_refl _) _).setCell (Nat.le_refl _) _)
    have hrF := lt_of_heap G19.out
    have zz0 := froz_of (i := 0) G19.out
    have zz1 := froz_of (i := 1) G19.out
    have zz2 := froz_of (i := 2) G19.out
    have zz3 := froz_of (i := 3) G19.out
    have zz4 := froz_of (i := 4) G19.out
    go_wp2_with fail
    generalize (((((w19.setCell ⟨w.heap.size, 0, none⟩ (.int .i64 0)).setCell ⟨w.heap.size, 1, none⟩ (.string ⟨#[]⟩)).setCell ⟨w.heap.size, 2, none⟩ (.int .i64 0)).setCell ⟨w.heap.size, 3, none⟩ (.int .i64 0)).setCell ⟨w.heap.size, 4, none⟩ (.int .i64 0)) = wF at *
    have ff0 : wF.cell? ⟨w.heap.size, 0, none⟩ = some (.int .i64 0) := (cell_of gF).trans rfl
    have ff1 : wF.cell? ⟨w.heap.size, 1, none⟩ = some (.string ⟨#[]⟩) := (cell_of gF).trans rfl
    have ff2 : wF.cell? ⟨w.heap.size, 2, none⟩ = some (.int .i64 0) := (cell_of gF).trans rfl
    have ff3 : wF.cell? ⟨w.heap.size, 3, none⟩ = some (.int .i64 0) := (cell_of gF).trans rfl
    have ff4 : wF.cell? ⟨w.heap.size, 4, none⟩ = some (.int .i64 0) := (cell_of gF).trans rfl
    exact bodyPost_ret (v := .tuple #[.agg #[.int .i64 0, .string ⟨#[]⟩, .int .i64 0, .int .i64 0, .int .i64 0], .int .i64 E]) (by simp [results, Tryz.results15, go_sem, ff0, ff1, ff2, ff3, ff4]) rfl ⟨by rw [ra2_no hE0], bF⟩
set_option maxHeartbeats 1000000 in
set_option maxRecDepth 20000 in
theorem zrsk_5 (s : ByteArray) (x2 k2 e2 E : Nat) (w : World) (hs : s.size ≤ 9223372036854775807) (h0 : fx 1 s 0 0 = (5, 1, 0)) (h1 : fx 8 s 1 0 = (x2, k2, e2)) (hE : fl 0 (dq s k2 e2) = E) :
    Calls Tryz.prog 15 #[.string s] w fun e w' => e = .returned (ra2 #[.int .i64 5, .string ⟨#[]⟩, .int .i64 (wrap64 x2), .int .i64 0, .int .i64 0] #[.int .i64 0, .string ⟨#[]⟩, .int .i64 0, .int .i64 0, .int .i64 0] E) ∧ Below w.heap.size w w' := by
  have hk1 := fxle (Nat.zero_le _) h0
  have g1 : (w.alloc (.cells #[.int .i64 0, .string ⟨#[]⟩, .int .i64 0, .int .i64 0, .int .i64 0] 24)).heap[w.heap.size]? = some (.cells #[.int .i64 0, .string ⟨#[]⟩, .int .i64 0, .int .i64 0, .int .i64 0] 24 (0, 0)) := heap_new _ _
  have b1 : Below w.heap.size w (w.alloc (.cells #[.int .i64 0, .string ⟨#[]⟩, .int .i64 0, .int .i64 0, .int .i64 0] 24)) := (Below.refl _ _).alloc (Nat.le_refl _) _
  go_enter Tryz.func15, Tryz.ntmps15
  go_wp2_with fail
  generalize w.alloc (.cells #[.int .i64 0, .string ⟨#[]⟩, .int .i64 0, .int .i64 0, .int .i64 0] 24) = w1 at *
  refine (xnew_any s w1).mono ?_
  rintro e w2 ⟨rfl, rfl⟩
  have h2 : RX (w1.alloc (.cells #[.string s, .int .i64 0, .int .i64 0] 113)) w1.heap.size s 0 0 := heap_new _ _
  have g2 : (w1.alloc (.cells #[.string s, .int .i64 0, .int .i64 0] 113)).heap[w.heap.size]? = some (.cells #[.int .i64 0, .string ⟨#[]⟩, .int .i64 0, .int .i64 0, .int .i64 0] 24 (0, 0)) := heap_alloc_at g1
  have b2 : Below w.heap.size w (w1.alloc (.cells #[.string s, .int .i64 0, .int .i64 0] 113)) := b1.alloc b1.size _
  have hbb : w.heap.size < w1.heap.size := lt_of_heap g1
  have G2 := hid g2
  have B2 := hid b2
  clear g1 b1 g2 b2
  go_wp2_with fail
  generalize w1.alloc (.cells #[.string s, .int .i64 0, .int .i64 0] 113) = w2 at *
  generalize w1.heap.size = b at *
  have CU := xu8_any b s 0 0 w2 h2 (Nat.zero_le _) hs
  rw [h0] at CU
  dsimp only at CU
  refine CU.mono ?_
  rintro e w3 ⟨rfl, h3, hc3⟩
  have G3 : Hid (w3.heap[w.heap.size]? = some (.cells #[.int .i64 0, .string ⟨#[]⟩, .int .i64 0, .int .i64 0, .int .i64 0] 24 (0, 0))) := hid ((hc3.block _ (lt_of_heap G2.out) (by omega)).trans G2.out)
  have B3 : Hid (Below w.heap.size w w3) := hid (B2.out.trans (hc3.below B2.out.size (fun i hi h => by omega)))
  clear hc3 G2 B2 h2 CU
  have h4 : RX (w3.alloc (.cells #[.int .i64 5, .string ⟨#[]⟩, .int .i64 0, .int .i64 0, .int .i64 0] 24)) b s 1 0 := h3.alloc _
  have r4 : (w3.alloc (.cells #[.int .i64 5, .string ⟨#[]⟩, .int .i64 0, .int .i64 0, .int .i64 0] 24)).heap[w3.heap.size]? = some (.cells #[.int .i64 5, .string ⟨#[]⟩, .int .i64 0, .int .i64 0, .int .i64 0] 24 (0, 0)) := heap_new _ _
  have G4 : Hid ((w3.alloc (.cells #[.int .i64 5, .string ⟨#[]⟩, .int .i64 0, .int .i64 0, .int .i64 0] 24)).heap[w.heap.size]? = some (.cells #[.int .i64 0, .string ⟨#[]⟩, .int .i64 0, .int .i64 0, .int .i64 0] 24 (0, 0))) := hid (heap_alloc_at G3.out)
  have B4 : Hid (Below w.heap.size w (w3.alloc (.cells #[.int .i64 5, .string ⟨#[]⟩, .int .i64 0, .int .i64 0, .int .i64 0] 24))) := hid (B3.out.alloc B3.out.size _)
  have hGG : w3.heap.size ≠ b ∧ w.heap.size < w3.heap.size := ⟨by have := h3.lt; omega, lt_of_heap G3.out⟩
  clear G3 B3 h3
  go_wp2_with fail
  generalize (w3.alloc (.cells #[.int .i64 5, .string ⟨#[]⟩, .int .i64 0, .int .i64 0, .int .i64 0] 24)) = w4 at *
  generalize w3.heap.size = G at *
  refine (xknown_yes _ _ (by omega)).mono ?_
  rintro e w4 ⟨rfl, rfl⟩
  have k4 : w4.cell? ⟨G, 0, none⟩ = some (.int .i64 5) := (cell_of r4).trans rfl
  have R4 := hid r4
  have H4 := hid h4
  clear r4 h4
  go_wp2_with fail
  have CN := (show Calls _ _ _ _ (AnsX b s (.int .i64 (wrap64 x2)) k2 e2 w4) from by have C := xi64_any b s 1 0 w4 H4.out hk1 hs; rw [h1] at C; exact C)
  refine CN.mono ?_
  rintro e w5 ⟨rfl, h5, hc5⟩
  have r5 : w5.heap[G]? = some (.cells #[.int .i64 5, .string ⟨#[]⟩, .int .i64 0, .int .i64 0, .int .i64 0] 24 (0, 0)) := (hc5.block _ (lt_of_heap R4.out) hGG.1).trans R4.out
  have d4 : w5.cell? ⟨G, 2, none⟩ = some (.int .i64 0) := (cell_of r5).trans rfl
  have z4 := froz_of (i := 2) r5
  have G6 : Hid ((w5.setCell ⟨G, 2, none⟩ (.int .i64 (wrap64 x2))).heap[w.heap.size]? = some (.cells #[.int .i64 0, .string ⟨#[]⟩, .int .i64 0, .int .i64 0, .int .i64 0] 24 (0, 0))) := hid (heap_set_far ((hc5.block _ (lt_of_heap G4.out) (by omega)).trans G4.out) (by show w.heap.size ≠ G; omega))
  have B6 : Hid (Below w.heap.size w (w5.setCell ⟨G, 2, none⟩ (.int .i64 (wrap64 x2)))) := hid ((B4.out.trans (hc5.below B4.out.size (fun i hi h => by omega))).setCell (by show w.heap.size ≤ G; omega) _)
  have R6 : Hid ((w5.setCell ⟨G, 2, none⟩ (.int .i64 (wrap64 x2))).heap[G]? = some (.cells #[.int .i64 5, .string ⟨#[]⟩, .int .i64 (wrap64 x2), .int .i64 0, .int .i64 0] 24 (0, 0))) := hid (heap_set r5)
  have H6 : Hid (RX (w5.setCell ⟨G, 2, none⟩ (.int .i64 (wrap64 x2))) b s k2 e2) := hid (rx_set h5 hGG.1)
  clear r5 h5 hc5 R4 H4 G4 B4 CN k4
  go_upto_region 20 with fail
  generalize w5.setCell ⟨G, 2, none⟩ (.int .i64 (wrap64 x2)) = w6 at *
  have hkf : k2 ≤ s.size := by first | exact fxle (fxle hk1 h1) h2 | exact fxle hk1 h1
  by_cases hef : e2 = 0
  · subst hef
    have hE' : dq s k2 0 = E := by rw [fl_0] at hE; exact hE
    go_wp2_with fail
    have CD := xdone_any b s k2 0 w6 H6.out hkf hs
    rw [show dqx s k2 0 = E from hE'] at CD
    refine CD.mono ?_
    rintro e w19 ⟨rfl, n1, rfl⟩
    have G19 : Hid ((w6.drewN n1).heap[w.heap.size]? = some (.cells #[.int .i64 0, .string ⟨#[]⟩, .int .i64 0, .int .i64 0, .int .i64 0] 24 (0, 0))) := hid G6.out
    have R19 : Hid ((w6.drewN n1).heap[G]? = some (.cells #[.int .i64 5, .string ⟨#[]⟩, .int .i64 (wrap64 x2), .int .i64 0, .int .i64 0] 24 (0, 0))) := hid R6.out
    have B19 : Hid (Below w.heap.size w (w6.drewN n1)) := hid (drewN_bel B6.out n1)
    clear G6 R6 B6 H6 CD
    generalize w6.drewN n1 = w19 at *
    have xx0 : w19.cell? ⟨w.heap.size, 0, none⟩ = some (.int .i64 0) := (cell_of G19.out).trans rfl
    have xx1 : w19.cell? ⟨w.heap.size, 1, none⟩ = some (.string ⟨#[]⟩) := (cell_of G19.out).trans rfl
    have xx2 : w19.cell? ⟨w.heap.size, 2, none⟩ = some (.int .i64 0) := (cell_of G19.out).trans rfl
    have xx3 : w19.cell? ⟨w.heap.size, 3, none⟩ = some (.int .i64 0) := (cell_of G19.out).trans rfl
    have xx4 : w19.cell? ⟨w.heap.size, 4, none⟩ = some (.int .i64 0) := (cell_of G19.out).trans rfl
    have yy0 : w19.cell? ⟨G, 0, none⟩ = some (.int .i64 5) := (cell_of R19.out).trans rfl
    have yy1 : w19.cell? ⟨G, 1, none⟩ = some (.string ⟨#[]⟩) := (cell_of R19.out).trans rfl
    have yy2 : w19.cell? ⟨G, 2, none⟩ = some (.int .i64 (wrap64 x2)) := (cell_of R19.out).trans rfl
    have yy3 : w19.cell? ⟨G, 3, none⟩ = some (.int .i64 0) := (cell_of R19.out).trans rfl
    have yy4 : w19.cell? ⟨G, 4, none⟩ = some (.int .i64 0) := (cell_of R19.out).trans rfl
    by_cases hE0 : E = 0
    · subst hE0
      have gF : (((((w19.setCell ⟨w.heap.size, 0, none⟩ (.int .i64 5)).setCell ⟨w.heap.size, 1, none⟩ (.string ⟨#[]⟩)).setCell ⟨w.heap.size, 2, none⟩ (.int .i64 (wrap64 x2))).setCell ⟨w.heap.size, 3, none⟩ (.int .i64 0)).setCell ⟨w.heap.size, 4, none⟩ (.int .i64 0)).heap[w.heap.size]? = some (.cells #[.int .i64 5, .string ⟨#[]⟩, .int .i64 (wrap64 x2), .int .i64 0, .int .i64 0] 24 (0, 0)) := (heap_set (heap_set (heap_set (heap_set (heap_set G19.out)))))
      have bF : Below w.heap.size w (((((w19.setCell ⟨w.heap.size, 0, none⟩ (.int .i64 5)).setCell ⟨w.heap.size, 1, none⟩ (.string ⟨#[]⟩)).setCell ⟨w.heap.size, 2, none⟩ (.int .i64 (wrap64 x2))).setCell ⟨w.heap.size, 3, none⟩ (.int .i64 0)).setCell ⟨w.heap.size, 4, none⟩ (.int .i64 0)) := (((((B19.out.setCell (Nat.le_refl _) _).setCell (Nat.le_refl _) _).setCell (Nat.le_refl _) _).setCell (Nat.le_refl _) _).setCell (Nat.le_refl _) _)
      have hrF := lt_of_heap G19.out
      have zz0 := froz_of (i := 0) G19.out
      have zz1 := froz_of (i := 1) G19.out
      have zz2 := froz_of (i := 2) G19.out
      have zz3 := froz_of (i := 3) G19.out
      have zz4 := froz_of (i := 4) G19.out
      go_wp2_with fail
      generalize (((((w19.setCell ⟨w.heap.size, 0, none⟩ (.int .i64 5)).setCell ⟨w.heap.size, 1, none⟩ (.string ⟨#[]⟩)).setCell ⟨w.heap.size, 2, none⟩ (.int .i64 (wrap64 x2))).setCell ⟨w.heap.size, 3, none⟩ (.int .i64 0)).setCell ⟨w.heap.size, 4, none⟩ (.int .i64 0)) = wF at *
      have ff0 : wF.cell? ⟨w.heap.size, 0, none⟩ = some (.int .i64 5) := (cell_of gF).trans rfl
      have ff1 : wF.cell? ⟨w.heap.size, 1, none⟩ = some (.string ⟨#[]⟩) := (cell_of gF).trans rfl
      have ff2 : wF.cell? ⟨w.heap.size, 2, none⟩ = some (.int .i64 (wrap64 x2)) := (cell_of gF).trans rfl
      have ff3 : wF.cell? ⟨w.heap.size, 3, none⟩ = some (.int .i64 0) := (cell_of gF).trans rfl
      have ff4 : wF.cell? ⟨w.heap.size, 4, none⟩ = some (.int .i64 0) := (cell_of gF).trans rfl
      exact bodyPost_ret (v := .tuple #[.agg #[.int .i64 5, .string ⟨#[]⟩, .int .i64 (wrap64 x2), .int .i64 0, .int .i64 0], .int .i64 0]) (by simp [results, Tryz.results15, go_sem, ff0, ff1, ff2, ff3, ff4]) rfl ⟨rfl, bF⟩
    · have hne : ((E : Int) != 0) = true := by rw [bne_iff_ne]; omega
      have hne2 : ((E : Int) == 0) = false := by rw [beq_eq_false_iff_ne]; omega
      have gF : (((((w19.setCell ⟨w.heap.size, 0, none⟩ (.int .i64 0)).setCell ⟨w.heap.size, 1, none⟩ (.string ⟨#[]⟩)).setCell ⟨w.heap.size, 2, none⟩ (.int .i64 0)).setCell ⟨w.heap.size, 3, none⟩ (.int .i64 0)).setCell ⟨w.heap.size, 4, none⟩ (.int .i64 0)).heap[w.heap.size]? = some (.cells #[.int .i64 0, .string ⟨#[]⟩, .int .i64 0, .int .i64 0, .int .i64 0] 24 (0, 0)) := (heap_set (heap_set (heap_set (heap_set (heap_set G19.out)))))
      have bF : Below w.heap.size w (((((w19.setCell ⟨w.heap.size, 0, none⟩ (.int .i64 0)).setCell ⟨w.heap.size, 1, none⟩ (.string ⟨#[]⟩)).setCell ⟨w.heap.size, 2, none⟩ (.int .i64 0)).setCell ⟨w.heap.size, 3, none⟩ (.int .i64 0)).setCell ⟨w.heap.size, 4, none⟩ (.int .i64 0)) := (((((B19.out.setCell (Nat.le_refl _) _).setCell (Nat.le_refl _) _).setCell (Nat.le_refl _) _).setCell (Nat.le_refl _) _).setCell (Nat.le_refl _) _)
      have hrF := lt_of_heap G19.out
      have zz0 := froz_of (i := 0) G19.out
      have zz1 := froz_of (i := 1) G19.out
      have zz2 := froz_of (i := 2) G19.out
      have zz3 := froz_of (i := 3) G19.out
      have zz4 := froz_of (i := 4) G19.out
      go_wp2_with fail
      generalize (((((w19.setCell ⟨w.heap.size, 0, none⟩ (.int .i64 0)).setCell ⟨w.heap.size, 1, none⟩ (.string ⟨#[]⟩)).setCell ⟨w.heap.size, 2, none⟩ (.int .i64 0)).setCell ⟨w.heap.size, 3, none⟩ (.int .i64 0)).setCell ⟨w.heap.size, 4, none⟩ (.int .i64 0)) = wF at *
      have ff0 : wF.cell? ⟨w.heap.size, 0, none⟩ = some (.int .i64 0) := (cell_of gF).trans rfl
      have ff1 : wF.cell? ⟨w.heap.size, 1, none⟩ = some (.string ⟨#[]⟩) := (cell_of gF).trans rfl
      have ff2 : wF.cell? ⟨w.heap.size, 2, none⟩ = some (.int .i64 0) := (cell_of gF).trans rfl
      have ff3 : wF.cell? ⟨w.heap.size, 3, none⟩ = some (.int .i64 0) := (cell_of gF).trans rfl
      have ff4 : wF.cell? ⟨w.heap.size, 4, none⟩ = some (.int .i64 0) := (cell_of gF).trans rfl
      exact bodyPost_ret (v := .tuple #[.agg #[.int .i64 0, .string ⟨#[]⟩, .int .i64 0, .int .i64 0, .int .i64 0], .int .i64 E]) (by simp [results, Tryz.results15, go_sem, ff0, ff1, ff2, ff3, ff4]) rfl ⟨by rw [ra2_no hE0], bF⟩
  · have hE0 : E = e2 := by rw [fl_0, dq_bad hef] at hE; exact hE.symm
    subst hE0
    have hne : ((E : Int) != 0) = true := by rw [bne_iff_ne]; omega
    have hne2 : ((E : Int) == 0) = false := by rw [beq_eq_false_iff_ne]; omega
    have xx0 : w6.cell? ⟨w.heap.size, 0, none⟩ = some (.int .i64 0) := (cell_of G6.out).trans rfl
    have xx1 : w6.cell? ⟨w.heap.size, 1, none⟩ = some (.string ⟨#[]⟩) := (cell_of G6.out).trans rfl
    have xx2 : w6.cell? ⟨w.heap.size, 2, none⟩ = some (.int .i64 0) := (cell_of G6.out).trans rfl
    have xx3 : w6.cell? ⟨w.heap.size, 3, none⟩ = some (.int .i64 0) := (cell_of G6.out).trans rfl
    have xx4 : w6.cell? ⟨w.heap.size, 4, none⟩ = some (.int .i64 0) := (cell_of G6.out).trans rfl
    have gF : (((((w6.setCell ⟨w.heap.size, 0, none⟩ (.int .i64 0)).setCell ⟨w.heap.size, 1, none⟩ (.string ⟨#[]⟩)).setCell ⟨w.heap.size, 2, none⟩ (.int .i64 0)).setCell ⟨w.heap.size, 3, none⟩ (.int .i64 0)).setCell ⟨w.heap.size, 4, none⟩ (.int .i64 0)).heap[w.heap.size]? = some (.cells #[.int .i64 0, .string ⟨#[]⟩, .int .i64 0, .int .i64 0, .int .i64 0] 24 (0, 0)) := (heap_set (heap_set (heap_set (heap_set (heap_set G6.out)))))
    have bF : Below w.heap.size w (((((w6.setCell ⟨w.heap.size, 0, none⟩ (.int .i64 0)).setCell ⟨w.heap.size, 1, none⟩ (.string ⟨#[]⟩)).setCell ⟨w.heap.size, 2, none⟩ (.int .i64 0)).setCell ⟨w.heap.size, 3, none⟩ (.int .i64 0)).setCell ⟨w.heap.size, 4, none⟩ (.int .i64 0)) := (((((B6.out.setCell (Nat.le_refl _) _).setCell (Nat.le_refl _) _).setCell (Nat.le_refl _) _).setCell (Nat.le_refl _) _).setCell (Nat.le_refl _) _)
    have hrF := lt_of_heap G6.out
    have zz0 := froz_of (i := 0) G6.out
    have zz1 := froz_of (i := 1) G6.out
    have zz2 := froz_of (i := 2) G6.out
    have zz3 := froz_of (i := 3) G6.out
    have zz4 := froz_of (i := 4) G6.out
    go_wp2_with fail
    generalize (((((w6.setCell ⟨w.heap.size, 0, none⟩ (.int .i64 0)).setCell ⟨w.heap.size, 1, none⟩ (.string ⟨#[]⟩)).setCell ⟨w.heap.size, 2, none⟩ (.int .i64 0)).setCell ⟨w.heap.size, 3, none⟩ (.int .i64 0)).setCell ⟨w.heap.size, 4, none⟩ (.int .i64 0)) = wF at *
    have ff0 : wF.cell? ⟨w.heap.size, 0, none⟩ = some (.int .i64 0) := (cell_of gF).trans rfl
    have ff1 : wF.cell? ⟨w.heap.size, 1, none⟩ = some (.string ⟨#[]⟩) := (cell_of gF).trans rfl
    have ff2 : wF.cell? ⟨w.heap.size, 2, none⟩ = some (.int .i64 0) := (cell_of gF).trans rfl
    have ff3 : wF.cell? ⟨w.heap.size, 3, none⟩ = some (.int .i64 0) := (cell_of gF).trans rfl
    have ff4 : wF.cell? ⟨w.heap.size, 4, none⟩ = some (.int .i64 0) := (cell_of gF).trans rfl
    exact bodyPost_ret (v := .tuple #[.agg #[.int .i64 0, .string ⟨#[]⟩, .int .i64 0, .int .i64 0, .int .i64 0], .int .i64 E]) (by simp [results, Tryz.results15, go_sem, ff0, ff1, ff2, ff3, ff4]) rfl ⟨by rw [ra2_no hef], bF⟩
set_option maxHeartbeats 1000000 in
set_option maxRecDepth 20000 in
theorem zrsk_6 (s : ByteArray) (E : Nat) (w : World) (hs : s.size ≤ 9223372036854775807) (h0 : fx 1 s 0 0 = (6, 1, 0)) (hE : fl 0 (dq s 1 0) = E) :
    Calls Tryz.prog 15 #[.string s] w fun e w' => e = .returned (ra2 #[.int .i64 6, .string ⟨#[]⟩, .int .i64 0, .int .i64 0, .int .i64 0] #[.int .i64 0, .string ⟨#[]⟩, .int .i64 0, .int .i64 0, .int .i64 0] E) ∧ Below w.heap.size w w' := by
  have hk1 := fxle (Nat.zero_le _) h0
  have g1 : (w.alloc (.cells #[.int .i64 0, .string ⟨#[]⟩, .int .i64 0, .int .i64 0, .int .i64 0] 24)).heap[w.heap.size]? = some (.cells #[.int .i64 0, .string ⟨#[]⟩, .int .i64 0, .int .i64 0, .int .i64 0] 24 (0, 0)) := heap_new _ _
  have b1 : Below w.heap.size w (w.alloc (.cells #[.int .i64 0, .string ⟨#[]⟩, .int .i64 0, .int .i64 0, .int .i64 0] 24)) := (Below.refl _ _).alloc (Nat.le_refl _) _
  go_enter Tryz.func15, Tryz.ntmps15
  go_wp2_with fail
  generalize w.alloc (.cells #[.int .i64 0, .string ⟨#[]⟩, .int .i64 0, .int .i64 0, .int .i64 0] 24) = w1 at *
  refine (xnew_any s w1).mono ?_
  rintro e w2 ⟨rfl, rfl⟩
  have h2 : RX (w1.alloc (.cells #[.string s, .int .i64 0, .int .i64 0] 113)) w1.heap.size s 0 0 := heap_new _ _
  have g2 : (w1.alloc (.cells #[.string s, .int .i64 0, .int .i64 0] 113)).heap[w.heap.size]? = some (.cells #[.int .i64 0, .string ⟨#[]⟩, .int .i64 0, .int .i64 0, .int .i64 0] 24 (0, 0)) := heap_alloc_at g1
  have b2 : Below w.heap.size w (w1.alloc (.cells #[.string s, .int .i64 0, .int .i64 0] 113)) := b1.alloc b1.size _
  have hbb : w.heap.size < w1.heap.size := lt_of_heap g1
  have G2 := hid g2
  have B2 := hid b2
  clear g1 b1 g2 b2
  go_wp2_with fail
  generalize w1.alloc (.cells #[.string s, .int .i64 0, .int .i64 0] 113) = w2 at *
  generalize w1.heap.size = b at *
  have CU := xu8_any b s 0 0 w2 h2 (Nat.zero_le _) hs
  rw [h0] at CU
  dsimp only at CU
  refine CU.mono ?_
  rintro e w3 ⟨rfl, h3, hc3⟩
  have G3 : Hid (w3.heap[w.heap.size]? = some (.cells #[.int .i64 0, .string ⟨#[]⟩, .int .i64 0, .int .i64 0, .int .i64 0] 24 (0, 0))) := hid ((hc3.block _ (lt_of_heap G2.out) (by omega)).trans G2.out)
  have B3 : Hid (Below w.heap.size w w3) := hid (B2.out.trans (hc3.below B2.out.size (fun i hi h => by omega)))
  clear hc3 G2 B2 h2 CU
  have h4 : RX (w3.alloc (.cells #[.int .i64 6, .string ⟨#[]⟩, .int .i64 0, .int .i64 0, .int .i64 0] 24)) b s 1 0 := h3.alloc _
  have r4 : (w3.alloc (.cells #[.int .i64 6, .string ⟨#[]⟩, .int .i64 0, .int .i64 0, .int .i64 0] 24)).heap[w3.heap.size]? = some (.cells #[.int .i64 6, .string ⟨#[]⟩, .int .i64 0, .int .i64 0, .int .i64 0] 24 (0, 0)) := heap_new _ _
  have G4 : Hid ((w3.alloc (.cells #[.int .i64 6, .string ⟨#[]⟩, .int .i64 0, .int .i64 0, .int .i64 0] 24)).heap[w.heap.size]? = some (.cells #[.int .i64 0, .string ⟨#[]⟩, .int .i64 0, .int .i64 0, .int .i64 0] 24 (0, 0))) := hid (heap_alloc_at G3.out)
  have B4 : Hid (Below w.heap.size w (w3.alloc (.cells #[.int .i64 6, .string ⟨#[]⟩, .int .i64 0, .int .i64 0, .int .i64 0] 24))) := hid (B3.out.alloc B3.out.size _)
  have hGG : w3.heap.size ≠ b ∧ w.heap.size < w3.heap.size := ⟨by have := h3.lt; omega, lt_of_heap G3.out⟩
  clear G3 B3 h3
  go_wp2_with fail
  generalize (w3.alloc (.cells #[.int .i64 6, .string ⟨#[]⟩, .int .i64 0, .int .i64 0, .int .i64 0] 24)) = w4 at *
  generalize w3.heap.size = G at *
  refine (xknown_yes _ _ (by omega)).mono ?_
  rintro e w4 ⟨rfl, rfl⟩
  have k4 : w4.cell? ⟨G, 0, none⟩ = some (.int .i64 6) := (cell_of r4).trans rfl
  have R4 := hid r4
  have H4 := hid h4
  clear r4 h4
  have hE' : dq s 1 0 = E := by rw [fl_0] at hE; exact hE
  have hkf : 1 ≤ s.size := by first | exact hL | exact hk1
  go_wp2_with fail
  have CD := xdone_any b s 1 0 w4 H4.out hkf hs
  rw [show dqx s 1 0 = E from hE'] at CD
  refine CD.mono ?_
  rintro e w19 ⟨rfl, n1, rfl⟩
  have G19 : Hid ((w4.drewN n1).heap[w.heap.size]? = some (.cells #[.int .i64 0, .string ⟨#[]⟩, .int .i64 0, .int .i64 0, .int .i64 0] 24 (0, 0))) := hid G4.out
  have R19 : Hid ((w4.drewN n1).heap[G]? = some (.cells #[.int .i64 6, .string ⟨#[]⟩, .int .i64 0, .int .i64 0, .int .i64 0] 24 (0, 0))) := hid R4.out
  have B19 : Hid (Below w.heap.size w (w4.drewN n1)) := hid (drewN_bel B4.out n1)
  clear G4 R4 B4 H4 CD
  generalize w4.drewN n1 = w19 at *
  have xx0 : w19.cell? ⟨w.heap.size, 0, none⟩ = some (.int .i64 0) := (cell_of G19.out).trans rfl
  have xx1 : w19.cell? ⟨w.heap.size, 1, none⟩ = some (.string ⟨#[]⟩) := (cell_of G19.out).trans rfl
  have xx2 : w19.cell? ⟨w.heap.size, 2, none⟩ = some (.int .i64 0) := (cell_of G19.out).trans rfl
  have xx3 : w19.cell? ⟨w.heap.size, 3, none⟩ = some (.int .i64 0) := (cell_of G19.out).trans rfl
  have xx4 : w19.cell? ⟨w.heap.size, 4, none⟩ = some (.int .i64 0) := (cell_of G19.out).trans rfl
  have yy0 : w19.cell? ⟨G, 0, none⟩ = some (.int .i64 6) := (cell_of R19.out).trans rfl
  have yy1 : w19.cell? ⟨G, 1, none⟩ = some (.string ⟨#[]⟩) := (cell_of R19.out).trans rfl
  have yy2 : w19.cell? ⟨G, 2, none⟩ = some (.int .i64 0) := (cell_of R19.out).trans rfl
  have yy3 : w19.cell? ⟨G, 3, none⟩ = some (.int .i64 0) := (cell_of R19.out).trans rfl
  have yy4 : w19.cell? ⟨G, 4, none⟩ = some (.int .i64 0) := (cell_of R19.out).trans rfl
  by_cases hE0 : E = 0
  · subst hE0
    have gF : (((((w19.setCell ⟨w.heap.size, 0, none⟩ (.int .i64 6)).setCell ⟨w.heap.size, 1, none⟩ (.string ⟨#[]⟩)).setCell ⟨w.heap.size, 2, none⟩ (.int .i64 0)).setCell ⟨w.heap.size, 3, none⟩ (.int .i64 0)).setCell ⟨w.heap.size, 4, none⟩ (.int .i64 0)).heap[w.heap.size]? = some (.cells #[.int .i64 6, .string ⟨#[]⟩, .int .i64 0, .int .i64 0, .int .i64 0] 24 (0, 0)) := (heap_set (heap_set (heap_set (heap_set (heap_set G19.out)))))
    have bF : Below w.heap.size w (((((w19.setCell ⟨w.heap.size, 0, none⟩ (.int .i64 6)).setCell ⟨w.heap.size, 1, none⟩ (.string ⟨#[]⟩)).setCell ⟨w.heap.size, 2, none⟩ (.int .i64 0)).setCell ⟨w.heap.size, 3, none⟩ (.int .i64 0)).setCell ⟨w.heap.size, 4, none⟩ (.int .i64 0)) := (((((B19.out.setCell (Nat.le_refl _) _).setCell (Nat.le_refl _) _).setCell (Nat.le_refl _) _).setCell (Nat.le_refl _) _).setCell (Nat.le_refl _) _)
    have hrF := lt_of_heap G19.out
    have zz0 := froz_of (i := 0) G19.out
    have zz1 := froz_of (i := 1) G19.out
    have zz2 := froz_of (i := 2) G19.out
    have zz3 := froz_of (i := 3) G19.out
    have zz4 := froz_of (i := 4) G19.out
    go_wp2_with fail
    generalize (((((w19.setCell ⟨w.heap.size, 0, none⟩ (.int .i64 6)).setCell ⟨w.heap.size, 1, none⟩ (.string ⟨#[]⟩)).setCell ⟨w.heap.size, 2, none⟩ (.int .i64 0)).setCell ⟨w.heap.size, 3, none⟩ (.int .i64 0)).setCell ⟨w.heap.size, 4, none⟩ (.int .i64 0)) = wF at *
    have ff0 : wF.cell? ⟨w.heap.size, 0, none⟩ = some (.int .i64 6) := (cell_of gF).trans rfl
    have ff1 : wF.cell? ⟨w.heap.size, 1, none⟩ = some (.string ⟨#[]⟩) := (cell_of gF).trans rfl
    have ff2 : wF.cell? ⟨w.heap.size, 2, none⟩ = some (.int .i64 0) := (cell_of gF).trans rfl
    have ff3 : wF.cell? ⟨w.heap.size, 3, none⟩ = some (.int .i64 0) := (cell_of gF).trans rfl
    have ff4 : wF.cell? ⟨w.heap.size, 4, none⟩ = some (.int .i64 0) := (cell_of gF).trans rfl
    exact bodyPost_ret (v := .tuple #[.agg #[.int .i64 6, .string ⟨#[]⟩, .int .i64 0, .int .i64 0, .int .i64 0], .int .i64 0]) (by simp [results, Tryz.results15, go_sem, ff0, ff1, ff2, ff3, ff4]) rfl ⟨rfl, bF⟩
  · have hne : ((E : Int) != 0) = true := by rw [bne_iff_ne]; omega
    have hne2 : ((E : Int) == 0) = false := by rw [beq_eq_false_iff_ne]; omega
    have gF : (((((w19.setCell ⟨w.heap.size, 0, none⟩ (.int .i64 0)).setCell ⟨w.heap.size, 1, none⟩ (.string ⟨#[]⟩)).setCell ⟨w.heap.size, 2, none⟩ (.int .i64 0)).setCell ⟨w.heap.size, 3, none⟩ (.int .i64 0)).setCell ⟨w.heap.size, 4, none⟩ (.int .i64 0)).heap[w.heap.size]? = some (.cells #[.int .i64 0, .string ⟨#[]⟩, .int .i64 0, .int .i64 0, .int .i64 0] 24 (0, 0)) := (heap_set (heap_set (heap_set (heap_set (heap_set G19.out)))))
    have bF : Below w.heap.size w (((((w19.setCell ⟨w.heap.size, 0, none⟩ (.int .i64 0)).setCell ⟨w.heap.size, 1, none⟩ (.string ⟨#[]⟩)).setCell ⟨w.heap.size, 2, none⟩ (.int .i64 0)).setCell ⟨w.heap.size, 3, none⟩ (.int .i64 0)).setCell ⟨w.heap.size, 4, none⟩ (.int .i64 0)) := (((((B19.out.setCell (Nat.le_refl _) _).setCell (Nat.le_refl _) _).setCell (Nat.le_refl _) _).setCell (Nat.le_refl _) _).setCell (Nat.le_refl _) _)
    have hrF := lt_of_heap G19.out
    have zz0 := froz_of (i := 0) G19.out
    have zz1 := froz_of (i := 1) G19.out
    have zz2 := froz_of (i := 2) G19.out
    have zz3 := froz_of (i := 3) G19.out
    have zz4 := froz_of (i := 4) G19.out
    go_wp2_with fail
    generalize (((((w19.setCell ⟨w.heap.size, 0, none⟩ (.int .i64 0)).setCell ⟨w.heap.size, 1, none⟩ (.string ⟨#[]⟩)).setCell ⟨w.heap.size, 2, none⟩ (.int .i64 0)).setCell ⟨w.heap.size, 3, none⟩ (.int .i64 0)).setCell ⟨w.heap.size, 4, none⟩ (.int .i64 0)) = wF at *
    have ff0 : wF.cell? ⟨w.heap.size, 0, none⟩ = some (.int .i64 0) := (cell_of gF).trans rfl
    have ff1 : wF.cell? ⟨w.heap.size, 1, none⟩ = some (.string ⟨#[]⟩) := (cell_of gF).trans rfl
    have ff2 : wF.cell? ⟨w.heap.size, 2, none⟩ = some (.int .i64 0) := (cell_of gF).trans rfl
    have ff3 : wF.cell? ⟨w.heap.size, 3, none⟩ = some (.int .i64 0) := (cell_of gF).trans rfl
    have ff4 : wF.cell? ⟨w.heap.size, 4, none⟩ = some (.int .i64 0) := (cell_of gF).trans rfl
    exact bodyPost_ret (v := .tuple #[.agg #[.int .i64 0, .string ⟨#[]⟩, .int .i64 0, .int .i64 0, .int .i64 0], .int .i64 E]) (by simp [results, Tryz.results15, go_sem, ff0, ff1, ff2, ff3, ff4]) rfl ⟨by rw [ra2_no hE0], bF⟩
set_option maxHeartbeats 1000000 in
set_option maxRecDepth 20000 in
theorem zrsk_no (s : ByteArray) (v : Nat) (w : World) (hs : s.size ≤ 9223372036854775807) (h0 : fx 1 s 0 0 = (v, 1, 0)) (hv : ¬ (1 ≤ (v : Int) ∧ (v : Int) ≤ 6)) :
    Calls Tryz.prog 15 #[.string s] w fun e w' => e = .returned (.tuple #[.agg #[.int .i64 0, .string ⟨#[]⟩, .int .i64 0, .int .i64 0, .int .i64 0], .int .i64 6]) ∧ Below w.heap.size w w' := by
  have hk1 := fxle (Nat.zero_le _) h0
  have hwv : IntKind.i64.wrap (v : Int) = v := wrapY (by omega) (by have := fxlt h0; omega)
  have g1 : (w.alloc (.cells #[.int .i64 0, .string ⟨#[]⟩, .int .i64 0, .int .i64 0, .int .i64 0] 24)).heap[w.heap.size]? = some (.cells #[.int .i64 0, .string ⟨#[]⟩, .int .i64 0, .int .i64 0, .int .i64 0] 24 (0, 0)) := heap_new _ _
  have b1 : Below w.heap.size w (w.alloc (.cells #[.int .i64 0, .string ⟨#[]⟩, .int .i64 0, .int .i64 0, .int .i64 0] 24)) := (Below.refl _ _).alloc (Nat.le_refl _) _
  go_enter Tryz.func15, Tryz.ntmps15
  go_wp2_with fail
  generalize w.alloc (.cells #[.int .i64 0, .string ⟨#[]⟩, .int .i64 0, .int .i64 0, .int .i64 0] 24) = w1 at *
  refine (xnew_any s w1).mono ?_
  rintro e w2 ⟨rfl, rfl⟩
  have h2 : RX (w1.alloc (.cells #[.string s, .int .i64 0, .int .i64 0] 113)) w1.heap.size s 0 0 := heap_new _ _
  have g2 : (w1.alloc (.cells #[.string s, .int .i64 0, .int .i64 0] 113)).heap[w.heap.size]? = some (.cells #[.int .i64 0, .string ⟨#[]⟩, .int .i64 0, .int .i64 0, .int .i64 0] 24 (0, 0)) := heap_alloc_at g1
  have b2 : Below w.heap.size w (w1.alloc (.cells #[.string s, .int .i64 0, .int .i64 0] 113)) := b1.alloc b1.size _
  have hbb : w.heap.size < w1.heap.size := lt_of_heap g1
  have G2 := hid g2
  have B2 := hid b2
  clear g1 b1 g2 b2
  go_wp2_with fail
  generalize w1.alloc (.cells #[.string s, .int .i64 0, .int .i64 0] 113) = w2 at *
  generalize w1.heap.size = b at *
  have CU := xu8_any b s 0 0 w2 h2 (Nat.zero_le _) hs
  rw [h0] at CU
  dsimp only at CU
  refine CU.mono ?_
  rintro e w3 ⟨rfl, h3, hc3⟩
  have G3 : Hid (w3.heap[w.heap.size]? = some (.cells #[.int .i64 0, .string ⟨#[]⟩, .int .i64 0, .int .i64 0, .int .i64 0] 24 (0, 0))) := hid ((hc3.block _ (lt_of_heap G2.out) (by omega)).trans G2.out)
  have B3 : Hid (Below w.heap.size w w3) := hid (B2.out.trans (hc3.below B2.out.size (fun i hi h => by omega)))
  clear hc3 G2 B2 h2 CU
  have h4 : RX (w3.alloc (.cells #[.int .i64 v, .string ⟨#[]⟩, .int .i64 0, .int .i64 0, .int .i64 0] 24)) b s 1 0 := h3.alloc _
  have r4 : (w3.alloc (.cells #[.int .i64 v, .string ⟨#[]⟩, .int .i64 0, .int .i64 0, .int .i64 0] 24)).heap[w3.heap.size]? = some (.cells #[.int .i64 v, .string ⟨#[]⟩, .int .i64 0, .int .i64 0, .int .i64 0] 24 (0, 0)) := heap_new _ _
  have G4 : Hid ((w3.alloc (.cells #[.int .i64 v, .string ⟨#[]⟩, .int .i64 0, .int .i64 0, .int .i64 0] 24)).heap[w.heap.size]? = some (.cells #[.int .i64 0, .string ⟨#[]⟩, .int .i64 0, .int .i64 0, .int .i64 0] 24 (0, 0))) := hid (heap_alloc_at G3.out)
  have B4 : Hid (Below w.heap.size w (w3.alloc (.cells #[.int .i64 v, .string ⟨#[]⟩, .int .i64 0, .int .i64 0, .int .i64 0] 24))) := hid (B3.out.alloc B3.out.size _)
  have hGG : w3.heap.size ≠ b ∧ w.heap.size < w3.heap.size := ⟨by have := h3.lt; omega, lt_of_heap G3.out⟩
  clear G3 B3 h3
  go_wp2_with fail
  generalize (w3.alloc (.cells #[.int .i64 v, .string ⟨#[]⟩, .int .i64 0, .int .i64 0, .int .i64 0] 24)) = w4 at *
  generalize w3.heap.size = G at *
  refine (xknown_no _ _ (by omega)).mono ?_
  rintro e w4 ⟨rfl, rfl⟩
  have xx0 : w4.cell? ⟨w.heap.size, 0, none⟩ = some (.int .i64 0) := (cell_of G4.out).trans rfl
  have xx1 : w4.cell? ⟨w.heap.size, 1, none⟩ = some (.string ⟨#[]⟩) := (cell_of G4.out).trans rfl
  have xx2 : w4.cell? ⟨w.heap.size, 2, none⟩ = some (.int .i64 0) := (cell_of G4.out).trans rfl
  have xx3 : w4.cell? ⟨w.heap.size, 3, none⟩ = some (.int .i64 0) := (cell_of G4.out).trans rfl
  have xx4 : w4.cell? ⟨w.heap.size, 4, none⟩ = some (.int .i64 0) := (cell_of G4.out).trans rfl
  have gF : (((((w4.setCell ⟨w.heap.size, 0, none⟩ (.int .i64 0)).setCell ⟨w.heap.size, 1, none⟩ (.string ⟨#[]⟩)).setCell ⟨w.heap.size, 2, none⟩ (.int .i64 0)).setCell ⟨w.heap.size, 3, none⟩ (.int .i64 0)).setCell ⟨w.heap.size, 4, none⟩ (.int .i64 0)).heap[w.heap.size]? = some (.cells #[.int .i64 0, .string ⟨#[]⟩, .int .i64 0, .int .i64 0, .int .i64 0] 24 (0, 0)) := (heap_set (heap_set (heap_set (heap_set (heap_set G4.out)))))
  have bF : Below w.heap.size w (((((w4.setCell ⟨w.heap.size, 0, none⟩ (.int .i64 0)).setCell ⟨w.heap.size, 1, none⟩ (.string ⟨#[]⟩)).setCell ⟨w.heap.size, 2, none⟩ (.int .i64 0)).setCell ⟨w.heap.size, 3, none⟩ (.int .i64 0)).setCell ⟨w.heap.size, 4, none⟩ (.int .i64 0)) := (((((B4.out.setCell (Nat.le_refl _) _).setCell (Nat.le_refl _) _).setCell (Nat.le_refl _) _).setCell (Nat.le_refl _) _).setCell (Nat.le_refl _) _)
  have hrF := lt_of_heap G4.out
  have zz0 := froz_of (i := 0) G4.out
  have zz1 := froz_of (i := 1) G4.out
  have zz2 := froz_of (i := 2) G4.out
  have zz3 := froz_of (i := 3) G4.out
  have zz4 := froz_of (i := 4) G4.out
  go_wp2_with fail
  generalize (((((w4.setCell ⟨w.heap.size, 0, none⟩ (.int .i64 0)).setCell ⟨w.heap.size, 1, none⟩ (.string ⟨#[]⟩)).setCell ⟨w.heap.size, 2, none⟩ (.int .i64 0)).setCell ⟨w.heap.size, 3, none⟩ (.int .i64 0)).setCell ⟨w.heap.size, 4, none⟩ (.int .i64 0)) = wF at *
  have ff0 : wF.cell? ⟨w.heap.size, 0, none⟩ = some (.int .i64 0) := (cell_of gF).trans rfl
  have ff1 : wF.cell? ⟨w.heap.size, 1, none⟩ = some (.string ⟨#[]⟩) := (cell_of gF).trans rfl
  have ff2 : wF.cell? ⟨w.heap.size, 2, none⟩ = some (.int .i64 0) := (cell_of gF).trans rfl
  have ff3 : wF.cell? ⟨w.heap.size, 3, none⟩ = some (.int .i64 0) := (cell_of gF).trans rfl
  have ff4 : wF.cell? ⟨w.heap.size, 4, none⟩ = some (.int .i64 0) := (cell_of gF).trans rfl
  exact bodyPost_ret (v := .tuple #[.agg #[.int .i64 0, .string ⟨#[]⟩, .int .i64 0, .int .i64 0, .int .i64 0], .int .i64 6]) (by simp [results, Tryz.results15, go_sem, ff0, ff1, ff2, ff3, ff4]) rfl ⟨rfl, bF⟩
set_option maxHeartbeats 1000000 in
set_option maxRecDepth 20000 in
theorem zrsk_short (s : ByteArray)  (w : World) (hs : s.size ≤ 9223372036854775807) (h0 : fx 1 s 0 0 = (0, 0, 20)) :
    Calls Tryz.prog 15 #[.string s] w fun e w' => e = .returned (.tuple #[.agg #[.int .i64 0, .string ⟨#[]⟩, .int .i64 0, .int .i64 0, .int .i64 0], .int .i64 20]) ∧ Below w.heap.size w w' := by
  have hk1 := fxle (Nat.zero_le _) h0
  have g1 : (w.alloc (.cells #[.int .i64 0, .string ⟨#[]⟩, .int .i64 0, .int .i64 0, .int .i64 0] 24)).heap[w.heap.size]? = some (.cells #[.int .i64 0, .string ⟨#[]⟩, .int .i64 0, .int .i64 0, .int .i64 0] 24 (0, 0)) := heap_new _ _
  have b1 : Below w.heap.size w (w.alloc (.cells #[.int .i64 0, .string ⟨#[]⟩, .int .i64 0, .int .i64 0, .int .i64 0] 24)) := (Below.refl _ _).alloc (Nat.le_refl _) _
  go_enter Tryz.func15, Tryz.ntmps15
  go_wp2_with fail
  generalize w.alloc (.cells #[.int .i64 0, .string ⟨#[]⟩, .int .i64 0, .int .i64 0, .int .i64 0] 24) = w1 at *
  refine (xnew_any s w1).mono ?_
  rintro e w2 ⟨rfl, rfl⟩
  have h2 : RX (w1.alloc (.cells #[.string s, .int .i64 0, .int .i64 0] 113)) w1.heap.size s 0 0 := heap_new _ _
  have g2 : (w1.alloc (.cells #[.string s, .int .i64 0, .int .i64 0] 113)).heap[w.heap.size]? = some (.cells #[.int .i64 0, .string ⟨#[]⟩, .int .i64 0, .int .i64 0, .int .i64 0] 24 (0, 0)) := heap_alloc_at g1
  have b2 : Below w.heap.size w (w1.alloc (.cells #[.string s, .int .i64 0, .int .i64 0] 113)) := b1.alloc b1.size _
  have hbb : w.heap.size < w1.heap.size := lt_of_heap g1
  have G2 := hid g2
  have B2 := hid b2
  clear g1 b1 g2 b2
  go_wp2_with fail
  generalize w1.alloc (.cells #[.string s, .int .i64 0, .int .i64 0] 113) = w2 at *
  generalize w1.heap.size = b at *
  have CU := xu8_any b s 0 0 w2 h2 (Nat.zero_le _) hs
  rw [h0] at CU
  dsimp only at CU
  refine CU.mono ?_
  rintro e w3 ⟨rfl, h3, hc3⟩
  have G3 : Hid (w3.heap[w.heap.size]? = some (.cells #[.int .i64 0, .string ⟨#[]⟩, .int .i64 0, .int .i64 0, .int .i64 0] 24 (0, 0))) := hid ((hc3.block _ (lt_of_heap G2.out) (by omega)).trans G2.out)
  have B3 : Hid (Below w.heap.size w w3) := hid (B2.out.trans (hc3.below B2.out.size (fun i hi h => by omega)))
  clear hc3 G2 B2 h2 CU
  have xx0 : w3.cell? ⟨w.heap.size, 0, none⟩ = some (.int .i64 0) := (cell_of G3.out).trans rfl
  have xx1 : w3.cell? ⟨w.heap.size, 1, none⟩ = some (.string ⟨#[]⟩) := (cell_of G3.out).trans rfl
  have xx2 : w3.cell? ⟨w.heap.size, 2, none⟩ = some (.int .i64 0) := (cell_of G3.out).trans rfl
  have xx3 : w3.cell? ⟨w.heap.size, 3, none⟩ = some (.int .i64 0) := (cell_of G3.out).trans rfl
  have xx4 : w3.cell? ⟨w.heap.size, 4, none⟩ = some (.int .i64 0) := (cell_of G3.out).trans rfl
  have gF : (((((w3.setCell ⟨w.heap.size, 0, none⟩ (.int .i64 0)).setCell ⟨w.heap.size, 1, none⟩ (.string ⟨#[]⟩)).setCell ⟨w.heap.size, 2, none⟩ (.int .i64 0)).setCell ⟨w.heap.size, 3, none⟩ (.int .i64 0)).setCell ⟨w.heap.size, 4, none⟩ (.int .i64 0)).heap[w.heap.size]? = some (.cells #[.int .i64 0, .string ⟨#[]⟩, .int .i64 0, .int .i64 0, .int .i64 0] 24 (0, 0)) := (heap_set (heap_set (heap_set (heap_set (heap_set G3.out)))))
  have bF : Below w.heap.size w (((((w3.setCell ⟨w.heap.size, 0, none⟩ (.int .i64 0)).setCell ⟨w.heap.size, 1, none⟩ (.string ⟨#[]⟩)).setCell ⟨w.heap.size, 2, none⟩ (.int .i64 0)).setCell ⟨w.heap.size, 3, none⟩ (.int .i64 0)).setCell ⟨w.heap.size, 4, none⟩ (.int .i64 0)) := (((((B3.out.setCell (Nat.le_refl _) _).setCell (Nat.le_refl _) _).setCell (Nat.le_refl _) _).setCell (Nat.le_refl _) _).setCell (Nat.le_refl _) _)
  have hrF := lt_of_heap G3.out
  have zz0 := froz_of (i := 0) G3.out
  have zz1 := froz_of (i := 1) G3.out
  have zz2 := froz_of (i := 2) G3.out
  have zz3 := froz_of (i := 3) G3.out
  have zz4 := froz_of (i := 4) G3.out
  go_wp2_with fail
  generalize (((((w3.setCell ⟨w.heap.size, 0, none⟩ (.int .i64 0)).setCell ⟨w.heap.size, 1, none⟩ (.string ⟨#[]⟩)).setCell ⟨w.heap.size, 2, none⟩ (.int .i64 0)).setCell ⟨w.heap.size, 3, none⟩ (.int .i64 0)).setCell ⟨w.heap.size, 4, none⟩ (.int .i64 0)) = wF at *
  have ff0 : wF.cell? ⟨w.heap.size, 0, none⟩ = some (.int .i64 0) := (cell_of gF).trans rfl
  have ff1 : wF.cell? ⟨w.heap.size, 1, none⟩ = some (.string ⟨#[]⟩) := (cell_of gF).trans rfl
  have ff2 : wF.cell? ⟨w.heap.size, 2, none⟩ = some (.int .i64 0) := (cell_of gF).trans rfl
  have ff3 : wF.cell? ⟨w.heap.size, 3, none⟩ = some (.int .i64 0) := (cell_of gF).trans rfl
  have ff4 : wF.cell? ⟨w.heap.size, 4, none⟩ = some (.int .i64 0) := (cell_of gF).trans rfl
  exact bodyPost_ret (v := .tuple #[.agg #[.int .i64 0, .string ⟨#[]⟩, .int .i64 0, .int .i64 0, .int .i64 0], .int .i64 20]) (by simp [results, Tryz.results15, go_sem, ff0, ff1, ff2, ff3, ff4]) rfl ⟨rfl, bF⟩
end Go.Proofs.YtgdaaohlongmlaaGreat
namespace Go.Proofs.YtgdaaohlongmlaaGreat
open Go.RowKit
set_option maxHeartbeats 1000000 in
set_option maxRecDepth 20000 in
theorem zrsk_1short (s : ByteArray) (x2 k2 e2 : Nat) (w : World) (hs : s.size ≤ 9223372036854775807) (h0 : fx 1 s 0 0 = (1, 1, 0)) (h1 : fx 4 s 1 0 = (x2, k2, e2)) (he : e2 ≠ 0) :
    Calls Tryz.prog 15 #[.string s] w fun e w' => e = .returned (.tuple #[.agg #[.int .i64 0, .string ⟨#[]⟩, .int .i64 0, .int .i64 0, .int .i64 0], .int .i64 e2]) ∧ Below w.heap.size w w' := by
  have hk1 := fxle (Nat.zero_le _) h0
  have hne : ((e2 : Int) != 0) = true := by rw [bne_iff_ne]; omega
  have hne2 : ((e2 : Int) == 0) = false := by rw [beq_eq_false_iff_ne]; omega
  have g1 : (w.alloc (.cells #[.int .i64 0, .string ⟨#[]⟩, .int .i64 0, .int .i64 0, .int .i64 0] 24)).heap[w.heap.size]? = some (.cells #[.int .i64 0, .string ⟨#[]⟩, .int .i64 0, .int .i64 0, .int .i64 0] 24 (0, 0)) := heap_new _ _
  have b1 : Below w.heap.size w (w.alloc (.cells #[.int .i64 0, .string ⟨#[]⟩, .int .i64 0, .int .i64 0, .int .i64 0] 24)) := (Below.refl _ _).alloc (Nat.le_refl _) _
  go_enter Tryz.func15, Tryz.ntmps15
  go_wp2_with fail
  generalize w.alloc (.cells #[.int .i64 0, .string ⟨#[]⟩, .int .i64 0, .int .i64 0, .int .i64 0] 24) = w1 at *
  refine (xnew_any s w1).mono ?_
  rintro e w2 ⟨rfl, rfl⟩
  have h2 : RX (w1.alloc (.cells #[.string s, .int .i64 0, .int .i64 0] 113)) w1.heap.size s 0 0 := heap_new _ _
  have g2 : (w1.alloc (.cells #[.string s, .int .i64 0, .int .i64 0] 113)).heap[w.heap.size]? = some (.cells #[.int .i64 0, .string ⟨#[]⟩, .int .i64 0, .int .i64 0, .int .i64 0] 24 (0, 0)) := heap_alloc_at g1
  have b2 : Below w.heap.size w (w1.alloc (.cells #[.string s, .int .i64 0, .int .i64 0] 113)) := b1.alloc b1.size _
  have hbb : w.heap.size < w1.heap.size := lt_of_heap g1
  have G2 := hid g2
  have B2 := hid b2
  clear g1 b1 g2 b2
  go_wp2_with fail
  generalize w1.alloc (.cells #[.string s, .int .i64 0, .int .i64 0] 113) = w2 at *
  generalize w1.heap.size = b at *
  have CU := xu8_any b s 0 0 w2 h2 (Nat.zero_le _) hs
  rw [h0] at CU
  dsimp only at CU
  refine CU.mono ?_
  rintro e w3 ⟨rfl, h3, hc3⟩
  have G3 : Hid (w3.heap[w.heap.size]? = some (.cells #[.int .i64 0, .string ⟨#[]⟩, .int .i64 0, .int .i64 0, .int .i64 0] 24 (0, 0))) := hid ((hc3.block _ (lt_of_heap G2.out) (by omega)).trans G2.out)
  have B3 : Hid (Below w.heap.size w w3) := hid (B2.out.trans (hc3.below B2.out.size (fun i hi h => by omega)))
  clear hc3 G2 B2 h2 CU
  have h4 : RX (w3.alloc (.cells #[.int .i64 1, .string ⟨#[]⟩, .int .i64 0, .int .i64 0, .int .i64 0] 24)) b s 1 0 := h3.alloc _
  have r4 : (w3.alloc (.cells #[.int .i64 1, .string ⟨#[]⟩, .int .i64 0, .int .i64 0, .int .i64 0] 24)).heap[w3.heap.size]? = some (.cells #[.int .i64 1, .string ⟨#[]⟩, .int .i64 0, .int .i64 0, .int .i64 0] 24 (0, 0)) := heap_new _ _
  have G4 : Hid ((w3.alloc (.cells #[.int .i64 1, .string ⟨#[]⟩, .int .i64 0, .int .i64 0, .int .i64 0] 24)).heap[w.heap.size]? = some (.cells #[.int .i64 0, .string ⟨#[]⟩, .int .i64 0, .int .i64 0, .int .i64 0] 24 (0, 0))) := hid (heap_alloc_at G3.out)
  have B4 : Hid (Below w.heap.size w (w3.alloc (.cells #[.int .i64 1, .string ⟨#[]⟩, .int .i64 0, .int .i64 0, .int .i64 0] 24))) := hid (B3.out.alloc B3.out.size _)
  have hGG : w3.heap.size ≠ b ∧ w.heap.size < w3.heap.size := ⟨by have := h3.lt; omega, lt_of_heap G3.out⟩
  clear G3 B3 h3
  go_wp2_with fail
  generalize (w3.alloc (.cells #[.int .i64 1, .string ⟨#[]⟩, .int .i64 0, .int .i64 0, .int .i64 0] 24)) = w4 at *
  generalize w3.heap.size = G at *
  refine (xknown_yes _ _ (by omega)).mono ?_
  rintro e w4 ⟨rfl, rfl⟩
  have k4 : w4.cell? ⟨G, 0, none⟩ = some (.int .i64 1) := (cell_of r4).trans rfl
  have R4 := hid r4
  have H4 := hid h4
  clear r4 h4
  go_wp2_with fail
  have CN := xtaken_short b 16777216 s 1 0 x2 k2 e2 w4 H4.out hk1 hs h1 he
  refine CN.mono ?_
  rintro e w5 ⟨rfl, h5, hc5⟩
  have r5 : w5.heap[G]? = some (.cells #[.int .i64 1, .string ⟨#[]⟩, .int .i64 0, .int .i64 0, .int .i64 0] 24 (0, 0)) := (hc5.block _ (lt_of_heap R4.out) hGG.1).trans R4.out
  have d4 : w5.cell? ⟨G, 1, none⟩ = some (.string ⟨#[]⟩) := (cell_of r5).trans rfl
  have z4 := froz_of (i := 1) r5
  have G6 : Hid ((w5.setCell ⟨G, 1, none⟩ (.string ⟨#[]⟩)).heap[w.heap.size]? = some (.cells #[.int .i64 0, .string ⟨#[]⟩, .int .i64 0, .int .i64 0, .int .i64 0] 24 (0, 0))) := hid (heap_set_far ((hc5.block _ (lt_of_heap G4.out) (by omega)).trans G4.out) (by show w.heap.size ≠ G; omega))
  have B6 : Hid (Below w.heap.size w (w5.setCell ⟨G, 1, none⟩ (.string ⟨#[]⟩))) := hid ((B4.out.trans (hc5.below B4.out.size (fun i hi h => by omega))).setCell (by show w.heap.size ≤ G; omega) _)
  have R6 : Hid ((w5.setCell ⟨G, 1, none⟩ (.string ⟨#[]⟩)).heap[G]? = some (.cells #[.int .i64 1, .string ⟨#[]⟩, .int .i64 0, .int .i64 0, .int .i64 0] 24 (0, 0))) := hid (heap_set r5)
  have H6 : Hid (RX (w5.setCell ⟨G, 1, none⟩ (.string ⟨#[]⟩)) b s k2 e2) := hid (rx_set h5 hGG.1)
  clear r5 h5 hc5 R4 H4 G4 B4 CN k4
  go_upto_region 20 with fail
  generalize w5.setCell ⟨G, 1, none⟩ (.string ⟨#[]⟩) = w6 at *
  have xx0 : w6.cell? ⟨w.heap.size, 0, none⟩ = some (.int .i64 0) := (cell_of G6.out).trans rfl
  have xx1 : w6.cell? ⟨w.heap.size, 1, none⟩ = some (.string ⟨#[]⟩) := (cell_of G6.out).trans rfl
  have xx2 : w6.cell? ⟨w.heap.size, 2, none⟩ = some (.int .i64 0) := (cell_of G6.out).trans rfl
  have xx3 : w6.cell? ⟨w.heap.size, 3, none⟩ = some (.int .i64 0) := (cell_of G6.out).trans rfl
  have xx4 : w6.cell? ⟨w.heap.size, 4, none⟩ = some (.int .i64 0) := (cell_of G6.out).trans rfl
  have gF : (((((w6.setCell ⟨w.heap.size, 0, none⟩ (.int .i64 0)).setCell ⟨w.heap.size, 1, none⟩ (.string ⟨#[]⟩)).setCell ⟨w.heap.size, 2, none⟩ (.int .i64 0)).setCell ⟨w.heap.size, 3, none⟩ (.int .i64 0)).setCell ⟨w.heap.size, 4, none⟩ (.int .i64 0)).heap[w.heap.size]? = some (.cells #[.int .i64 0, .string ⟨#[]⟩, .int .i64 0, .int .i64 0, .int .i64 0] 24 (0, 0)) := (heap_set (heap_set (heap_set (heap_set (heap_set G6.out)))))
  have bF : Below w.heap.size w (((((w6.setCell ⟨w.heap.size, 0, none⟩ (.int .i64 0)).setCell ⟨w.heap.size, 1, none⟩ (.string ⟨#[]⟩)).setCell ⟨w.heap.size, 2, none⟩ (.int .i64 0)).setCell ⟨w.heap.size, 3, none⟩ (.int .i64 0)).setCell ⟨w.heap.size, 4, none⟩ (.int .i64 0)) := (((((B6.out.setCell (Nat.le_refl _) _).setCell (Nat.le_refl _) _).setCell (Nat.le_refl _) _).setCell (Nat.le_refl _) _).setCell (Nat.le_refl _) _)
  have hrF := lt_of_heap G6.out
  have zz0 := froz_of (i := 0) G6.out
  have zz1 := froz_of (i := 1) G6.out
  have zz2 := froz_of (i := 2) G6.out
  have zz3 := froz_of (i := 3) G6.out
  have zz4 := froz_of (i := 4) G6.out
  go_wp2_with fail
  generalize (((((w6.setCell ⟨w.heap.size, 0, none⟩ (.int .i64 0)).setCell ⟨w.heap.size, 1, none⟩ (.string ⟨#[]⟩)).setCell ⟨w.heap.size, 2, none⟩ (.int .i64 0)).setCell ⟨w.heap.size, 3, none⟩ (.int .i64 0)).setCell ⟨w.heap.size, 4, none⟩ (.int .i64 0)) = wF at *
  have ff0 : wF.cell? ⟨w.heap.size, 0, none⟩ = some (.int .i64 0) := (cell_of gF).trans rfl
  have ff1 : wF.cell? ⟨w.heap.size, 1, none⟩ = some (.string ⟨#[]⟩) := (cell_of gF).trans rfl
  have ff2 : wF.cell? ⟨w.heap.size, 2, none⟩ = some (.int .i64 0) := (cell_of gF).trans rfl
  have ff3 : wF.cell? ⟨w.heap.size, 3, none⟩ = some (.int .i64 0) := (cell_of gF).trans rfl
  have ff4 : wF.cell? ⟨w.heap.size, 4, none⟩ = some (.int .i64 0) := (cell_of gF).trans rfl
  exact bodyPost_ret (v := .tuple #[.agg #[.int .i64 0, .string ⟨#[]⟩, .int .i64 0, .int .i64 0, .int .i64 0], .int .i64 e2]) (by simp [results, Tryz.results15, go_sem, ff0, ff1, ff2, ff3, ff4]) rfl ⟨rfl, bF⟩
set_option maxHeartbeats 1000000 in
set_option maxRecDepth 20000 in
theorem zrsk_1cut (s : ByteArray) (x2 k2 : Nat) (w : World) (hs : s.size ≤ 9223372036854775807) (h0 : fx 1 s 0 0 = (1, 1, 0)) (h1 : fx 4 s 1 0 = (x2, k2, 0)) (hc : dcut 16777216 s x2 k2 = true) :
    Calls Tryz.prog 15 #[.string s] w fun e w' => e = .returned (.tuple #[.agg #[.int .i64 0, .string ⟨#[]⟩, .int .i64 0, .int .i64 0, .int .i64 0], .int .i64 21]) ∧ Below w.heap.size w w' := by
  have hk1 := fxle (Nat.zero_le _) h0
  have g1 : (w.alloc (.cells #[.int .i64 0, .string ⟨#[]⟩, .int .i64 0, .int .i64 0, .int .i64 0] 24)).heap[w.heap.size]? = some (.cells #[.int .i64 0, .string ⟨#[]⟩, .int .i64 0, .int .i64 0, .int .i64 0] 24 (0, 0)) := heap_new _ _
  have b1 : Below w.heap.size w (w.alloc (.cells #[.int .i64 0, .string ⟨#[]⟩, .int .i64 0, .int .i64 0, .int .i64 0] 24)) := (Below.refl _ _).alloc (Nat.le_refl _) _
  go_enter Tryz.func15, Tryz.ntmps15
  go_wp2_with fail
  generalize w.alloc (.cells #[.int .i64 0, .string ⟨#[]⟩, .int .i64 0, .int .i64 0, .int .i64 0] 24) = w1 at *
  refine (xnew_any s w1).mono ?_
  rintro e w2 ⟨rfl, rfl⟩
  have h2 : RX (w1.alloc (.cells #[.string s, .int .i64 0, .int .i64 0] 113)) w1.heap.size s 0 0 := heap_new _ _
  have g2 : (w1.alloc (.cells #[.string s, .int .i64 0, .int .i64 0] 113)).heap[w.heap.size]? = some (.cells #[.int .i64 0, .string ⟨#[]⟩, .int .i64 0, .int .i64 0, .int .i64 0] 24 (0, 0)) := heap_alloc_at g1
  have b2 : Below w.heap.size w (w1.alloc (.cells #[.string s, .int .i64 0, .int .i64 0] 113)) := b1.alloc b1.size _
  have hbb : w.heap.size < w1.heap.size := lt_of_heap g1
  have G2 := hid g2
  have B2 := hid b2
  clear g1 b1 g2 b2
  go_wp2_with fail
  generalize w1.alloc (.cells #[.string s, .int .i64 0, .int .i64 0] 113) = w2 at *
  generalize w1.heap.size = b at *
  have CU := xu8_any b s 0 0 w2 h2 (Nat.zero_le _) hs
  rw [h0] at CU
  dsimp only at CU
  refine CU.mono ?_
  rintro e w3 ⟨rfl, h3, hc3⟩
  have G3 : Hid (w3.heap[w.heap.size]? = some (.cells #[.int .i64 0, .string ⟨#[]⟩, .int .i64 0, .int .i64 0, .int .i64 0] 24 (0, 0))) := hid ((hc3.block _ (lt_of_heap G2.out) (by omega)).trans G2.out)
  have B3 : Hid (Below w.heap.size w w3) := hid (B2.out.trans (hc3.below B2.out.size (fun i hi h => by omega)))
  clear hc3 G2 B2 h2 CU
  have h4 : RX (w3.alloc (.cells #[.int .i64 1, .string ⟨#[]⟩, .int .i64 0, .int .i64 0, .int .i64 0] 24)) b s 1 0 := h3.alloc _
  have r4 : (w3.alloc (.cells #[.int .i64 1, .string ⟨#[]⟩, .int .i64 0, .int .i64 0, .int .i64 0] 24)).heap[w3.heap.size]? = some (.cells #[.int .i64 1, .string ⟨#[]⟩, .int .i64 0, .int .i64 0, .int .i64 0] 24 (0, 0)) := heap_new _ _
  have G4 : Hid ((w3.alloc (.cells #[.int .i64 1, .string ⟨#[]⟩, .int .i64 0, .int .i64 0, .int .i64 0] 24)).heap[w.heap.size]? = some (.cells #[.int .i64 0, .string ⟨#[]⟩, .int .i64 0, .int .i64 0, .int .i64 0] 24 (0, 0))) := hid (heap_alloc_at G3.out)
  have B4 : Hid (Below w.heap.size w (w3.alloc (.cells #[.int .i64 1, .string ⟨#[]⟩, .int .i64 0, .int .i64 0, .int .i64 0] 24))) := hid (B3.out.alloc B3.out.size _)
  have hGG : w3.heap.size ≠ b ∧ w.heap.size < w3.heap.size := ⟨by have := h3.lt; omega, lt_of_heap G3.out⟩
  clear G3 B3 h3
  go_wp2_with fail
  generalize (w3.alloc (.cells #[.int .i64 1, .string ⟨#[]⟩, .int .i64 0, .int .i64 0, .int .i64 0] 24)) = w4 at *
  generalize w3.heap.size = G at *
  refine (xknown_yes _ _ (by omega)).mono ?_
  rintro e w4 ⟨rfl, rfl⟩
  have k4 : w4.cell? ⟨G, 0, none⟩ = some (.int .i64 1) := (cell_of r4).trans rfl
  have R4 := hid r4
  have H4 := hid h4
  clear r4 h4
  go_wp2_with fail
  have CN := xtaken_cut b 16777216 s 1 x2 k2 w4 H4.out hk1 hs h1 hc (by omega)
  refine CN.mono ?_
  rintro e w5 ⟨rfl, h5, hc5⟩
  have r5 : w5.heap[G]? = some (.cells #[.int .i64 1, .string ⟨#[]⟩, .int .i64 0, .int .i64 0, .int .i64 0] 24 (0, 0)) := (hc5.block _ (lt_of_heap R4.out) hGG.1).trans R4.out
  have d4 : w5.cell? ⟨G, 1, none⟩ = some (.string ⟨#[]⟩) := (cell_of r5).trans rfl
  have z4 := froz_of (i := 1) r5
  have G6 : Hid ((w5.setCell ⟨G, 1, none⟩ (.string ⟨#[]⟩)).heap[w.heap.size]? = some (.cells #[.int .i64 0, .string ⟨#[]⟩, .int .i64 0, .int .i64 0, .int .i64 0] 24 (0, 0))) := hid (heap_set_far ((hc5.block _ (lt_of_heap G4.out) (by omega)).trans G4.out) (by show w.heap.size ≠ G; omega))
  have B6 : Hid (Below w.heap.size w (w5.setCell ⟨G, 1, none⟩ (.string ⟨#[]⟩))) := hid ((B4.out.trans (hc5.below B4.out.size (fun i hi h => by omega))).setCell (by show w.heap.size ≤ G; omega) _)
  have R6 : Hid ((w5.setCell ⟨G, 1, none⟩ (.string ⟨#[]⟩)).heap[G]? = some (.cells #[.int .i64 1, .string ⟨#[]⟩, .int .i64 0, .int .i64 0, .int .i64 0] 24 (0, 0))) := hid (heap_set r5)
  have H6 : Hid (RX (w5.setCell ⟨G, 1, none⟩ (.string ⟨#[]⟩)) b s k2 0) := hid (rx_set h5 hGG.1)
  clear r5 h5 hc5 R4 H4 G4 B4 CN k4
  go_upto_region 20 with fail
  generalize w5.setCell ⟨G, 1, none⟩ (.string ⟨#[]⟩) = w6 at *
  have xx0 : w6.cell? ⟨w.heap.size, 0, none⟩ = some (.int .i64 0) := (cell_of G6.out).trans rfl
  have xx1 : w6.cell? ⟨w.heap.size, 1, none⟩ = some (.string ⟨#[]⟩) := (cell_of G6.out).trans rfl
  have xx2 : w6.cell? ⟨w.heap.size, 2, none⟩ = some (.int .i64 0) := (cell_of G6.out).trans rfl
  have xx3 : w6.cell? ⟨w.heap.size, 3, none⟩ = some (.int .i64 0) := (cell_of G6.out).trans rfl
  have xx4 : w6.cell? ⟨w.heap.size, 4, none⟩ = some (.int .i64 0) := (cell_of G6.out).trans rfl
  have gF : (((((w6.setCell ⟨w.heap.size, 0, none⟩ (.int .i64 0)).setCell ⟨w.heap.size, 1, none⟩ (.string ⟨#[]⟩)).setCell ⟨w.heap.size, 2, none⟩ (.int .i64 0)).setCell ⟨w.heap.size, 3, none⟩ (.int .i64 0)).setCell ⟨w.heap.size, 4, none⟩ (.int .i64 0)).heap[w.heap.size]? = some (.cells #[.int .i64 0, .string ⟨#[]⟩, .int .i64 0, .int .i64 0, .int .i64 0] 24 (0, 0)) := (heap_set (heap_set (heap_set (heap_set (heap_set G6.out)))))
  have bF : Below w.heap.size w (((((w6.setCell ⟨w.heap.size, 0, none⟩ (.int .i64 0)).setCell ⟨w.heap.size, 1, none⟩ (.string ⟨#[]⟩)).setCell ⟨w.heap.size, 2, none⟩ (.int .i64 0)).setCell ⟨w.heap.size, 3, none⟩ (.int .i64 0)).setCell ⟨w.heap.size, 4, none⟩ (.int .i64 0)) := (((((B6.out.setCell (Nat.le_refl _) _).setCell (Nat.le_refl _) _).setCell (Nat.le_refl _) _).setCell (Nat.le_refl _) _).setCell (Nat.le_refl _) _)
  have hrF := lt_of_heap G6.out
  have zz0 := froz_of (i := 0) G6.out
  have zz1 := froz_of (i := 1) G6.out
  have zz2 := froz_of (i := 2) G6.out
  have zz3 := froz_of (i := 3) G6.out
  have zz4 := froz_of (i := 4) G6.out
  go_wp2_with fail
  generalize (((((w6.setCell ⟨w.heap.size, 0, none⟩ (.int .i64 0)).setCell ⟨w.heap.size, 1, none⟩ (.string ⟨#[]⟩)).setCell ⟨w.heap.size, 2, none⟩ (.int .i64 0)).setCell ⟨w.heap.size, 3, none⟩ (.int .i64 0)).setCell ⟨w.heap.size, 4, none⟩ (.int .i64 0)) = wF at *
  have ff0 : wF.cell? ⟨w.heap.size, 0, none⟩ = some (.int .i64 0) := (cell_of gF).trans rfl
  have ff1 : wF.cell? ⟨w.heap.size, 1, none⟩ = some (.string ⟨#[]⟩) := (cell_of gF).trans rfl
  have ff2 : wF.cell? ⟨w.heap.size, 2, none⟩ = some (.int .i64 0) := (cell_of gF).trans rfl
  have ff3 : wF.cell? ⟨w.heap.size, 3, none⟩ = some (.int .i64 0) := (cell_of gF).trans rfl
  have ff4 : wF.cell? ⟨w.heap.size, 4, none⟩ = some (.int .i64 0) := (cell_of gF).trans rfl
  exact bodyPost_ret (v := .tuple #[.agg #[.int .i64 0, .string ⟨#[]⟩, .int .i64 0, .int .i64 0, .int .i64 0], .int .i64 21]) (by simp [results, Tryz.results15, go_sem, ff0, ff1, ff2, ff3, ff4]) rfl ⟨rfl, bF⟩
theorem zrsk_1bad (s : ByteArray) (x2 k2 e2 F1 E : Nat) (w : World) (hs : s.size ≤ 9223372036854775807) (h0 : fx 1 s 0 0 = (1, 1, 0)) (h1 : fx 4 s 1 0 = (x2, k2, e2)) (hb1 : e2 ≠ 0 ∨ dcut 16777216 s x2 k2 = true) (hF1 : rf (dcut 16777216 s x2 k2) 21 0 e2 = F1) (hE : fl F1 (dq s k2 e2) = E) :
    Calls Tryz.prog 15 #[.string s] w fun e w' => e = .returned (ra2 #[.int .i64 1, .string ⟨#[]⟩, .int .i64 0, .int .i64 0, .int .i64 0] #[.int .i64 0, .string ⟨#[]⟩, .int .i64 0, .int .i64 0, .int .i64 0] E) ∧ Below w.heap.size w w' := by
  by_cases he : e2 = 0
  · subst he
    have hc := hb1.resolve_left (fun h => h rfl)
    have hE2 : E = 21 := by rw [← hE, ← hF1, rf_cut hc]
    subst hE2
    exact (zrsk_1cut s x2 k2 w hs h0 h1 hc).mono fun e w' h => ⟨by rw [h.1, ra2_no (by decide)]; rfl, h.2⟩
  · have hE2 : E = e2 := by rw [← hE, ← hF1, rf_late he, dq_bad he]
    subst hE2
    exact (zrsk_1short s x2 k2 E w hs h0 h1 he).mono fun e w' h => ⟨by rw [h.1, ra2_no he], h.2⟩
set_option maxHeartbeats 1000000 in
theorem zreadask_any (s : ByteArray) (w : World) (hs : s.size ≤ 9223372036854775807) :
    Calls Tryz.prog 15 #[.string s] w fun e w' => e = .returned (rqV (raQ s)) ∧ Below w.heap.size w w' := by
  obtain ⟨v, k1, e1, h0⟩ := ex3 (fx 1 s 0 0)
  by_cases he : e1 = 0
  · subst he
    obtain ⟨hv, hS, rfl⟩ := fx_iff.1 h0
    rw [Nat.zero_add] at h0
    obtain ⟨x2, k2, e2, h1⟩ := ex3 (fx 8 s 1 0)
    obtain ⟨x3, k3, e3, h2⟩ := ex3 (fx 8 s k2 e2)
    obtain ⟨n, kn, en, hn⟩ := ex3 (fx 4 s 1 0)
    by_cases hk : v = 1
    · subst hk
      by_cases hen : en = 0
      · subst hen
        obtain ⟨hnl, hSn, rfl⟩ := fx_iff.1 hn
        have hk5 := hSn.le
        rw [nb_len] at hk5
        by_cases hc : dcut 16777216 s n (1 + 4) = true
        · refine (zrsk_1bad s n (1 + 4) 0 _ 21 w hs h0 hn (Or.inr hc) rfl (rf_cut hc _)).mono fun e w' h => toQ ⟨1, ⟨#[]⟩, 0, 0, 0⟩ 21 ?_ h
          unfold raQ rdD
          rw [h0, hn]
          dsimp only
          rw [if_neg (by decide)]
          (first | rw [if_pos rfl] | rw [if_pos trivial])
          rw [if_neg (by decide)]
          rw [if_pos hc]
        · obtain ⟨hM, hL⟩ := dcut_no hc
          refine (zrsk_1 s n (1 + 4) _ w hs h0 hn hM (by omega) (fl_0 _)).mono fun e w' h => toQ ⟨1, s.extract (1 + 4) (1 + 4 + n), 0, 0, 0⟩ _ ?_ h
          unfold raQ rdD
          rw [h0, hn]
          dsimp only
          rw [if_neg (by decide)]
          (first | rw [if_pos rfl] | rw [if_pos trivial])
          rw [if_neg (by decide)]
          rw [if_neg hc]
      · obtain ⟨rfl, rfl, rfl⟩ := fx_bad hn hen
        refine (zrsk_1bad s 0 1 20 _ 20 w hs h0 hn (Or.inl hen) rfl (by rw [rf_late hen]; exact dq_bad hen)).mono fun e w' h => toQ ⟨1, ⟨#[]⟩, 0, 0, 0⟩ 20 ?_ h
        unfold raQ rdD
        rw [h0, hn]
        dsimp only
        rw [if_neg (by decide)]
        (first | rw [if_pos rfl] | rw [if_pos trivial])
        rw [if_pos hen]
    by_cases hk2 : v = 2
    · subst hk2
      refine (zrsk_2 s x2 k2 e2 x3 k3 e3 _ w hs h0 h1 h2 (fl_0 _)).mono fun e w' h => toQ ⟨2, ⟨#[]⟩, wrap64 (x2 : Int), 0, wrap64 (x3 : Int)⟩ _ ?_ h
      unfold raQ
      rw [h0, h1]
      dsimp only
      rw [h2]
      rw [if_neg (by decide)]
      rw [if_neg (by decide)]
      (first | rw [if_pos rfl] | rw [if_pos trivial])
    by_cases hk3 : v = 3
    · subst hk3
      refine (zrsk_3 s x2 k2 e2 _ w hs h0 h1 (fl_0 _)).mono fun e w' h => toQ ⟨3, ⟨#[]⟩, 0, wrap64 (x2 : Int), 0⟩ _ ?_ h
      unfold raQ
      rw [h0, h1]
      dsimp only
      rw [if_neg (by decide)]
      rw [if_neg (by decide)]
      rw [if_neg (by decide)]
      (first | rw [if_pos rfl] | rw [if_pos trivial])
    by_cases hk4 : v = 4
    · subst hk4
      refine (zrsk_4 s _ w hs h0 (fl_0 _)).mono fun e w' h => toQ ⟨4, ⟨#[]⟩, 0, 0, 0⟩ _ ?_ h
      unfold raQ
      rw [h0]
      dsimp only
      rw [if_neg (by decide)]
      rw [if_neg (by decide)]
      rw [if_neg (by decide)]
      rw [if_neg (by decide)]
      (first | rw [if_pos rfl] | rw [if_pos trivial])
    by_cases hk5 : v = 5
    · subst hk5
      refine (zrsk_5 s x2 k2 e2 _ w hs h0 h1 (fl_0 _)).mono fun e w' h => toQ ⟨5, ⟨#[]⟩, wrap64 (x2 : Int), 0, 0⟩ _ ?_ h
      unfold raQ
      rw [h0, h1]
      dsimp only
      rw [if_neg (by decide)]
      rw [if_neg (by decide)]
      rw [if_neg (by decide)]
      rw [if_neg (by decide)]
      rw [if_neg (by decide)]
      (first | rw [if_pos rfl] | rw [if_pos trivial])
    by_cases hk6 : v = 6
    · subst hk6
      refine (zrsk_6 s _ w hs h0 (fl_0 _)).mono fun e w' h => toQ ⟨6, ⟨#[]⟩, 0, 0, 0⟩ _ ?_ h
      unfold raQ
      rw [h0]
      dsimp only
      rw [if_neg (by decide)]
      rw [if_neg (by decide)]
      rw [if_neg (by decide)]
      rw [if_neg (by decide)]
      rw [if_neg (by decide)]
      rw [if_neg (by decide)]
      (first | rw [if_pos rfl] | rw [if_pos trivial])
    · refine (zrsk_no s v w hs h0 (by omega)).mono fun e w' h => ?_
      have hq : raQ s = (zq, 6) := by
        unfold raQ
        rw [h0]
        dsimp only
        rw [if_neg (by decide)]
        rw [if_neg hk]
        rw [if_neg hk2]
        rw [if_neg hk3]
        rw [if_neg hk4]
        rw [if_neg hk5]
        rw [if_neg hk6]
      rw [hq]; exact h
  · obtain ⟨rfl, rfl, rfl⟩ := fx_bad h0 he
    refine (zrsk_short s w hs h0).mono fun e w' h => ?_
    have hq : raQ s = (zq, 20) := by
      unfold raQ
      rw [h0]
      dsimp only
      rw [if_pos he]
    rw [hq]; exact h
end Go.Proofs.YtgdaaohlongmlaaGreat
namespace Go.Proofs.YtgdaaohlongmlaaGreat
open Go.RowKit
/-- What the document's reading behind an OK answers and leaves. -/
def AN (b G : Nat) (s : ByteArray) (cells : Array Value) (k' e' EA : Nat) (w : World) (r : Ending) (w' : World) : Prop :=
  r = .returned (.int .i64 EA) ∧ RX w' b s k' e' ∧ w'.heap[G]? = some (.cells cells 27 (0, 0)) ∧ Ch (fun i => i = b ∨ i = G) w w'
set_option maxHeartbeats 1000000 in
set_option maxRecDepth 20000 in
theorem zan_1cut (b G : Nat) (s : ByteArray) (k2 : Nat) (w : World) (hs : s.size ≤ 9223372036854775807) (hk2 : k2 ≤ s.size) (h : RX w b s k2 0) (g : w.heap[G]? = some (.cells #[.int .i64 1, .int .i64 0, .bool false, .int .i64 0, .int .i64 0, .string ⟨#[]⟩] 27 (0, 0))) (hG : G ≠ b) (h2 : fx 1 s k2 0 = (0, k2, 20)) :
    Calls Tryz.prog 44 #[.pointer (some ⟨b, 0, none⟩), .pointer (some ⟨G, 0, none⟩)] w (AN b G s #[.int .i64 1, .int .i64 0, .bool false, .int .i64 0, .int .i64 0, .string ⟨#[]⟩] k2 20 20 w) := by
  have k0 : w.cell? ⟨G, 0, none⟩ = some (.int .i64 1) := (cell_of g).trans rfl
  have hlg := lt_of_heap g
  have R0 := hid g
  have H0 := hid h
  have C0 : Hid (Ch (fun i => i = b ∨ i = G) w w) := hid (Ch.refl _ _)
  clear g h
  go_enter Tryz.func44, Tryz.ntmps44
  go_wp2_with fail
  have CN := (fun W (H : RX W b s k2 0) => (show Calls _ _ _ _ (AnsX b s (.int .u8 0) k2 20 W) from by have C := xu8_any b s k2 0 W H hk2 hs; rw [h2] at C; exact C)) w H0.out
  refine CN.mono ?_
  rintro e w1 ⟨rfl, h1, hc1⟩
  have r1 : w1.heap[G]? = some (.cells #[.int .i64 1, .int .i64 0, .bool false, .int .i64 0, .int .i64 0, .string ⟨#[]⟩] 27 (0, 0)) := (hc1.block _ (lt_of_heap R0.out) hG).trans R0.out
  have d0 : w1.cell? ⟨G, 2, none⟩ = some (.bool false) := (cell_of r1).trans rfl
  have z0 := froz_of (i := 2) r1
  have R1 : Hid ((w1.setCell ⟨G, 2, none⟩ (.bool false)).heap[G]? = some (.cells #[.int .i64 1, .int .i64 0, .bool false, .int .i64 0, .int .i64 0, .string ⟨#[]⟩] 27 (0, 0))) := hid (heap_set r1)
  have H1 := hid (rx_set (i := 2) (v := .bool false) h1 hG)
  have C1 := hid ((C0.out.trans (ch2 hc1)).setCell ⟨G, 2, none⟩ (.bool false) (fun _ => Or.inr rfl))
  clear r1 h1 hc1 R0 H0 C0 CN
  go_wp2_with fail
  go_ret
  exact ⟨rfl, H1.out, R1.out, C1.out⟩
set_option maxHeartbeats 1000000 in
set_option maxRecDepth 20000 in
theorem zan_1bad (b G : Nat) (s : ByteArray) (k2 x3 k3 : Nat) (w : World) (hs : s.size ≤ 9223372036854775807) (hk2 : k2 ≤ s.size) (h : RX w b s k2 0) (g : w.heap[G]? = some (.cells #[.int .i64 1, .int .i64 0, .bool false, .int .i64 0, .int .i64 0, .string ⟨#[]⟩] 27 (0, 0))) (hG : G ≠ b) (h2 : fx 1 s k2 0 = (x3, k3, 0)) (hx : 1 < x3) :
    Calls Tryz.prog 44 #[.pointer (some ⟨b, 0, none⟩), .pointer (some ⟨G, 0, none⟩)] w (AN b G s #[.int .i64 1, .int .i64 0, .bool false, .int .i64 0, .int .i64 0, .string ⟨#[]⟩] k3 0 91 w) := by
  have hxi : (1 : Int) < (x3 : Int) := by omega
  have hxd : decide ((1 : Int) < (x3 : Int)) = true := decide_eq_true hxi
  have k0 : w.cell? ⟨G, 0, none⟩ = some (.int .i64 1) := (cell_of g).trans rfl
  have hlg := lt_of_heap g
  have R0 := hid g
  have H0 := hid h
  have C0 : Hid (Ch (fun i => i = b ∨ i = G) w w) := hid (Ch.refl _ _)
  clear g h
  go_enter Tryz.func44, Tryz.ntmps44
  go_wp2_with fail
  have CN := (fun W (H : RX W b s k2 0) => (show Calls _ _ _ _ (AnsX b s (.int .u8 x3) k3 0 W) from by have C := xu8_any b s k2 0 W H hk2 hs; rw [h2] at C; exact C)) w H0.out
  refine CN.mono ?_
  rintro e w1 ⟨rfl, h1, hc1⟩
  have R1 := hid ((hc1.block _ (lt_of_heap R0.out) hG).trans R0.out)
  have H1 := hid h1
  have C1 := hid (C0.out.trans (ch2 hc1))
  clear R0 H0 C0 CN h1 hc1
  go_wp2_with fail
  go_ret
  exact ⟨rfl, H1.out, R1.out, C1.out⟩
set_option maxHeartbeats 1000000 in
set_option maxRecDepth 20000 in
theorem zan_1 (b G : Nat) (s : ByteArray) (k2 x3 k3 x4 k4 e4 : Nat) (w : World) (hs : s.size ≤ 9223372036854775807) (hk2 : k2 ≤ s.size) (h : RX w b s k2 0) (g : w.heap[G]? = some (.cells #[.int .i64 1, .int .i64 0, .bool false, .int .i64 0, .int .i64 0, .string ⟨#[]⟩] 27 (0, 0))) (hG : G ≠ b) (h2 : fx 1 s k2 0 = (x3, k3, 0)) (h3 : fx 8 s k3 0 = (x4, k4, e4)) (hx : ¬ 1 < x3) (V : Bool) (hV : ((x3 : Int) == 1) = V) :
    Calls Tryz.prog 44 #[.pointer (some ⟨b, 0, none⟩), .pointer (some ⟨G, 0, none⟩)] w (AN b G s #[.int .i64 1, .int .i64 0, .bool V, .int .i64 (wrap64 x4), .int .i64 0, .string ⟨#[]⟩] k4 e4 e4 w) := by
  have hxi : ¬ (1 : Int) < (x3 : Int) := by omega
  have hxd : decide ((1 : Int) < (x3 : Int)) = false := decide_eq_false hxi
  have k0 : w.cell? ⟨G, 0, none⟩ = some (.int .i64 1) := (cell_of g).trans rfl
  have hlg := lt_of_heap g
  have R0 := hid g
  have H0 := hid h
  have C0 : Hid (Ch (fun i => i = b ∨ i = G) w w) := hid (Ch.refl _ _)
  clear g h
  go_enter Tryz.func44, Tryz.ntmps44
  go_wp2_with fail
  have CN := (fun W (H : RX W b s k2 0) => (show Calls _ _ _ _ (AnsX b s (.int .u8 x3) k3 0 W) from by have C := xu8_any b s k2 0 W H hk2 hs; rw [h2] at C; exact C)) w H0.out
  refine CN.mono ?_
  rintro e w1 ⟨rfl, h1, hc1⟩
  have r1 : w1.heap[G]? = some (.cells #[.int .i64 1, .int .i64 0, .bool false, .int .i64 0, .int .i64 0, .string ⟨#[]⟩] 27 (0, 0)) := (hc1.block _ (lt_of_heap R0.out) hG).trans R0.out
  have d0 : w1.cell? ⟨G, 2, none⟩ = some (.bool false) := (cell_of r1).trans rfl
  have z0 := froz_of (i := 2) r1
  have R1 : Hid ((w1.setCell ⟨G, 2, none⟩ (.bool V)).heap[G]? = some (.cells #[.int .i64 1, .int .i64 0, .bool V, .int .i64 0, .int .i64 0, .string ⟨#[]⟩] 27 (0, 0))) := hid (heap_set r1)
  have H1 := hid (rx_set (i := 2) (v := .bool V) h1 hG)
  have C1 := hid ((C0.out.trans (ch2 hc1)).setCell ⟨G, 2, none⟩ (.bool V) (fun _ => Or.inr rfl))
  clear r1 h1 hc1 R0 H0 C0 CN
  go_wp2_with fail
  have CN := (fun W (H : RX W b s k3 0) => (show Calls _ _ _ _ (AnsX b s (.int .i64 (wrap64 x4)) k4 e4 W) from by have C := xi64_any b s k3 0 W H (fxle hk2 h2) hs; rw [h3] at C; exact C)) _ H1.out
  refine CN.mono ?_
  rintro e w2 ⟨rfl, h2, hc2⟩
  have r2 : w2.heap[G]? = some (.cells #[.int .i64 1, .int .i64 0, .bool V, .int .i64 0, .int .i64 0, .string ⟨#[]⟩] 27 (0, 0)) := (hc2.block _ (lt_of_heap R1.out) hG).trans R1.out
  have d1 : w2.cell? ⟨G, 3, none⟩ = some (.int .i64 0) := (cell_of r2).trans rfl
  have z1 := froz_of (i := 3) r2
  have R2 : Hid ((w2.setCell ⟨G, 3, none⟩ (.int .i64 (wrap64 x4))).heap[G]? = some (.cells #[.int .i64 1, .int .i64 0, .bool V, .int .i64 (wrap64 x4), .int .i64 0, .string ⟨#[]⟩] 27 (0, 0))) := hid (heap_set r2)
  have H2 := hid (rx_set (i := 3) (v := .int .i64 (wrap64 x4)) h2 hG)
  have C2 := hid ((C1.out.trans (ch2 hc2)).setCell ⟨G, 3, none⟩ (.int .i64 (wrap64 x4)) (fun _ => Or.inr rfl))
  clear r2 h2 hc2 R1 H1 C1 CN
  go_wp2_with fail
  go_ret
  exact ⟨rfl, H2.out, R2.out, C2.out⟩
set_option maxHeartbeats 1000000 in
set_option maxRecDepth 20000 in
theorem zan_2cut (b G : Nat) (s : ByteArray) (k2 x3 k3 e3 : Nat) (w : World) (hs : s.size ≤ 9223372036854775807) (hk2 : k2 ≤ s.size) (h : RX w b s k2 0) (g : w.heap[G]? = some (.cells #[.int .i64 2, .int .i64 0, .bool false, .int .i64 0, .int .i64 0, .string ⟨#[]⟩] 27 (0, 0))) (hG : G ≠ b) (h2 : fx 8 s k2 0 = (x3, k3, e3)) (he : e3 ≠ 0) :
    Calls Tryz.prog 44 #[.pointer (some ⟨b, 0, none⟩), .pointer (some ⟨G, 0, none⟩)] w (AN b G s #[.int .i64 2, .int .i64 0, .bool false, .int .i64 0, .int .i64 (wrap64 x3), .string ⟨#[]⟩] k3 e3 e3 w) := by
  have hne : ((e3 : Int) == 0) = false := by rw [beq_eq_false_iff_ne]; omega
  have k0 : w.cell? ⟨G, 0, none⟩ = some (.int .i64 2) := (cell_of g).trans rfl
  have hlg := lt_of_heap g
  have R0 := hid g
  have H0 := hid h
  have C0 : Hid (Ch (fun i => i = b ∨ i = G) w w) := hid (Ch.refl _ _)
  clear g h
  go_enter Tryz.func44, Tryz.ntmps44
  go_wp2_with fail
  have CN := (fun W (H : RX W b s k2 0) => (show Calls _ _ _ _ (AnsX b s (.int .i64 (wrap64 x3)) k3 e3 W) from by have C := xi64_any b s k2 0 W H hk2 hs; rw [h2] at C; exact C)) w H0.out
  refine CN.mono ?_
  rintro e w1 ⟨rfl, h1, hc1⟩
  have r1 : w1.heap[G]? = some (.cells #[.int .i64 2, .int .i64 0, .bool false, .int .i64 0, .int .i64 0, .string ⟨#[]⟩] 27 (0, 0)) := (hc1.block _ (lt_of_heap R0.out) hG).trans R0.out
  have d0 : w1.cell? ⟨G, 4, none⟩ = some (.int .i64 0) := (cell_of r1).trans rfl
  have z0 := froz_of (i := 4) r1
  have R1 : Hid ((w1.setCell ⟨G, 4, none⟩ (.int .i64 (wrap64 x3))).heap[G]? = some (.cells #[.int .i64 2, .int .i64 0, .bool false, .int .i64 0, .int .i64 (wrap64 x3), .string ⟨#[]⟩] 27 (0, 0))) := hid (heap_set r1)
  have H1 := hid (rx_set (i := 4) (v := .int .i64 (wrap64 x3)) h1 hG)
  have C1 := hid ((C0.out.trans (ch2 hc1)).setCell ⟨G, 4, none⟩ (.int .i64 (wrap64 x3)) (fun _ => Or.inr rfl))
  clear r1 h1 hc1 R0 H0 C0 CN
  go_wp2_with fail
  go_ret
  exact ⟨rfl, H1.out, R1.out, C1.out⟩
set_option maxHeartbeats 1000000 in
set_option maxRecDepth 20000 in
theorem zan_2short (b G : Nat) (s : ByteArray) (k2 x3 k3 x4 k4 e4 : Nat) (w : World) (hs : s.size ≤ 9223372036854775807) (hk2 : k2 ≤ s.size) (h : RX w b s k2 0) (g : w.heap[G]? = some (.cells #[.int .i64 2, .int .i64 0, .bool false, .int .i64 0, .int .i64 0, .string ⟨#[]⟩] 27 (0, 0))) (hG : G ≠ b) (h2 : fx 8 s k2 0 = (x3, k3, 0)) (h3 : fx 4 s k3 0 = (x4, k4, e4)) (he : e4 ≠ 0) :
    Calls Tryz.prog 44 #[.pointer (some ⟨b, 0, none⟩), .pointer (some ⟨G, 0, none⟩)] w (AN b G s #[.int .i64 2, .int .i64 0, .bool false, .int .i64 0, .int .i64 (wrap64 x3), .string ⟨#[]⟩] k4 e4 e4 w) := by
  have k0 : w.cell? ⟨G, 0, none⟩ = some (.int .i64 2) := (cell_of g).trans rfl
  have hlg := lt_of_heap g
  have R0 := hid g
  have H0 := hid h
  have C0 : Hid (Ch (fun i => i = b ∨ i = G) w w) := hid (Ch.refl _ _)
  clear g h
  go_enter Tryz.func44, Tryz.ntmps44
  go_wp2_with fail
  have CN := (fun W (H : RX W b s k2 0) => (show Calls _ _ _ _ (AnsX b s (.int .i64 (wrap64 x3)) k3 0 W) from by have C := xi64_any b s k2 0 W H hk2 hs; rw [h2] at C; exact C)) w H0.out
  refine CN.mono ?_
  rintro e w1 ⟨rfl, h1, hc1⟩
  have r1 : w1.heap[G]? = some (.cells #[.int .i64 2, .int .i64 0, .bool false, .int .i64 0, .int .i64 0, .string ⟨#[]⟩] 27 (0, 0)) := (hc1.block _ (lt_of_heap R0.out) hG).trans R0.out
  have d0 : w1.cell? ⟨G, 4, none⟩ = some (.int .i64 0) := (cell_of r1).trans rfl
  have z0 := froz_of (i := 4) r1
  have R1 : Hid ((w1.setCell ⟨G, 4, none⟩ (.int .i64 (wrap64 x3))).heap[G]? = some (.cells #[.int .i64 2, .int .i64 0, .bool false, .int .i64 0, .int .i64 (wrap64 x3), .string ⟨#[]⟩] 27 (0, 0))) := hid (heap_set r1)
  have H1 := hid (rx_set (i := 4) (v := .int .i64 (wrap64 x3)) h1 hG)
  have C1 := hid ((C0.out.trans (ch2 hc1)).setCell ⟨G, 4, none⟩ (.int .i64 (wrap64 x3)) (fun _ => Or.inr rfl))
  clear r1 h1 hc1 R0 H0 C0 CN
  go_wp2_with fail
  have CN := (fun W (H : RX W b s k3 0) => xtaken_short b 1073741824 s k3 0 x4 k4 e4 W H (fxle hk2 h2) hs h3 he) _ H1.out
  refine CN.mono ?_
  rintro e w2 ⟨rfl, h2, hc2⟩
  have r2 : w2.heap[G]? = some (.cells #[.int .i64 2, .int .i64 0, .bool false, .int .i64 0, .int .i64 (wrap64 x3), .string ⟨#[]⟩] 27 (0, 0)) := (hc2.block _ (lt_of_heap R1.out) hG).trans R1.out
  have d1 : w2.cell? ⟨G, 5, none⟩ = some (.string ⟨#[]⟩) := (cell_of r2).trans rfl
  have z1 := froz_of (i := 5) r2
  have R2 : Hid ((w2.setCell ⟨G, 5, none⟩ (.string ⟨#[]⟩)).heap[G]? = some (.cells #[.int .i64 2, .int .i64 0, .bool false, .int .i64 0, .int .i64 (wrap64 x3), .string ⟨#[]⟩] 27 (0, 0))) := hid (heap_set r2)
  have H2 := hid (rx_set (i := 5) (v := .string ⟨#[]⟩) h2 hG)
  have C2 := hid ((C1.out.trans (ch2 hc2)).setCell ⟨G, 5, none⟩ (.string ⟨#[]⟩) (fun _ => Or.inr rfl))
  clear r2 h2 hc2 R1 H1 C1 CN
  go_wp2_with fail
  go_ret
  exact ⟨rfl, H2.out, R2.out, C2.out⟩
set_option maxHeartbeats 1000000 in
set_option maxRecDepth 20000 in
theorem zan_2long (b G : Nat) (s : ByteArray) (k2 x3 k3 x4 k4 : Nat) (w : World) (hs : s.size ≤ 9223372036854775807) (hk2 : k2 ≤ s.size) (h : RX w b s k2 0) (g : w.heap[G]? = some (.cells #[.int .i64 2, .int .i64 0, .bool false, .int .i64 0, .int .i64 0, .string ⟨#[]⟩] 27 (0, 0))) (hG : G ≠ b) (h2 : fx 8 s k2 0 = (x3, k3, 0)) (h3 : fx 4 s k3 0 = (x4, k4, 0)) (hc : dcut 1073741824 s x4 k4 = true) :
    Calls Tryz.prog 44 #[.pointer (some ⟨b, 0, none⟩), .pointer (some ⟨G, 0, none⟩)] w (AN b G s #[.int .i64 2, .int .i64 0, .bool false, .int .i64 0, .int .i64 (wrap64 x3), .string ⟨#[]⟩] k4 0 21 w) := by
  have k0 : w.cell? ⟨G, 0, none⟩ = some (.int .i64 2) := (cell_of g).trans rfl
  have hlg := lt_of_heap g
  have R0 := hid g
  have H0 := hid h
  have C0 : Hid (Ch (fun i => i = b ∨ i = G) w w) := hid (Ch.refl _ _)
  clear g h
  go_enter Tryz.func44, Tryz.ntmps44
  go_wp2_with fail
  have CN := (fun W (H : RX W b s k2 0) => (show Calls _ _ _ _ (AnsX b s (.int .i64 (wrap64 x3)) k3 0 W) from by have C := xi64_any b s k2 0 W H hk2 hs; rw [h2] at C; exact C)) w H0.out
  refine CN.mono ?_
  rintro e w1 ⟨rfl, h1, hc1⟩
  have r1 : w1.heap[G]? = some (.cells #[.int .i64 2, .int .i64 0, .bool false, .int .i64 0, .int .i64 0, .string ⟨#[]⟩] 27 (0, 0)) := (hc1.block _ (lt_of_heap R0.out) hG).trans R0.out
  have d0 : w1.cell? ⟨G, 4, none⟩ = some (.int .i64 0) := (cell_of r1).trans rfl
  have z0 := froz_of (i := 4) r1
  have R1 : Hid ((w1.setCell ⟨G, 4, none⟩ (.int .i64 (wrap64 x3))).heap[G]? = some (.cells #[.int .i64 2, .int .i64 0, .bool false, .int .i64 0, .int .i64 (wrap64 x3), .string ⟨#[]⟩] 27 (0, 0))) := hid (heap_set r1)
  have H1 := hid (rx_set (i := 4) (v := .int .i64 (wrap64 x3)) h1 hG)
  have C1 := hid ((C0.out.trans (ch2 hc1)).setCell ⟨G, 4, none⟩ (.int .i64 (wrap64 x3)) (fun _ => Or.inr rfl))
  clear r1 h1 hc1 R0 H0 C0 CN
  go_wp2_with fail
  have CN := (fun W (H : RX W b s k3 0) => xtaken_cut b 1073741824 s k3 x4 k4 W H (fxle hk2 h2) hs h3 hc (by omega)) _ H1.out
  refine CN.mono ?_
  rintro e w2 ⟨rfl, h2, hc2⟩
  have r2 : w2.heap[G]? = some (.cells #[.int .i64 2, .int .i64 0, .bool false, .int .i64 0, .int .i64 (wrap64 x3), .string ⟨#[]⟩] 27 (0, 0)) := (hc2.block _ (lt_of_heap R1.out) hG).trans R1.out
  have d1 : w2.cell? ⟨G, 5, none⟩ = some (.string ⟨#[]⟩) := (cell_of r2).trans rfl
  have z1 := froz_of (i := 5) r2
  have R2 : Hid ((w2.setCell ⟨G, 5, none⟩ (.string ⟨#[]⟩)).heap[G]? = some (.cells #[.int .i64 2, .int .i64 0, .bool false, .int .i64 0, .int .i64 (wrap64 x3), .string ⟨#[]⟩] 27 (0, 0))) := hid (heap_set r2)
  have H2 := hid (rx_set (i := 5) (v := .string ⟨#[]⟩) h2 hG)
  have C2 := hid ((C1.out.trans (ch2 hc2)).setCell ⟨G, 5, none⟩ (.string ⟨#[]⟩) (fun _ => Or.inr rfl))
  clear r2 h2 hc2 R1 H1 C1 CN
  go_wp2_with fail
  go_ret
  exact ⟨rfl, H2.out, R2.out, C2.out⟩
set_option maxHeartbeats 1000000 in
set_option maxRecDepth 20000 in
theorem zan_2 (b G : Nat) (s : ByteArray) (k2 x3 k3 x4 k4 : Nat) (w : World) (hs : s.size ≤ 9223372036854775807) (hk2 : k2 ≤ s.size) (h : RX w b s k2 0) (g : w.heap[G]? = some (.cells #[.int .i64 2, .int .i64 0, .bool false, .int .i64 0, .int .i64 0, .string ⟨#[]⟩] 27 (0, 0))) (hG : G ≠ b) (h2 : fx 8 s k2 0 = (x3, k3, 0)) (h3 : fx 4 s k3 0 = (x4, k4, 0)) (hM : x4 ≤ 1073741824) (hL : k4 + x4 ≤ s.size) :
    Calls Tryz.prog 44 #[.pointer (some ⟨b, 0, none⟩), .pointer (some ⟨G, 0, none⟩)] w (AN b G s #[.int .i64 2, .int .i64 0, .bool false, .int .i64 0, .int .i64 (wrap64 x3), .string (s.extract k4 (k4 + x4))] (k4 + x4) 0 0 w) := by
  have k0 : w.cell? ⟨G, 0, none⟩ = some (.int .i64 2) := (cell_of g).trans rfl
  have hlg := lt_of_heap g
  have R0 := hid g
  have H0 := hid h
  have C0 : Hid (Ch (fun i => i = b ∨ i = G) w w) := hid (Ch.refl _ _)
  clear g h
  go_enter Tryz.func44, Tryz.ntmps44
  go_wp2_with fail
  have CN := (fun W (H : RX W b s k2 0) => (show Calls _ _ _ _ (AnsX b s (.int .i64 (wrap64 x3)) k3 0 W) from by have C := xi64_any b s k2 0 W H hk2 hs; rw [h2] at C; exact C)) w H0.out
  refine CN.mono ?_
  rintro e w1 ⟨rfl, h1, hc1⟩
  have r1 : w1.heap[G]? = some (.cells #[.int .i64 2, .int .i64 0, .bool false, .int .i64 0, .int .i64 0, .string ⟨#[]⟩] 27 (0, 0)) := (hc1.block _ (lt_of_heap R0.out) hG).trans R0.out
  have d0 : w1.cell? ⟨G, 4, none⟩ = some (.int .i64 0) := (cell_of r1).trans rfl
  have z0 := froz_of (i := 4) r1
  have R1 : Hid ((w1.setCell ⟨G, 4, none⟩ (.int .i64 (wrap64 x3))).heap[G]? = some (.cells #[.int .i64 2, .int .i64 0, .bool false, .int .i64 0, .int .i64 (wrap64 x3), .string ⟨#[]⟩] 27 (0, 0))) := hid (heap_set r1)
  have H1 := hid (rx_set (i := 4) (v := .int .i64 (wrap64 x3)) h1 hG)
  have C1 := hid ((C0.out.trans (ch2 hc1)).setCell ⟨G, 4, none⟩ (.int .i64 (wrap64 x3)) (fun _ => Or.inr rfl))
  clear r1 h1 hc1 R0 H0 C0 CN
  go_wp2_with fail
  have CN := (fun W (H : RX W b s k3 0) => xtaken_ok b 1073741824 s k3 x4 k4 W H (fxle hk2 h2) hs h3 hM hL (by omega)) _ H1.out
  refine CN.mono ?_
  rintro e w2 ⟨rfl, h2, hc2⟩
  have r2 : w2.heap[G]? = some (.cells #[.int .i64 2, .int .i64 0, .bool false, .int .i64 0, .int .i64 (wrap64 x3), .string ⟨#[]⟩] 27 (0, 0)) := (hc2.block _ (lt_of_heap R1.out) hG).trans R1.out
  have d1 : w2.cell? ⟨G, 5, none⟩ = some (.string ⟨#[]⟩) := (cell_of r2).trans rfl
  have z1 := froz_of (i := 5) r2
  have R2 : Hid ((w2.setCell ⟨G, 5, none⟩ (.string (s.extract k4 (k4 + x4)))).heap[G]? = some (.cells #[.int .i64 2, .int .i64 0, .bool false, .int .i64 0, .int .i64 (wrap64 x3), .string (s.extract k4 (k4 + x4))] 27 (0, 0))) := hid (heap_set r2)
  have H2 := hid (rx_set (i := 5) (v := .string (s.extract k4 (k4 + x4))) h2 hG)
  have C2 := hid ((C1.out.trans (ch2 hc2)).setCell ⟨G, 5, none⟩ (.string (s.extract k4 (k4 + x4))) (fun _ => Or.inr rfl))
  clear r2 h2 hc2 R1 H1 C1 CN
  go_wp2_with fail
  go_ret
  exact ⟨rfl, H2.out, R2.out, C2.out⟩
set_option maxHeartbeats 1000000 in
set_option maxRecDepth 20000 in
theorem zan_3 (b G : Nat) (s : ByteArray) (k2 x3 k3 e3 : Nat) (w : World) (hs : s.size ≤ 9223372036854775807) (hk2 : k2 ≤ s.size) (h : RX w b s k2 0) (g : w.heap[G]? = some (.cells #[.int .i64 3, .int .i64 0, .bool false, .int .i64 0, .int .i64 0, .string ⟨#[]⟩] 27 (0, 0))) (hG : G ≠ b) (h2 : fx 8 s k2 0 = (x3, k3, e3)) :
    Calls Tryz.prog 44 #[.pointer (some ⟨b, 0, none⟩), .pointer (some ⟨G, 0, none⟩)] w (AN b G s #[.int .i64 3, .int .i64 0, .bool false, .int .i64 (wrap64 x3), .int .i64 0, .string ⟨#[]⟩] k3 e3 e3 w) := by
  have k0 : w.cell? ⟨G, 0, none⟩ = some (.int .i64 3) := (cell_of g).trans rfl
  have hlg := lt_of_heap g
  have R0 := hid g
  have H0 := hid h
  have C0 : Hid (Ch (fun i => i = b ∨ i = G) w w) := hid (Ch.refl _ _)
  clear g h
  go_enter Tryz.func44, Tryz.ntmps44
  go_wp2_with fail
  have CN := (fun W (H : RX W b s k2 0) => (show Calls _ _ _ _ (AnsX b s (.int .i64 (wrap64 x3)) k3 e3 W) from by have C := xi64_any b s k2 0 W H hk2 hs; rw [h2] at C; exact C)) w H0.out
  refine CN.mono ?_
  rintro e w1 ⟨rfl, h1, hc1⟩
  have r1 : w1.heap[G]? = some (.cells #[.int .i64 3, .int .i64 0, .bool false, .int .i64 0, .int .i64 0, .string ⟨#[]⟩] 27 (0, 0)) := (hc1.block _ (lt_of_heap R0.out) hG).trans R0.out
  have d0 : w1.cell? ⟨G, 3, none⟩ = some (.int .i64 0) := (cell_of r1).trans rfl
  have z0 := froz_of (i := 3) r1
  have R1 : Hid ((w1.setCell ⟨G, 3, none⟩ (.int .i64 (wrap64 x3))).heap[G]? = some (.cells #[.int .i64 3, .int .i64 0, .bool false, .int .i64 (wrap64 x3), .int .i64 0, .string ⟨#[]⟩] 27 (0, 0))) := hid (heap_set r1)
  have H1 := hid (rx_set (i := 3) (v := .int .i64 (wrap64 x3)) h1 hG)
  have C1 := hid ((C0.out.trans (ch2 hc1)).setCell ⟨G, 3, none⟩ (.int .i64 (wrap64 x3)) (fun _ => Or.inr rfl))
  clear r1 h1 hc1 R0 H0 C0 CN
  go_wp2_with fail
  go_ret
  exact ⟨rfl, H1.out, R1.out, C1.out⟩
set_option maxHeartbeats 1000000 in
set_option maxRecDepth 20000 in
theorem zan_4 (b G : Nat) (s : ByteArray) (k2 x3 k3 e3 : Nat) (w : World) (hs : s.size ≤ 9223372036854775807) (hk2 : k2 ≤ s.size) (h : RX w b s k2 0) (g : w.heap[G]? = some (.cells #[.int .i64 4, .int .i64 0, .bool false, .int .i64 0, .int .i64 0, .string ⟨#[]⟩] 27 (0, 0))) (hG : G ≠ b) (h2 : fx 8 s k2 0 = (x3, k3, e3)) :
    Calls Tryz.prog 44 #[.pointer (some ⟨b, 0, none⟩), .pointer (some ⟨G, 0, none⟩)] w (AN b G s #[.int .i64 4, .int .i64 0, .bool false, .int .i64 0, .int .i64 (wrap64 x3), .string ⟨#[]⟩] k3 e3 e3 w) := by
  have k0 : w.cell? ⟨G, 0, none⟩ = some (.int .i64 4) := (cell_of g).trans rfl
  have hlg := lt_of_heap g
  have R0 := hid g
  have H0 := hid h
  have C0 : Hid (Ch (fun i => i = b ∨ i = G) w w) := hid (Ch.refl _ _)
  clear g h
  go_enter Tryz.func44, Tryz.ntmps44
  go_wp2_with fail
  have CN := (fun W (H : RX W b s k2 0) => (show Calls _ _ _ _ (AnsX b s (.int .i64 (wrap64 x3)) k3 e3 W) from by have C := xi64_any b s k2 0 W H hk2 hs; rw [h2] at C; exact C)) w H0.out
  refine CN.mono ?_
  rintro e w1 ⟨rfl, h1, hc1⟩
  have r1 : w1.heap[G]? = some (.cells #[.int .i64 4, .int .i64 0, .bool false, .int .i64 0, .int .i64 0, .string ⟨#[]⟩] 27 (0, 0)) := (hc1.block _ (lt_of_heap R0.out) hG).trans R0.out
  have d0 : w1.cell? ⟨G, 4, none⟩ = some (.int .i64 0) := (cell_of r1).trans rfl
  have z0 := froz_of (i := 4) r1
  have R1 : Hid ((w1.setCell ⟨G, 4, none⟩ (.int .i64 (wrap64 x3))).heap[G]? = some (.cells #[.int .i64 4, .int .i64 0, .bool false, .int .i64 0, .int .i64 (wrap64 x3), .string ⟨#[]⟩] 27 (0, 0))) := hid (heap_set r1)
  have H1 := hid (rx_set (i := 4) (v := .int .i64 (wrap64 x3)) h1 hG)
  have C1 := hid ((C0.out.trans (ch2 hc1)).setCell ⟨G, 4, none⟩ (.int .i64 (wrap64 x3)) (fun _ => Or.inr rfl))
  clear r1 h1 hc1 R0 H0 C0 CN
  go_wp2_with fail
  go_ret
  exact ⟨rfl, H1.out, R1.out, C1.out⟩
set_option maxHeartbeats 1000000 in
set_option maxRecDepth 20000 in
theorem zan_5 (b G : Nat) (s : ByteArray) (k2 x3 k3 e3 : Nat) (w : World) (hs : s.size ≤ 9223372036854775807) (hk2 : k2 ≤ s.size) (h : RX w b s k2 0) (g : w.heap[G]? = some (.cells #[.int .i64 5, .int .i64 0, .bool false, .int .i64 0, .int .i64 0, .string ⟨#[]⟩] 27 (0, 0))) (hG : G ≠ b) (h2 : fx 8 s k2 0 = (x3, k3, e3)) :
    Calls Tryz.prog 44 #[.pointer (some ⟨b, 0, none⟩), .pointer (some ⟨G, 0, none⟩)] w (AN b G s #[.int .i64 5, .int .i64 0, .bool false, .int .i64 (wrap64 x3), .int .i64 0, .string ⟨#[]⟩] k3 e3 e3 w) := by
  have k0 : w.cell? ⟨G, 0, none⟩ = some (.int .i64 5) := (cell_of g).trans rfl
  have hlg := lt_of_heap g
  have R0 := hid g
  have H0 := hid h
  have C0 : Hid (Ch (fun i => i = b ∨ i = G) w w) := hid (Ch.refl _ _)
  clear g h
  go_enter Tryz.func44, Tryz.ntmps44
  go_wp2_with fail
  have CN := (fun W (H : RX W b s k2 0) => (show Calls _ _ _ _ (AnsX b s (.int .i64 (wrap64 x3)) k3 e3 W) from by have C := xi64_any b s k2 0 W H hk2 hs; rw [h2] at C; exact C)) w H0.out
  refine CN.mono ?_
  rintro e w1 ⟨rfl, h1, hc1⟩
  have r1 : w1.heap[G]? = some (.cells #[.int .i64 5, .int .i64 0, .bool false, .int .i64 0, .int .i64 0, .string ⟨#[]⟩] 27 (0, 0)) := (hc1.block _ (lt_of_heap R0.out) hG).trans R0.out
  have d0 : w1.cell? ⟨G, 3, none⟩ = some (.int .i64 0) := (cell_of r1).trans rfl
  have z0 := froz_of (i := 3) r1
  have R1 : Hid ((w1.setCell ⟨G, 3, none⟩ (.int .i64 (wrap64 x3))).heap[G]? = some (.cells #[.int .i64 5, .int .i64 0, .bool false, .int .i64 (wrap64 x3), .int .i64 0, .string ⟨#[]⟩] 27 (0, 0))) := hid (heap_set r1)
  have H1 := hid (rx_set (i := 3) (v := .int .i64 (wrap64 x3)) h1 hG)
  have C1 := hid ((C0.out.trans (ch2 hc1)).setCell ⟨G, 3, none⟩ (.int .i64 (wrap64 x3)) (fun _ => Or.inr rfl))
  clear r1 h1 hc1 R0 H0 C0 CN
  go_wp2_with fail
  go_ret
  exact ⟨rfl, H1.out, R1.out, C1.out⟩
set_option maxHeartbeats 1000000 in
set_option maxRecDepth 20000 in
theorem zan_6 (b G : Nat) (s : ByteArray) (k2 x3 k3 e3 x4 k4 e4 : Nat) (w : World) (hs : s.size ≤ 9223372036854775807) (hk2 : k2 ≤ s.size) (h : RX w b s k2 0) (g : w.heap[G]? = some (.cells #[.int .i64 6, .int .i64 0, .bool false, .int .i64 0, .int .i64 0, .string ⟨#[]⟩] 27 (0, 0))) (hG : G ≠ b) (h2 : fx 8 s k2 0 = (x3, k3, e3)) (h3 : fx 8 s k3 e3 = (x4, k4, e4)) :
    Calls Tryz.prog 44 #[.pointer (some ⟨b, 0, none⟩), .pointer (some ⟨G, 0, none⟩)] w (AN b G s #[.int .i64 6, .int .i64 0, .bool false, .int .i64 (wrap64 x3), .int .i64 (wrap64 x4), .string ⟨#[]⟩] k4 e4 e4 w) := by
  have k0 : w.cell? ⟨G, 0, none⟩ = some (.int .i64 6) := (cell_of g).trans rfl
  have hlg := lt_of_heap g
  have R0 := hid g
  have H0 := hid h
  have C0 : Hid (Ch (fun i => i = b ∨ i = G) w w) := hid (Ch.refl _ _)
  clear g h
  go_enter Tryz.func44, Tryz.ntmps44
  go_wp2_with fail
  have CN := (fun W (H : RX W b s k2 0) => (show Calls _ _ _ _ (AnsX b s (.int .i64 (wrap64 x3)) k3 e3 W) from by have C := xi64_any b s k2 0 W H hk2 hs; rw [h2] at C; exact C)) w H0.out
  refine CN.mono ?_
  rintro e w1 ⟨rfl, h1, hc1⟩
  have r1 : w1.heap[G]? = some (.cells #[.int .i64 6, .int .i64 0, .bool false, .int .i64 0, .int .i64 0, .string ⟨#[]⟩] 27 (0, 0)) := (hc1.block _ (lt_of_heap R0.out) hG).trans R0.out
  have d0 : w1.cell? ⟨G, 3, none⟩ = some (.int .i64 0) := (cell_of r1).trans rfl
  have z0 := froz_of (i := 3) r1
  have R1 : Hid ((w1.setCell ⟨G, 3, none⟩ (.int .i64 (wrap64 x3))).heap[G]? = some (.cells #[.int .i64 6, .int .i64 0, .bool false, .int .i64 (wrap64 x3), .int .i64 0, .string ⟨#[]⟩] 27 (0, 0))) := hid (heap_set r1)
  have H1 := hid (rx_set (i := 3) (v := .int .i64 (wrap64 x3)) h1 hG)
  have C1 := hid ((C0.out.trans (ch2 hc1)).setCell ⟨G, 3, none⟩ (.int .i64 (wrap64 x3)) (fun _ => Or.inr rfl))
  clear r1 h1 hc1 R0 H0 C0 CN
  go_wp2_with fail
  have CN := (fun W (H : RX W b s k3 e3) => (show Calls _ _ _ _ (AnsX b s (.int .i64 (wrap64 x4)) k4 e4 W) from by have C := xi64_any b s k3 e3 W H (fxle hk2 h2) hs; rw [h3] at C; exact C)) _ H1.out
  refine CN.mono ?_
  rintro e w2 ⟨rfl, h2, hc2⟩
  have r2 : w2.heap[G]? = some (.cells #[.int .i64 6, .int .i64 0, .bool false, .int .i64 (wrap64 x3), .int .i64 0, .string ⟨#[]⟩] 27 (0, 0)) := (hc2.block _ (lt_of_heap R1.out) hG).trans R1.out
  have d1 : w2.cell? ⟨G, 4, none⟩ = some (.int .i64 0) := (cell_of r2).trans rfl
  have z1 := froz_of (i := 4) r2
  have R2 : Hid ((w2.setCell ⟨G, 4, none⟩ (.int .i64 (wrap64 x4))).heap[G]? = some (.cells #[.int .i64 6, .int .i64 0, .bool false, .int .i64 (wrap64 x3), .int .i64 (wrap64 x4), .string ⟨#[]⟩] 27 (0, 0))) := hid (heap_set r2)
  have H2 := hid (rx_set (i := 4) (v := .int .i64 (wrap64 x4)) h2 hG)
  have C2 := hid ((C1.out.trans (ch2 hc2)).setCell ⟨G, 4, none⟩ (.int .i64 (wrap64 x4)) (fun _ => Or.inr rfl))
  clear r2 h2 hc2 R1 H1 C1 CN
  go_wp2_with fail
  go_ret
  exact ⟨rfl, H2.out, R2.out, C2.out⟩
end Go.Proofs.YtgdaaohlongmlaaGreat
namespace Go.Proofs.YtgdaaohlongmlaaGreat
open Go.RowKit
set_option maxHeartbeats 1000000 in
set_option maxRecDepth 20000 in
theorem zrr_empty (s : ByteArray)  (w : World) (hs : s.size ≤ 9223372036854775807) (h0 : fx 1 s 0 0 = (0, 0, 20)) :
    Calls Tryz.prog 17 #[.string s] w fun e w' => e = .returned (.tuple #[.agg #[.int .i64 0, .int .i64 0, .bool false, .int .i64 0, .int .i64 0, .string ⟨#[]⟩], .int .i64 20]) ∧ Below w.heap.size w w' := by
  have hk1 := fxle (Nat.zero_le _) h0
  have g1 : (w.alloc (.cells #[.int .i64 0, .int .i64 0, .bool false, .int .i64 0, .int .i64 0, .string ⟨#[]⟩] 27)).heap[w.heap.size]? = some (.cells #[.int .i64 0, .int .i64 0, .bool false, .int .i64 0, .int .i64 0, .string ⟨#[]⟩] 27 (0, 0)) := heap_new _ _
  have b1 : Below w.heap.size w (w.alloc (.cells #[.int .i64 0, .int .i64 0, .bool false, .int .i64 0, .int .i64 0, .string ⟨#[]⟩] 27)) := (Below.refl _ _).alloc (Nat.le_refl _) _
  go_enter Tryz.func17, Tryz.ntmps17
  go_wp2_with fail
  generalize w.alloc (.cells #[.int .i64 0, .int .i64 0, .bool false, .int .i64 0, .int .i64 0, .string ⟨#[]⟩] 27) = w1 at *
  refine (xnew_any s w1).mono ?_
  rintro e w2 ⟨rfl, rfl⟩
  have h2' : RX (w1.alloc (.cells #[.string s, .int .i64 0, .int .i64 0] 113)) w1.heap.size s 0 0 := heap_new _ _
  have g2 : (w1.alloc (.cells #[.string s, .int .i64 0, .int .i64 0] 113)).heap[w.heap.size]? = some (.cells #[.int .i64 0, .int .i64 0, .bool false, .int .i64 0, .int .i64 0, .string ⟨#[]⟩] 27 (0, 0)) := heap_alloc_at g1
  have b2 : Below w.heap.size w (w1.alloc (.cells #[.string s, .int .i64 0, .int .i64 0] 113)) := b1.alloc b1.size _
  have hbb : w.heap.size < w1.heap.size := lt_of_heap g1
  have G2 := hid g2
  have B2 := hid b2
  clear g1 b1 g2 b2
  go_wp2_with fail
  generalize w1.alloc (.cells #[.string s, .int .i64 0, .int .i64 0] 113) = w2 at *
  generalize w1.heap.size = b at *
  have CU := xu8_any b s 0 0 w2 h2' (Nat.zero_le _) hs
  rw [h0] at CU
  dsimp only at CU
  refine CU.mono ?_
  rintro e w3 ⟨rfl, h3', hc3⟩
  have G3 : Hid (w3.heap[w.heap.size]? = some (.cells #[.int .i64 0, .int .i64 0, .bool false, .int .i64 0, .int .i64 0, .string ⟨#[]⟩] 27 (0, 0))) := hid ((hc3.block _ (lt_of_heap G2.out) (by omega)).trans G2.out)
  have B3 : Hid (Below w.heap.size w w3) := hid (B2.out.trans (hc3.below B2.out.size (fun i hi h => by omega)))
  clear hc3 G2 B2 h2' CU
  have xx0 : w3.cell? ⟨w.heap.size, 0, none⟩ = some (.int .i64 0) := (cell_of G3.out).trans rfl
  have xx1 : w3.cell? ⟨w.heap.size, 1, none⟩ = some (.int .i64 0) := (cell_of G3.out).trans rfl
  have xx2 : w3.cell? ⟨w.heap.size, 2, none⟩ = some (.bool false) := (cell_of G3.out).trans rfl
  have xx3 : w3.cell? ⟨w.heap.size, 3, none⟩ = some (.int .i64 0) := (cell_of G3.out).trans rfl
  have xx4 : w3.cell? ⟨w.heap.size, 4, none⟩ = some (.int .i64 0) := (cell_of G3.out).trans rfl
  have xx5 : w3.cell? ⟨w.heap.size, 5, none⟩ = some (.string ⟨#[]⟩) := (cell_of G3.out).trans rfl
  have gF : ((((((w3.setCell ⟨w.heap.size, 0, none⟩ (.int .i64 0)).setCell ⟨w.heap.size, 1, none⟩ (.int .i64 0)).setCell ⟨w.heap.size, 2, none⟩ (.bool false)).setCell ⟨w.heap.size, 3, none⟩ (.int .i64 0)).setCell ⟨w.heap.size, 4, none⟩ (.int .i64 0)).setCell ⟨w.heap.size, 5, none⟩ (.string ⟨#[]⟩)).heap[w.heap.size]? = some (.cells #[.int .i64 0, .int .i64 0, .bool false, .int .i64 0, .int .i64 0, .string ⟨#[]⟩] 27 (0, 0)) := (heap_set (heap_set (heap_set (heap_set (heap_set (heap_set G3.out))))))
  have bF : Below w.heap.size w ((((((w3.setCell ⟨w.heap.size, 0, none⟩ (.int .i64 0)).setCell ⟨w.heap.size, 1, none⟩ (.int .i64 0)).setCell ⟨w.heap.size, 2, none⟩ (.bool false)).setCell ⟨w.heap.size, 3, none⟩ (.int .i64 0)).setCell ⟨w.heap.size, 4, none⟩ (.int .i64 0)).setCell ⟨w.heap.size, 5, none⟩ (.string ⟨#[]⟩)) := ((((((B3.out.setCell (Nat.le_refl _) _).setCell (Nat.le_refl _) _).setCell (Nat.le_refl _) _).setCell (Nat.le_refl _) _).setCell (Nat.le_refl _) _).setCell (Nat.le_refl _) _)
  have hrF := lt_of_heap G3.out
  have zz0 := froz_of (i := 0) G3.out
  have zz1 := froz_of (i := 1) G3.out
  have zz2 := froz_of (i := 2) G3.out
  have zz3 := froz_of (i := 3) G3.out
  have zz4 := froz_of (i := 4) G3.out
  have zz5 := froz_of (i := 5) G3.out
  go_wp2_with fail
  generalize ((((((w3.setCell ⟨w.heap.size, 0, none⟩ (.int .i64 0)).setCell ⟨w.heap.size, 1, none⟩ (.int .i64 0)).setCell ⟨w.heap.size, 2, none⟩ (.bool false)).setCell ⟨w.heap.size, 3, none⟩ (.int .i64 0)).setCell ⟨w.heap.size, 4, none⟩ (.int .i64 0)).setCell ⟨w.heap.size, 5, none⟩ (.string ⟨#[]⟩)) = wF at *
  have ff0 : wF.cell? ⟨w.heap.size, 0, none⟩ = some (.int .i64 0) := (cell_of gF).trans rfl
  have ff1 : wF.cell? ⟨w.heap.size, 1, none⟩ = some (.int .i64 0) := (cell_of gF).trans rfl
  have ff2 : wF.cell? ⟨w.heap.size, 2, none⟩ = some (.bool false) := (cell_of gF).trans rfl
  have ff3 : wF.cell? ⟨w.heap.size, 3, none⟩ = some (.int .i64 0) := (cell_of gF).trans rfl
  have ff4 : wF.cell? ⟨w.heap.size, 4, none⟩ = some (.int .i64 0) := (cell_of gF).trans rfl
  have ff5 : wF.cell? ⟨w.heap.size, 5, none⟩ = some (.string ⟨#[]⟩) := (cell_of gF).trans rfl
  exact bodyPost_ret (v := .tuple #[.agg #[.int .i64 0, .int .i64 0, .bool false, .int .i64 0, .int .i64 0, .string ⟨#[]⟩], .int .i64 20]) (by simp [results, Tryz.results17, go_sem, ff0, ff1, ff2, ff3, ff4, ff5]) rfl ⟨rfl, bF⟩
set_option maxHeartbeats 1000000 in
set_option maxRecDepth 20000 in
theorem zrr_kind (s : ByteArray) (v : Nat) (w : World) (hs : s.size ≤ 9223372036854775807) (h0 : fx 1 s 0 0 = (v, 1, 0)) (hv : ¬ (1 ≤ (v : Int) ∧ (v : Int) ≤ 6)) (hvz : v ≠ 0) :
    Calls Tryz.prog 17 #[.string s] w fun e w' => e = .returned (.tuple #[.agg #[.int .i64 0, .int .i64 0, .bool false, .int .i64 0, .int .i64 0, .string ⟨#[]⟩], .int .i64 6]) ∧ Below w.heap.size w w' := by
  have hk1 := fxle (Nat.zero_le _) h0
  have hv0 : ((v : Int) == 0) = false := by rw [beq_eq_false_iff_ne]; omega
  have hv1 : ((v : Int) != 0) = true := by rw [bne_iff_ne]; omega
  have hwv : IntKind.i64.wrap (v : Int) = v := wrapY (by omega) (by have := fxlt h0; omega)
  have g1 : (w.alloc (.cells #[.int .i64 0, .int .i64 0, .bool false, .int .i64 0, .int .i64 0, .string ⟨#[]⟩] 27)).heap[w.heap.size]? = some (.cells #[.int .i64 0, .int .i64 0, .bool false, .int .i64 0, .int .i64 0, .string ⟨#[]⟩] 27 (0, 0)) := heap_new _ _
  have b1 : Below w.heap.size w (w.alloc (.cells #[.int .i64 0, .int .i64 0, .bool false, .int .i64 0, .int .i64 0, .string ⟨#[]⟩] 27)) := (Below.refl _ _).alloc (Nat.le_refl _) _
  go_enter Tryz.func17, Tryz.ntmps17
  go_wp2_with fail
  generalize w.alloc (.cells #[.int .i64 0, .int .i64 0, .bool false, .int .i64 0, .int .i64 0, .string ⟨#[]⟩] 27) = w1 at *
  refine (xnew_any s w1).mono ?_
  rintro e w2 ⟨rfl, rfl⟩
  have h2' : RX (w1.alloc (.cells #[.string s, .int .i64 0, .int .i64 0] 113)) w1.heap.size s 0 0 := heap_new _ _
  have g2 : (w1.alloc (.cells #[.string s, .int .i64 0, .int .i64 0] 113)).heap[w.heap.size]? = some (.cells #[.int .i64 0, .int .i64 0, .bool false, .int .i64 0, .int .i64 0, .string ⟨#[]⟩] 27 (0, 0)) := heap_alloc_at g1
  have b2 : Below w.heap.size w (w1.alloc (.cells #[.string s, .int .i64 0, .int .i64 0] 113)) := b1.alloc b1.size _
  have hbb : w.heap.size < w1.heap.size := lt_of_heap g1
  have G2 := hid g2
  have B2 := hid b2
  clear g1 b1 g2 b2
  go_wp2_with fail
  generalize w1.alloc (.cells #[.string s, .int .i64 0, .int .i64 0] 113) = w2 at *
  generalize w1.heap.size = b at *
  have CU := xu8_any b s 0 0 w2 h2' (Nat.zero_le _) hs
  rw [h0] at CU
  dsimp only at CU
  refine CU.mono ?_
  rintro e w3 ⟨rfl, h3', hc3⟩
  have G3 : Hid (w3.heap[w.heap.size]? = some (.cells #[.int .i64 0, .int .i64 0, .bool false, .int .i64 0, .int .i64 0, .string ⟨#[]⟩] 27 (0, 0))) := hid ((hc3.block _ (lt_of_heap G2.out) (by omega)).trans G2.out)
  have B3 : Hid (Below w.heap.size w w3) := hid (B2.out.trans (hc3.below B2.out.size (fun i hi h => by omega)))
  clear hc3 G2 B2 h2' CU
  have h4 : RX (w3.alloc (.cells #[.int .i64 v, .int .i64 0, .bool false, .int .i64 0, .int .i64 0, .string ⟨#[]⟩] 27)) b s 1 0 := h3'.alloc _
  have r4 : (w3.alloc (.cells #[.int .i64 v, .int .i64 0, .bool false, .int .i64 0, .int .i64 0, .string ⟨#[]⟩] 27)).heap[w3.heap.size]? = some (.cells #[.int .i64 v, .int .i64 0, .bool false, .int .i64 0, .int .i64 0, .string ⟨#[]⟩] 27 (0, 0)) := heap_new _ _
  have G4 : Hid ((w3.alloc (.cells #[.int .i64 v, .int .i64 0, .bool false, .int .i64 0, .int .i64 0, .string ⟨#[]⟩] 27)).heap[w.heap.size]? = some (.cells #[.int .i64 0, .int .i64 0, .bool false, .int .i64 0, .int .i64 0, .string ⟨#[]⟩] 27 (0, 0))) := hid (heap_alloc_at G3.out)
  have B4 : Hid (Below w.heap.size w (w3.alloc (.cells #[.int .i64 v, .int .i64 0, .bool false, .int .i64 0, .int .i64 0, .string ⟨#[]⟩] 27))) := hid (B3.out.alloc B3.out.size _)
  have hGG : w3.heap.size ≠ b ∧ w.heap.size < w3.heap.size := ⟨by have := h3'.lt; omega, lt_of_heap G3.out⟩
  clear G3 B3 h3'
  go_wp2_with fail
  generalize (w3.alloc (.cells #[.int .i64 v, .int .i64 0, .bool false, .int .i64 0, .int .i64 0, .string ⟨#[]⟩] 27)) = w4 at *
  generalize w3.heap.size = G at *
  refine (xknown_no _ _ (by omega)).mono ?_
  rintro e w4 ⟨rfl, rfl⟩
  have xx0 : w4.cell? ⟨w.heap.size, 0, none⟩ = some (.int .i64 0) := (cell_of G4.out).trans rfl
  have xx1 : w4.cell? ⟨w.heap.size, 1, none⟩ = some (.int .i64 0) := (cell_of G4.out).trans rfl
  have xx2 : w4.cell? ⟨w.heap.size, 2, none⟩ = some (.bool false) := (cell_of G4.out).trans rfl
  have xx3 : w4.cell? ⟨w.heap.size, 3, none⟩ = some (.int .i64 0) := (cell_of G4.out).trans rfl
  have xx4 : w4.cell? ⟨w.heap.size, 4, none⟩ = some (.int .i64 0) := (cell_of G4.out).trans rfl
  have xx5 : w4.cell? ⟨w.heap.size, 5, none⟩ = some (.string ⟨#[]⟩) := (cell_of G4.out).trans rfl
  have gF : ((((((w4.setCell ⟨w.heap.size, 0, none⟩ (.int .i64 0)).setCell ⟨w.heap.size, 1, none⟩ (.int .i64 0)).setCell ⟨w.heap.size, 2, none⟩ (.bool false)).setCell ⟨w.heap.size, 3, none⟩ (.int .i64 0)).setCell ⟨w.heap.size, 4, none⟩ (.int .i64 0)).setCell ⟨w.heap.size, 5, none⟩ (.string ⟨#[]⟩)).heap[w.heap.size]? = some (.cells #[.int .i64 0, .int .i64 0, .bool false, .int .i64 0, .int .i64 0, .string ⟨#[]⟩] 27 (0, 0)) := (heap_set (heap_set (heap_set (heap_set (heap_set (heap_set G4.out))))))
  have bF : Below w.heap.size w ((((((w4.setCell ⟨w.heap.size, 0, none⟩ (.int .i64 0)).setCell ⟨w.heap.size, 1, none⟩ (.int .i64 0)).setCell ⟨w.heap.size, 2, none⟩ (.bool false)).setCell ⟨w.heap.size, 3, none⟩ (.int .i64 0)).setCell ⟨w.heap.size, 4, none⟩ (.int .i64 0)).setCell ⟨w.heap.size, 5, none⟩ (.string ⟨#[]⟩)) := ((((((B4.out.setCell (Nat.le_refl _) _).setCell (Nat.le_refl _) _).setCell (Nat.le_refl _) _).setCell (Nat.le_refl _) _).setCell (Nat.le_refl _) _).setCell (Nat.le_refl _) _)
  have hrF := lt_of_heap G4.out
  have zz0 := froz_of (i := 0) G4.out
  have zz1 := froz_of (i := 1) G4.out
  have zz2 := froz_of (i := 2) G4.out
  have zz3 := froz_of (i := 3) G4.out
  have zz4 := froz_of (i := 4) G4.out
  have zz5 := froz_of (i := 5) G4.out
  go_wp2_with fail
  generalize ((((((w4.setCell ⟨w.heap.size, 0, none⟩ (.int .i64 0)).setCell ⟨w.heap.size, 1, none⟩ (.int .i64 0)).setCell ⟨w.heap.size, 2, none⟩ (.bool false)).setCell ⟨w.heap.size, 3, none⟩ (.int .i64 0)).setCell ⟨w.heap.size, 4, none⟩ (.int .i64 0)).setCell ⟨w.heap.size, 5, none⟩ (.string ⟨#[]⟩)) = wF at *
  have ff0 : wF.cell? ⟨w.heap.size, 0, none⟩ = some (.int .i64 0) := (cell_of gF).trans rfl
  have ff1 : wF.cell? ⟨w.heap.size, 1, none⟩ = some (.int .i64 0) := (cell_of gF).trans rfl
  have ff2 : wF.cell? ⟨w.heap.size, 2, none⟩ = some (.bool false) := (cell_of gF).trans rfl
  have ff3 : wF.cell? ⟨w.heap.size, 3, none⟩ = some (.int .i64 0) := (cell_of gF).trans rfl
  have ff4 : wF.cell? ⟨w.heap.size, 4, none⟩ = some (.int .i64 0) := (cell_of gF).trans rfl
  have ff5 : wF.cell? ⟨w.heap.size, 5, none⟩ = some (.string ⟨#[]⟩) := (cell_of gF).trans rfl
  exact bodyPost_ret (v := .tuple #[.agg #[.int .i64 0, .int .i64 0, .bool false, .int .i64 0, .int .i64 0, .string ⟨#[]⟩], .int .i64 6]) (by simp [results, Tryz.results17, go_sem, ff0, ff1, ff2, ff3, ff4, ff5]) rfl ⟨rfl, bF⟩
set_option maxHeartbeats 1000000 in
set_option maxRecDepth 20000 in
theorem zrr_neg (s : ByteArray) (v x k2 : Nat) (R : Int) (w : World) (hs : s.size ≤ 9223372036854775807) (h0 : fx 1 s 0 0 = (v, 1, 0)) (h1 : fx 4 s 1 0 = (x, k2, 0)) (hR : wrap32 (x : Int) = R) (hv : 1 ≤ (v : Int) ∧ (v : Int) ≤ 6) (hr : R < 0) :
    Calls Tryz.prog 17 #[.string s] w fun e w' => e = .returned (.tuple #[.agg #[.int .i64 0, .int .i64 0, .bool false, .int .i64 0, .int .i64 0, .string ⟨#[]⟩], .int .i64 1]) ∧ Below w.heap.size w w' := by
  have hk1 := fxle (Nat.zero_le _) h0
  have hv0 : ((v : Int) == 0) = false := by rw [beq_eq_false_iff_ne]; omega
  have hv1 : ((v : Int) != 0) = true := by rw [bne_iff_ne]; omega
  have hwv : IntKind.i64.wrap (v : Int) = v := wrapY (by omega) (by have := fxlt h0; omega)
  have hwr : IntKind.i64.wrap R = R := by rw [← hR]; exact wrapY (by unfold wrap32; omega) (by unfold wrap32; omega)
  have hRb : ((R : Int) == 0) = false := by rw [beq_eq_false_iff_ne]; omega
  have g1 : (w.alloc (.cells #[.int .i64 0, .int .i64 0, .bool false, .int .i64 0, .int .i64 0, .string ⟨#[]⟩] 27)).heap[w.heap.size]? = some (.cells #[.int .i64 0, .int .i64 0, .bool false, .int .i64 0, .int .i64 0, .string ⟨#[]⟩] 27 (0, 0)) := heap_new _ _
  have b1 : Below w.heap.size w (w.alloc (.cells #[.int .i64 0, .int .i64 0, .bool false, .int .i64 0, .int .i64 0, .string ⟨#[]⟩] 27)) := (Below.refl _ _).alloc (Nat.le_refl _) _
  go_enter Tryz.func17, Tryz.ntmps17
  go_wp2_with fail
  generalize w.alloc (.cells #[.int .i64 0, .int .i64 0, .bool false, .int .i64 0, .int .i64 0, .string ⟨#[]⟩] 27) = w1 at *
  refine (xnew_any s w1).mono ?_
  rintro e w2 ⟨rfl, rfl⟩
  have h2' : RX (w1.alloc (.cells #[.string s, .int .i64 0, .int .i64 0] 113)) w1.heap.size s 0 0 := heap_new _ _
  have g2 : (w1.alloc (.cells #[.string s, .int .i64 0, .int .i64 0] 113)).heap[w.heap.size]? = some (.cells #[.int .i64 0, .int .i64 0, .bool false, .int .i64 0, .int .i64 0, .string ⟨#[]⟩] 27 (0, 0)) := heap_alloc_at g1
  have b2 : Below w.heap.size w (w1.alloc (.cells #[.string s, .int .i64 0, .int .i64 0] 113)) := b1.alloc b1.size _
  have hbb : w.heap.size < w1.heap.size := lt_of_heap g1
  have G2 := hid g2
  have B2 := hid b2
  clear g1 b1 g2 b2
  go_wp2_with fail
  generalize w1.alloc (.cells #[.string s, .int .i64 0, .int .i64 0] 113) = w2 at *
  generalize w1.heap.size = b at *
  have CU := xu8_any b s 0 0 w2 h2' (Nat.zero_le _) hs
  rw [h0] at CU
  dsimp only at CU
  refine CU.mono ?_
  rintro e w3 ⟨rfl, h3', hc3⟩
  have G3 : Hid (w3.heap[w.heap.size]? = some (.cells #[.int .i64 0, .int .i64 0, .bool false, .int .i64 0, .int .i64 0, .string ⟨#[]⟩] 27 (0, 0))) := hid ((hc3.block _ (lt_of_heap G2.out) (by omega)).trans G2.out)
  have B3 : Hid (Below w.heap.size w w3) := hid (B2.out.trans (hc3.below B2.out.size (fun i hi h => by omega)))
  clear hc3 G2 B2 h2' CU
  have h4 : RX (w3.alloc (.cells #[.int .i64 v, .int .i64 0, .bool false, .int .i64 0, .int .i64 0, .string ⟨#[]⟩] 27)) b s 1 0 := h3'.alloc _
  have r4 : (w3.alloc (.cells #[.int .i64 v, .int .i64 0, .bool false, .int .i64 0, .int .i64 0, .string ⟨#[]⟩] 27)).heap[w3.heap.size]? = some (.cells #[.int .i64 v, .int .i64 0, .bool false, .int .i64 0, .int .i64 0, .string ⟨#[]⟩] 27 (0, 0)) := heap_new _ _
  have G4 : Hid ((w3.alloc (.cells #[.int .i64 v, .int .i64 0, .bool false, .int .i64 0, .int .i64 0, .string ⟨#[]⟩] 27)).heap[w.heap.size]? = some (.cells #[.int .i64 0, .int .i64 0, .bool false, .int .i64 0, .int .i64 0, .string ⟨#[]⟩] 27 (0, 0))) := hid (heap_alloc_at G3.out)
  have B4 : Hid (Below w.heap.size w (w3.alloc (.cells #[.int .i64 v, .int .i64 0, .bool false, .int .i64 0, .int .i64 0, .string ⟨#[]⟩] 27))) := hid (B3.out.alloc B3.out.size _)
  have hGG : w3.heap.size ≠ b ∧ w.heap.size < w3.heap.size := ⟨by have := h3'.lt; omega, lt_of_heap G3.out⟩
  clear G3 B3 h3'
  go_wp2_with fail
  generalize (w3.alloc (.cells #[.int .i64 v, .int .i64 0, .bool false, .int .i64 0, .int .i64 0, .string ⟨#[]⟩] 27)) = w4 at *
  generalize w3.heap.size = G at *
  refine (xknown_yes _ _ (by omega)).mono ?_
  rintro e w4 ⟨rfl, rfl⟩
  go_wp2_with fail
  have R4 := hid r4
  have CI := xi32_any b s 1 0 w4 h4 hk1 hs
  rw [h1] at CI
  dsimp only at CI
  rw [hR] at CI
  refine CI.mono ?_
  rintro e w5 ⟨rfl, h5, hc5⟩
  have G5 : Hid (w5.heap[w.heap.size]? = some (.cells #[.int .i64 0, .int .i64 0, .bool false, .int .i64 0, .int .i64 0, .string ⟨#[]⟩] 27 (0, 0))) := hid ((hc5.block _ (lt_of_heap G4.out) (by omega)).trans G4.out)
  have R5 : Hid (w5.heap[G]? = some (.cells #[.int .i64 v, .int .i64 0, .bool false, .int .i64 0, .int .i64 0, .string ⟨#[]⟩] 27 (0, 0))) := hid ((hc5.block _ (lt_of_heap R4.out) hGG.1).trans R4.out)
  have B5 : Hid (Below w.heap.size w w5) := hid (B4.out.trans (hc5.below B4.out.size (fun i hi h => by omega)))
  have H5 := hid h5
  clear hc5 G4 B4 R4 r4 h4 h5 CI
  have xx0 : w5.cell? ⟨w.heap.size, 0, none⟩ = some (.int .i64 0) := (cell_of G5.out).trans rfl
  have xx1 : w5.cell? ⟨w.heap.size, 1, none⟩ = some (.int .i64 0) := (cell_of G5.out).trans rfl
  have xx2 : w5.cell? ⟨w.heap.size, 2, none⟩ = some (.bool false) := (cell_of G5.out).trans rfl
  have xx3 : w5.cell? ⟨w.heap.size, 3, none⟩ = some (.int .i64 0) := (cell_of G5.out).trans rfl
  have xx4 : w5.cell? ⟨w.heap.size, 4, none⟩ = some (.int .i64 0) := (cell_of G5.out).trans rfl
  have xx5 : w5.cell? ⟨w.heap.size, 5, none⟩ = some (.string ⟨#[]⟩) := (cell_of G5.out).trans rfl
  have gF : ((((((w5.setCell ⟨w.heap.size, 0, none⟩ (.int .i64 0)).setCell ⟨w.heap.size, 1, none⟩ (.int .i64 0)).setCell ⟨w.heap.size, 2, none⟩ (.bool false)).setCell ⟨w.heap.size, 3, none⟩ (.int .i64 0)).setCell ⟨w.heap.size, 4, none⟩ (.int .i64 0)).setCell ⟨w.heap.size, 5, none⟩ (.string ⟨#[]⟩)).heap[w.heap.size]? = some (.cells #[.int .i64 0, .int .i64 0, .bool false, .int .i64 0, .int .i64 0, .string ⟨#[]⟩] 27 (0, 0)) := (heap_set (heap_set (heap_set (heap_set (heap_set (heap_set G5.out))))))
  have bF : Below w.heap.size w ((((((w5.setCell ⟨w.heap.size, 0, none⟩ (.int .i64 0)).setCell ⟨w.heap.size, 1, none⟩ (.int .i64 0)).setCell ⟨w.heap.size, 2, none⟩ (.bool false)).setCell ⟨w.heap.size, 3, none⟩ (.int .i64 0)).setCell ⟨w.heap.size, 4, none⟩ (.int .i64 0)).setCell ⟨w.heap.size, 5, none⟩ (.string ⟨#[]⟩)) := ((((((B5.out.setCell (Nat.le_refl _) _).setCell (Nat.le_refl _) _).setCell (Nat.le_refl _) _).setCell (Nat.le_refl _) _).setCell (Nat.le_refl _) _).setCell (Nat.le_refl _) _)
  have hrF := lt_of_heap G5.out
  have zz0 := froz_of (i := 0) G5.out
  have zz1 := froz_of (i := 1) G5.out
  have zz2 := froz_of (i := 2) G5.out
  have zz3 := froz_of (i := 3) G5.out
  have zz4 := froz_of (i := 4) G5.out
  have zz5 := froz_of (i := 5) G5.out
  go_wp2_with fail
  generalize ((((((w5.setCell ⟨w.heap.size, 0, none⟩ (.int .i64 0)).setCell ⟨w.heap.size, 1, none⟩ (.int .i64 0)).setCell ⟨w.heap.size, 2, none⟩ (.bool false)).setCell ⟨w.heap.size, 3, none⟩ (.int .i64 0)).setCell ⟨w.heap.size, 4, none⟩ (.int .i64 0)).setCell ⟨w.heap.size, 5, none⟩ (.string ⟨#[]⟩)) = wF at *
  have ff0 : wF.cell? ⟨w.heap.size, 0, none⟩ = some (.int .i64 0) := (cell_of gF).trans rfl
  have ff1 : wF.cell? ⟨w.heap.size, 1, none⟩ = some (.int .i64 0) := (cell_of gF).trans rfl
  have ff2 : wF.cell? ⟨w.heap.size, 2, none⟩ = some (.bool false) := (cell_of gF).trans rfl
  have ff3 : wF.cell? ⟨w.heap.size, 3, none⟩ = some (.int .i64 0) := (cell_of gF).trans rfl
  have ff4 : wF.cell? ⟨w.heap.size, 4, none⟩ = some (.int .i64 0) := (cell_of gF).trans rfl
  have ff5 : wF.cell? ⟨w.heap.size, 5, none⟩ = some (.string ⟨#[]⟩) := (cell_of gF).trans rfl
  exact bodyPost_ret (v := .tuple #[.agg #[.int .i64 0, .int .i64 0, .bool false, .int .i64 0, .int .i64 0, .string ⟨#[]⟩], .int .i64 1]) (by simp [results, Tryz.results17, go_sem, ff0, ff1, ff2, ff3, ff4, ff5]) rfl ⟨rfl, bF⟩
set_option maxHeartbeats 1000000 in
set_option maxRecDepth 20000 in
theorem zrr_cut (s : ByteArray) (v x k2 e2 : Nat) (w : World) (hs : s.size ≤ 9223372036854775807) (h0 : fx 1 s 0 0 = (v, 1, 0)) (h1 : fx 4 s 1 0 = (x, k2, e2)) (hR : wrap32 (x : Int) = 0) (hv : 1 ≤ (v : Int) ∧ (v : Int) ≤ 6) (he : e2 ≠ 0) :
    Calls Tryz.prog 17 #[.string s] w fun e w' => e = .returned (.tuple #[.agg #[.int .i64 0, .int .i64 0, .bool false, .int .i64 0, .int .i64 0, .string ⟨#[]⟩], .int .i64 e2]) ∧ Below w.heap.size w w' := by
  have hk1 := fxle (Nat.zero_le _) h0
  have hv0 : ((v : Int) == 0) = false := by rw [beq_eq_false_iff_ne]; omega
  have hv1 : ((v : Int) != 0) = true := by rw [bne_iff_ne]; omega
  have hwv : IntKind.i64.wrap (v : Int) = v := wrapY (by omega) (by have := fxlt h0; omega)
  have heb : ((e2 : Int) != 0) = true := by rw [bne_iff_ne]; omega
  have g1 : (w.alloc (.cells #[.int .i64 0, .int .i64 0, .bool false, .int .i64 0, .int .i64 0, .string ⟨#[]⟩] 27)).heap[w.heap.size]? = some (.cells #[.int .i64 0, .int .i64 0, .bool false, .int .i64 0, .int .i64 0, .string ⟨#[]⟩] 27 (0, 0)) := heap_new _ _
  have b1 : Below w.heap.size w (w.alloc (.cells #[.int .i64 0, .int .i64 0, .bool false, .int .i64 0, .int .i64 0, .string ⟨#[]⟩] 27)) := (Below.refl _ _).alloc (Nat.le_refl _) _
  go_enter Tryz.func17, Tryz.ntmps17
  go_wp2_with fail
  generalize w.alloc (.cells #[.int .i64 0, .int .i64 0, .bool false, .int .i64 0, .int .i64 0, .string ⟨#[]⟩] 27) = w1 at *
  refine (xnew_any s w1).mono ?_
  rintro e w2 ⟨rfl, rfl⟩
  have h2' : RX (w1.alloc (.cells #[.string s, .int .i64 0, .int .i64 0] 113)) w1.heap.size s 0 0 := heap_new _ _
  have g2 : (w1.alloc (.cells #[.string s, .int .i64 0, .int .i64 0] 113)).heap[w.heap.size]? = some (.cells #[.int .i64 0, .int .i64 0, .bool false, .int .i64 0, .int .i64 0, .string ⟨#[]⟩] 27 (0, 0)) := heap_alloc_at g1
  have b2 : Below w.heap.size w (w1.alloc (.cells #[.string s, .int .i64 0, .int .i64 0] 113)) := b1.alloc b1.size _
  have hbb : w.heap.size < w1.heap.size := lt_of_heap g1
  have G2 := hid g2
  have B2 := hid b2
  clear g1 b1 g2 b2
  go_wp2_with fail
  generalize w1.alloc (.cells #[.string s, .int .i64 0, .int .i64 0] 113) = w2 at *
  generalize w1.heap.size = b at *
  have CU := xu8_any b s 0 0 w2 h2' (Nat.zero_le _) hs
  rw [h0] at CU
  dsimp only at CU
  refine CU.mono ?_
  rintro e w3 ⟨rfl, h3', hc3⟩
  have G3 : Hid (w3.heap[w.heap.size]? = some (.cells #[.int .i64 0, .int .i64 0, .bool false, .int .i64 0, .int .i64 0, .string ⟨#[]⟩] 27 (0, 0))) := hid ((hc3.block _ (lt_of_heap G2.out) (by omega)).trans G2.out)
  have B3 : Hid (Below w.heap.size w w3) := hid (B2.out.trans (hc3.below B2.out.size (fun i hi h => by omega)))
  clear hc3 G2 B2 h2' CU
  have h4 : RX (w3.alloc (.cells #[.int .i64 v, .int .i64 0, .bool false, .int .i64 0, .int .i64 0, .string ⟨#[]⟩] 27)) b s 1 0 := h3'.alloc _
  have r4 : (w3.alloc (.cells #[.int .i64 v, .int .i64 0, .bool false, .int .i64 0, .int .i64 0, .string ⟨#[]⟩] 27)).heap[w3.heap.size]? = some (.cells #[.int .i64 v, .int .i64 0, .bool false, .int .i64 0, .int .i64 0, .string ⟨#[]⟩] 27 (0, 0)) := heap_new _ _
  have G4 : Hid ((w3.alloc (.cells #[.int .i64 v, .int .i64 0, .bool false, .int .i64 0, .int .i64 0, .string ⟨#[]⟩] 27)).heap[w.heap.size]? = some (.cells #[.int .i64 0, .int .i64 0, .bool false, .int .i64 0, .int .i64 0, .string ⟨#[]⟩] 27 (0, 0))) := hid (heap_alloc_at G3.out)
  have B4 : Hid (Below w.heap.size w (w3.alloc (.cells #[.int .i64 v, .int .i64 0, .bool false, .int .i64 0, .int .i64 0, .string ⟨#[]⟩] 27))) := hid (B3.out.alloc B3.out.size _)
  have hGG : w3.heap.size ≠ b ∧ w.heap.size < w3.heap.size := ⟨by have := h3'.lt; omega, lt_of_heap G3.out⟩
  clear G3 B3 h3'
  go_wp2_with fail
  generalize (w3.alloc (.cells #[.int .i64 v, .int .i64 0, .bool false, .int .i64 0, .int .i64 0, .string ⟨#[]⟩] 27)) = w4 at *
  generalize w3.heap.size = G at *
  refine (xknown_yes _ _ (by omega)).mono ?_
  rintro e w4 ⟨rfl, rfl⟩
  go_wp2_with fail
  have R4 := hid r4
  have CI := xi32_any b s 1 0 w4 h4 hk1 hs
  rw [h1] at CI
  dsimp only at CI
  rw [hR] at CI
  refine CI.mono ?_
  rintro e w5 ⟨rfl, h5, hc5⟩
  have G5 : Hid (w5.heap[w.heap.size]? = some (.cells #[.int .i64 0, .int .i64 0, .bool false, .int .i64 0, .int .i64 0, .string ⟨#[]⟩] 27 (0, 0))) := hid ((hc5.block _ (lt_of_heap G4.out) (by omega)).trans G4.out)
  have R5 : Hid (w5.heap[G]? = some (.cells #[.int .i64 v, .int .i64 0, .bool false, .int .i64 0, .int .i64 0, .string ⟨#[]⟩] 27 (0, 0))) := hid ((hc5.block _ (lt_of_heap R4.out) hGG.1).trans R4.out)
  have B5 : Hid (Below w.heap.size w w5) := hid (B4.out.trans (hc5.below B4.out.size (fun i hi h => by omega)))
  have H5 := hid h5
  clear hc5 G4 B4 R4 r4 h4 h5 CI
  have xx0 : w5.cell? ⟨w.heap.size, 0, none⟩ = some (.int .i64 0) := (cell_of G5.out).trans rfl
  have xx1 : w5.cell? ⟨w.heap.size, 1, none⟩ = some (.int .i64 0) := (cell_of G5.out).trans rfl
  have xx2 : w5.cell? ⟨w.heap.size, 2, none⟩ = some (.bool false) := (cell_of G5.out).trans rfl
  have xx3 : w5.cell? ⟨w.heap.size, 3, none⟩ = some (.int .i64 0) := (cell_of G5.out).trans rfl
  have xx4 : w5.cell? ⟨w.heap.size, 4, none⟩ = some (.int .i64 0) := (cell_of G5.out).trans rfl
  have xx5 : w5.cell? ⟨w.heap.size, 5, none⟩ = some (.string ⟨#[]⟩) := (cell_of G5.out).trans rfl
  have gF : ((((((w5.setCell ⟨w.heap.size, 0, none⟩ (.int .i64 0)).setCell ⟨w.heap.size, 1, none⟩ (.int .i64 0)).setCell ⟨w.heap.size, 2, none⟩ (.bool false)).setCell ⟨w.heap.size, 3, none⟩ (.int .i64 0)).setCell ⟨w.heap.size, 4, none⟩ (.int .i64 0)).setCell ⟨w.heap.size, 5, none⟩ (.string ⟨#[]⟩)).heap[w.heap.size]? = some (.cells #[.int .i64 0, .int .i64 0, .bool false, .int .i64 0, .int .i64 0, .string ⟨#[]⟩] 27 (0, 0)) := (heap_set (heap_set (heap_set (heap_set (heap_set (heap_set G5.out))))))
  have bF : Below w.heap.size w ((((((w5.setCell ⟨w.heap.size, 0, none⟩ (.int .i64 0)).setCell ⟨w.heap.size, 1, none⟩ (.int .i64 0)).setCell ⟨w.heap.size, 2, none⟩ (.bool false)).setCell ⟨w.heap.size, 3, none⟩ (.int .i64 0)).setCell ⟨w.heap.size, 4, none⟩ (.int .i64 0)).setCell ⟨w.heap.size, 5, none⟩ (.string ⟨#[]⟩)) := ((((((B5.out.setCell (Nat.le_refl _) _).setCell (Nat.le_refl _) _).setCell (Nat.le_refl _) _).setCell (Nat.le_refl _) _).setCell (Nat.le_refl _) _).setCell (Nat.le_refl _) _)
  have hrF := lt_of_heap G5.out
  have zz0 := froz_of (i := 0) G5.out
  have zz1 := froz_of (i := 1) G5.out
  have zz2 := froz_of (i := 2) G5.out
  have zz3 := froz_of (i := 3) G5.out
  have zz4 := froz_of (i := 4) G5.out
  have zz5 := froz_of (i := 5) G5.out
  go_wp2_with fail
  generalize ((((((w5.setCell ⟨w.heap.size, 0, none⟩ (.int .i64 0)).setCell ⟨w.heap.size, 1, none⟩ (.int .i64 0)).setCell ⟨w.heap.size, 2, none⟩ (.bool false)).setCell ⟨w.heap.size, 3, none⟩ (.int .i64 0)).setCell ⟨w.heap.size, 4, none⟩ (.int .i64 0)).setCell ⟨w.heap.size, 5, none⟩ (.string ⟨#[]⟩)) = wF at *
  have ff0 : wF.cell? ⟨w.heap.size, 0, none⟩ = some (.int .i64 0) := (cell_of gF).trans rfl
  have ff1 : wF.cell? ⟨w.heap.size, 1, none⟩ = some (.int .i64 0) := (cell_of gF).trans rfl
  have ff2 : wF.cell? ⟨w.heap.size, 2, none⟩ = some (.bool false) := (cell_of gF).trans rfl
  have ff3 : wF.cell? ⟨w.heap.size, 3, none⟩ = some (.int .i64 0) := (cell_of gF).trans rfl
  have ff4 : wF.cell? ⟨w.heap.size, 4, none⟩ = some (.int .i64 0) := (cell_of gF).trans rfl
  have ff5 : wF.cell? ⟨w.heap.size, 5, none⟩ = some (.string ⟨#[]⟩) := (cell_of gF).trans rfl
  exact bodyPost_ret (v := .tuple #[.agg #[.int .i64 0, .int .i64 0, .bool false, .int .i64 0, .int .i64 0, .string ⟨#[]⟩], .int .i64 e2]) (by simp [results, Tryz.results17, go_sem, ff0, ff1, ff2, ff3, ff4, ff5]) rfl ⟨rfl, bF⟩
set_option maxHeartbeats 1000000 in
set_option maxRecDepth 20000 in
theorem zrr_pos (s : ByteArray) (v x k2 : Nat) (R : Int) (E : Nat) (w : World) (hs : s.size ≤ 9223372036854775807) (h0 : fx 1 s 0 0 = (v, 1, 0)) (h1 : fx 4 s 1 0 = (x, k2, 0)) (hR : wrap32 (x : Int) = R) (hv : 1 ≤ (v : Int) ∧ (v : Int) ≤ 6) (hr : 0 < R) (hE : fl 0 (dq s k2 0) = E) :
    Calls Tryz.prog 17 #[.string s] w fun e w' => e = .returned (ra2 #[.int .i64 v, .int .i64 R, .bool false, .int .i64 0, .int .i64 0, .string ⟨#[]⟩] #[.int .i64 0, .int .i64 0, .bool false, .int .i64 0, .int .i64 0, .string ⟨#[]⟩] E) ∧ Below w.heap.size w w' := by
  have hk1 := fxle (Nat.zero_le _) h0
  have hv0 : ((v : Int) == 0) = false := by rw [beq_eq_false_iff_ne]; omega
  have hv1 : ((v : Int) != 0) = true := by rw [bne_iff_ne]; omega
  have hwv : IntKind.i64.wrap (v : Int) = v := wrapY (by omega) (by have := fxlt h0; omega)
  have hwr : IntKind.i64.wrap R = R := by rw [← hR]; exact wrapY (by unfold wrap32; omega) (by unfold wrap32; omega)
  have hRb : ((R : Int) == 0) = false := by rw [beq_eq_false_iff_ne]; omega
  have hr2 : ¬ R < 0 := by omega
  have hrd : decide (R < 0) = false := decide_eq_false hr2
  have g1 : (w.alloc (.cells #[.int .i64 0, .int .i64 0, .bool false, .int .i64 0, .int .i64 0, .string ⟨#[]⟩] 27)).heap[w.heap.size]? = some (.cells #[.int .i64 0, .int .i64 0, .bool false, .int .i64 0, .int .i64 0, .string ⟨#[]⟩] 27 (0, 0)) := heap_new _ _
  have b1 : Below w.heap.size w (w.alloc (.cells #[.int .i64 0, .int .i64 0, .bool false, .int .i64 0, .int .i64 0, .string ⟨#[]⟩] 27)) := (Below.refl _ _).alloc (Nat.le_refl _) _
  go_enter Tryz.func17, Tryz.ntmps17
  go_wp2_with fail
  generalize w.alloc (.cells #[.int .i64 0, .int .i64 0, .bool false, .int .i64 0, .int .i64 0, .string ⟨#[]⟩] 27) = w1 at *
  refine (xnew_any s w1).mono ?_
  rintro e w2 ⟨rfl, rfl⟩
  have h2' : RX (w1.alloc (.cells #[.string s, .int .i64 0, .int .i64 0] 113)) w1.heap.size s 0 0 := heap_new _ _
  have g2 : (w1.alloc (.cells #[.string s, .int .i64 0, .int .i64 0] 113)).heap[w.heap.size]? = some (.cells #[.int .i64 0, .int .i64 0, .bool false, .int .i64 0, .int .i64 0, .string ⟨#[]⟩] 27 (0, 0)) := heap_alloc_at g1
  have b2 : Below w.heap.size w (w1.alloc (.cells #[.string s, .int .i64 0, .int .i64 0] 113)) := b1.alloc b1.size _
  have hbb : w.heap.size < w1.heap.size := lt_of_heap g1
  have G2 := hid g2
  have B2 := hid b2
  clear g1 b1 g2 b2
  go_wp2_with fail
  generalize w1.alloc (.cells #[.string s, .int .i64 0, .int .i64 0] 113) = w2 at *
  generalize w1.heap.size = b at *
  have CU := xu8_any b s 0 0 w2 h2' (Nat.zero_le _) hs
  rw [h0] at CU
  dsimp only at CU
  refine CU.mono ?_
  rintro e w3 ⟨rfl, h3', hc3⟩
  have G3 : Hid (w3.heap[w.heap.size]? = some (.cells #[.int .i64 0, .int .i64 0, .bool false, .int .i64 0, .int .i64 0, .string ⟨#[]⟩] 27 (0, 0))) := hid ((hc3.block _ (lt_of_heap G2.out) (by omega)).trans G2.out)
  have B3 : Hid (Below w.heap.size w w3) := hid (B2.out.trans (hc3.below B2.out.size (fun i hi h => by omega)))
  clear hc3 G2 B2 h2' CU
  have h4 : RX (w3.alloc (.cells #[.int .i64 v, .int .i64 0, .bool false, .int .i64 0, .int .i64 0, .string ⟨#[]⟩] 27)) b s 1 0 := h3'.alloc _
  have r4 : (w3.alloc (.cells #[.int .i64 v, .int .i64 0, .bool false, .int .i64 0, .int .i64 0, .string ⟨#[]⟩] 27)).heap[w3.heap.size]? = some (.cells #[.int .i64 v, .int .i64 0, .bool false, .int .i64 0, .int .i64 0, .string ⟨#[]⟩] 27 (0, 0)) := heap_new _ _
  have G4 : Hid ((w3.alloc (.cells #[.int .i64 v, .int .i64 0, .bool false, .int .i64 0, .int .i64 0, .string ⟨#[]⟩] 27)).heap[w.heap.size]? = some (.cells #[.int .i64 0, .int .i64 0, .bool false, .int .i64 0, .int .i64 0, .string ⟨#[]⟩] 27 (0, 0))) := hid (heap_alloc_at G3.out)
  have B4 : Hid (Below w.heap.size w (w3.alloc (.cells #[.int .i64 v, .int .i64 0, .bool false, .int .i64 0, .int .i64 0, .string ⟨#[]⟩] 27))) := hid (B3.out.alloc B3.out.size _)
  have hGG : w3.heap.size ≠ b ∧ w.heap.size < w3.heap.size := ⟨by have := h3'.lt; omega, lt_of_heap G3.out⟩
  clear G3 B3 h3'
  go_wp2_with fail
  generalize (w3.alloc (.cells #[.int .i64 v, .int .i64 0, .bool false, .int .i64 0, .int .i64 0, .string ⟨#[]⟩] 27)) = w4 at *
  generalize w3.heap.size = G at *
  refine (xknown_yes _ _ (by omega)).mono ?_
  rintro e w4 ⟨rfl, rfl⟩
  go_wp2_with fail
  have R4 := hid r4
  have CI := xi32_any b s 1 0 w4 h4 hk1 hs
  rw [h1] at CI
  dsimp only at CI
  rw [hR] at CI
  refine CI.mono ?_
  rintro e w5 ⟨rfl, h5, hc5⟩
  have G5 : Hid (w5.heap[w.heap.size]? = some (.cells #[.int .i64 0, .int .i64 0, .bool false, .int .i64 0, .int .i64 0, .string ⟨#[]⟩] 27 (0, 0))) := hid ((hc5.block _ (lt_of_heap G4.out) (by omega)).trans G4.out)
  have R5 : Hid (w5.heap[G]? = some (.cells #[.int .i64 v, .int .i64 0, .bool false, .int .i64 0, .int .i64 0, .string ⟨#[]⟩] 27 (0, 0))) := hid ((hc5.block _ (lt_of_heap R4.out) hGG.1).trans R4.out)
  have B5 : Hid (Below w.heap.size w w5) := hid (B4.out.trans (hc5.below B4.out.size (fun i hi h => by omega)))
  have H5 := hid h5
  clear hc5 G4 B4 R4 r4 h4 h5 CI
  have d5 : w5.cell? ⟨G, 1, none⟩ = some (.int .i64 0) := (cell_of R5.out).trans rfl
  have z5 := froz_of (i := 1) R5.out
  have G6 : Hid ((w5.setCell ⟨G, 1, none⟩ (.int .i64 R)).heap[w.heap.size]? = some (.cells #[.int .i64 0, .int .i64 0, .bool false, .int .i64 0, .int .i64 0, .string ⟨#[]⟩] 27 (0, 0))) := hid (heap_set_far G5.out (by show w.heap.size ≠ G; omega))
  have r6 : (w5.setCell ⟨G, 1, none⟩ (.int .i64 R)).heap[G]? = some (.cells #[.int .i64 v, .int .i64 R, .bool false, .int .i64 0, .int .i64 0, .string ⟨#[]⟩] 27 (0, 0)) := heap_set R5.out
  have B6 : Hid (Below w.heap.size w (w5.setCell ⟨G, 1, none⟩ (.int .i64 R))) := hid (B5.out.setCell (by show w.heap.size ≤ G; omega) _)
  have H6 : Hid (RX (w5.setCell ⟨G, 1, none⟩ (.int .i64 R)) b s k2 0) := hid (rx_set H5.out hGG.1)
  have R6 := hid r6
  clear G5 R5 B5 H5 r6
  go_upto_region 14 with fail
  generalize (w5.setCell ⟨G, 1, none⟩ (.int .i64 R)) = w6 at *
  clear d5 z5
  have k60 : w6.cell? ⟨G, 0, none⟩ = some (.int .i64 v) := (cell_of R6.out).trans rfl
  have k61 : w6.cell? ⟨G, 1, none⟩ = some (.int .i64 R) := (cell_of R6.out).trans rfl
  have hE' : dq s k2 0 = E := by rw [fl_0] at hE; exact hE
  have hkf : k2 ≤ s.size := fxle hk1 h1
  go_wp2_with fail
  have CD := xdone_any b s k2 0 w6 H6.out hkf hs
  rw [show dqx s k2 0 = E from hE'] at CD
  refine CD.mono ?_
  rintro e w19 ⟨rfl, n1, rfl⟩
  have G19 : Hid ((w6.drewN n1).heap[w.heap.size]? = some (.cells #[.int .i64 0, .int .i64 0, .bool false, .int .i64 0, .int .i64 0, .string ⟨#[]⟩] 27 (0, 0))) := hid G6.out
  have R19 : Hid ((w6.drewN n1).heap[G]? = some (.cells #[.int .i64 v, .int .i64 R, .bool false, .int .i64 0, .int .i64 0, .string ⟨#[]⟩] 27 (0, 0))) := hid R6.out
  have B19 : Hid (Below w.heap.size w (w6.drewN n1)) := hid (drewN_bel B6.out n1)
  clear G6 R6 B6 H6 CD
  generalize w6.drewN n1 = w19 at *
  have xx0 : w19.cell? ⟨w.heap.size, 0, none⟩ = some (.int .i64 0) := (cell_of G19.out).trans rfl
  have xx1 : w19.cell? ⟨w.heap.size, 1, none⟩ = some (.int .i64 0) := (cell_of G19.out).trans rfl
  have xx2 : w19.cell? ⟨w.heap.size, 2, none⟩ = some (.bool false) := (cell_of G19.out).trans rfl
  have xx3 : w19.cell? ⟨w.heap.size, 3, none⟩ = some (.int .i64 0) := (cell_of G19.out).trans rfl
  have xx4 : w19.cell? ⟨w.heap.size, 4, none⟩ = some (.int .i64 0) := (cell_of G19.out).trans rfl
  have xx5 : w19.cell? ⟨w.heap.size, 5, none⟩ = some (.string ⟨#[]⟩) := (cell_of G19.out).trans rfl
  have yy0 : w19.cell? ⟨G, 0, none⟩ = some (.int .i64 v) := (cell_of R19.out).trans rfl
  have yy1 : w19.cell? ⟨G, 1, none⟩ = some (.int .i64 R) := (cell_of R19.out).trans rfl
  have yy2 : w19.cell? ⟨G, 2, none⟩ = some (.bool false) := (cell_of R19.out).trans rfl
  have yy3 : w19.cell? ⟨G, 3, none⟩ = some (.int .i64 0) := (cell_of R19.out).trans rfl
  have yy4 : w19.cell? ⟨G, 4, none⟩ = some (.int .i64 0) := (cell_of R19.out).trans rfl
  have yy5 : w19.cell? ⟨G, 5, none⟩ = some (.string ⟨#[]⟩) := (cell_of R19.out).trans rfl
  by_cases hE0 : E = 0
  · subst hE0
    have gF : ((((((w19.setCell ⟨w.heap.size, 0, none⟩ (.int .i64 v)).setCell ⟨w.heap.size, 1, none⟩ (.int .i64 R)).setCell ⟨w.heap.size, 2, none⟩ (.bool false)).setCell ⟨w.heap.size, 3, none⟩ (.int .i64 0)).setCell ⟨w.heap.size, 4, none⟩ (.int .i64 0)).setCell ⟨w.heap.size, 5, none⟩ (.string ⟨#[]⟩)).heap[w.heap.size]? = some (.cells #[.int .i64 v, .int .i64 R, .bool false, .int .i64 0, .int .i64 0, .string ⟨#[]⟩] 27 (0, 0)) := (heap_set (heap_set (heap_set (heap_set (heap_set (heap_set G19.out))))))
    have bF : Below w.heap.size w ((((((w19.setCell ⟨w.heap.size, 0, none⟩ (.int .i64 v)).setCell ⟨w.heap.size, 1, none⟩ (.int .i64 R)).setCell ⟨w.heap.size, 2, none⟩ (.bool false)).setCell ⟨w.heap.size, 3, none⟩ (.int .i64 0)).setCell ⟨w.heap.size, 4, none⟩ (.int .i64 0)).setCell ⟨w.heap.size, 5, none⟩ (.string ⟨#[]⟩)) := ((((((B19.out.setCell (Nat.le_refl _) _).setCell (Nat.le_refl _) _).setCell (Nat.le_refl _) _).setCell (Nat.le_refl _) _).setCell (Nat.le_refl _) _).setCell (Nat.le_refl _) _)
    have hrF := lt_of_heap G19.out
    have zz0 := froz_of (i := 0) G19.out
    have zz1 := froz_of (i := 1) G19.out
    have zz2 := froz_of (i := 2) G19.out
    have zz3 := froz_of (i := 3) G19.out
    have zz4 := froz_of (i := 4) G19.out
    have zz5 := froz_of (i := 5) G19.out
    go_wp2_with fail
    generalize ((((((w19.setCell ⟨w.heap.size, 0, none⟩ (.int .i64 v)).setCell ⟨w.heap.size, 1, none⟩ (.int .i64 R)).setCell ⟨w.heap.size, 2, none⟩ (.bool false)).setCell ⟨w.heap.size, 3, none⟩ (.int .i64 0)).setCell ⟨w.heap.size, 4, none⟩ (.int .i64 0)).setCell ⟨w.heap.size, 5, none⟩ (.string ⟨#[]⟩)) = wF at *
    have ff0 : wF.cell? ⟨w.heap.size, 0, none⟩ = some (.int .i64 v) := (cell_of gF).trans rfl
    have ff1 : wF.cell? ⟨w.heap.size, 1, none⟩ = some (.int .i64 R) := (cell_of gF).trans rfl
    have ff2 : wF.cell? ⟨w.heap.size, 2, none⟩ = some (.bool false) := (cell_of gF).trans rfl
    have ff3 : wF.cell? ⟨w.heap.size, 3, none⟩ = some (.int .i64 0) := (cell_of gF).trans rfl
    have ff4 : wF.cell? ⟨w.heap.size, 4, none⟩ = some (.int .i64 0) := (cell_of gF).trans rfl
    have ff5 : wF.cell? ⟨w.heap.size, 5, none⟩ = some (.string ⟨#[]⟩) := (cell_of gF).trans rfl
    exact bodyPost_ret (v := .tuple #[.agg #[.int .i64 v, .int .i64 R, .bool false, .int .i64 0, .int .i64 0, .string ⟨#[]⟩], .int .i64 0]) (by simp [results, Tryz.results17, go_sem, ff0, ff1, ff2, ff3, ff4, ff5]) rfl ⟨rfl, bF⟩
  · have hne : ((E : Int) != 0) = true := by rw [bne_iff_ne]; omega
    have hne2 : ((E : Int) == 0) = false := by rw [beq_eq_false_iff_ne]; omega
    have gF : ((((((w19.setCell ⟨w.heap.size, 0, none⟩ (.int .i64 0)).setCell ⟨w.heap.size, 1, none⟩ (.int .i64 0)).setCell ⟨w.heap.size, 2, none⟩ (.bool false)).setCell ⟨w.heap.size, 3, none⟩ (.int .i64 0)).setCell ⟨w.heap.size, 4, none⟩ (.int .i64 0)).setCell ⟨w.heap.size, 5, none⟩ (.string ⟨#[]⟩)).heap[w.heap.size]? = some (.cells #[.int .i64 0, .int .i64 0, .bool false, .int .i64 0, .int .i64 0, .string ⟨#[]⟩] 27 (0, 0)) := (heap_set (heap_set (heap_set (heap_set (heap_set (heap_set G19.out))))))
    have bF : Below w.heap.size w ((((((w19.setCell ⟨w.heap.size, 0, none⟩ (.int .i64 0)).setCell ⟨w.heap.size, 1, none⟩ (.int .i64 0)).setCell ⟨w.heap.size, 2, none⟩ (.bool false)).setCell ⟨w.heap.size, 3, none⟩ (.int .i64 0)).setCell ⟨w.heap.size, 4, none⟩ (.int .i64 0)).setCell ⟨w.heap.size, 5, none⟩ (.string ⟨#[]⟩)) := ((((((B19.out.setCell (Nat.le_refl _) _).setCell (Nat.le_refl _) _).setCell (Nat.le_refl _) _).setCell (Nat.le_refl _) _).setCell (Nat.le_refl _) _).setCell (Nat.le_refl _) _)
    have hrF := lt_of_heap G19.out
    have zz0 := froz_of (i := 0) G19.out
    have zz1 := froz_of (i := 1) G19.out
    have zz2 := froz_of (i := 2) G19.out
    have zz3 := froz_of (i := 3) G19.out
    have zz4 := froz_of (i := 4) G19.out
    have zz5 := froz_of (i := 5) G19.out
    go_wp2_with fail
    generalize ((((((w19.setCell ⟨w.heap.size, 0, none⟩ (.int .i64 0)).setCell ⟨w.heap.size, 1, none⟩ (.int .i64 0)).setCell ⟨w.heap.size, 2, none⟩ (.bool false)).setCell ⟨w.heap.size, 3, none⟩ (.int .i64 0)).setCell ⟨w.heap.size, 4, none⟩ (.int .i64 0)).setCell ⟨w.heap.size, 5, none⟩ (.string ⟨#[]⟩)) = wF at *
    have ff0 : wF.cell? ⟨w.heap.size, 0, none⟩ = some (.int .i64 0) := (cell_of gF).trans rfl
    have ff1 : wF.cell? ⟨w.heap.size, 1, none⟩ = some (.int .i64 0) := (cell_of gF).trans rfl
    have ff2 : wF.cell? ⟨w.heap.size, 2, none⟩ = some (.bool false) := (cell_of gF).trans rfl
    have ff3 : wF.cell? ⟨w.heap.size, 3, none⟩ = some (.int .i64 0) := (cell_of gF).trans rfl
    have ff4 : wF.cell? ⟨w.heap.size, 4, none⟩ = some (.int .i64 0) := (cell_of gF).trans rfl
    have ff5 : wF.cell? ⟨w.heap.size, 5, none⟩ = some (.string ⟨#[]⟩) := (cell_of gF).trans rfl
    exact bodyPost_ret (v := .tuple #[.agg #[.int .i64 0, .int .i64 0, .bool false, .int .i64 0, .int .i64 0, .string ⟨#[]⟩], .int .i64 E]) (by simp [results, Tryz.results17, go_sem, ff0, ff1, ff2, ff3, ff4, ff5]) rfl ⟨by rw [ra2_no hE0], bF⟩
set_option maxHeartbeats 1000000 in
set_option maxRecDepth 20000 in
theorem zrr_zneg (s : ByteArray) (x k2 : Nat) (R : Int) (w : World) (hs : s.size ≤ 9223372036854775807) (h0 : fx 1 s 0 0 = (0, 1, 0)) (h1 : fx 4 s 1 0 = (x, k2, 0)) (hR : wrap32 (x : Int) = R) (hr : R < 0) :
    Calls Tryz.prog 17 #[.string s] w fun e w' => e = .returned (.tuple #[.agg #[.int .i64 0, .int .i64 0, .bool false, .int .i64 0, .int .i64 0, .string ⟨#[]⟩], .int .i64 1]) ∧ Below w.heap.size w w' := by
  have hk1 := fxle (Nat.zero_le _) h0
  have hwr : IntKind.i64.wrap R = R := by rw [← hR]; exact wrapY (by unfold wrap32; omega) (by unfold wrap32; omega)
  have hRb : ((R : Int) == 0) = false := by rw [beq_eq_false_iff_ne]; omega
  have g1 : (w.alloc (.cells #[.int .i64 0, .int .i64 0, .bool false, .int .i64 0, .int .i64 0, .string ⟨#[]⟩] 27)).heap[w.heap.size]? = some (.cells #[.int .i64 0, .int .i64 0, .bool false, .int .i64 0, .int .i64 0, .string ⟨#[]⟩] 27 (0, 0)) := heap_new _ _
  have b1 : Below w.heap.size w (w.alloc (.cells #[.int .i64 0, .int .i64 0, .bool false, .int .i64 0, .int .i64 0, .string ⟨#[]⟩] 27)) := (Below.refl _ _).alloc (Nat.le_refl _) _
  go_enter Tryz.func17, Tryz.ntmps17
  go_wp2_with fail
  generalize w.alloc (.cells #[.int .i64 0, .int .i64 0, .bool false, .int .i64 0, .int .i64 0, .string ⟨#[]⟩] 27) = w1 at *
  refine (xnew_any s w1).mono ?_
  rintro e w2 ⟨rfl, rfl⟩
  have h2' : RX (w1.alloc (.cells #[.string s, .int .i64 0, .int .i64 0] 113)) w1.heap.size s 0 0 := heap_new _ _
  have g2 : (w1.alloc (.cells #[.string s, .int .i64 0, .int .i64 0] 113)).heap[w.heap.size]? = some (.cells #[.int .i64 0, .int .i64 0, .bool false, .int .i64 0, .int .i64 0, .string ⟨#[]⟩] 27 (0, 0)) := heap_alloc_at g1
  have b2 : Below w.heap.size w (w1.alloc (.cells #[.string s, .int .i64 0, .int .i64 0] 113)) := b1.alloc b1.size _
  have hbb : w.heap.size < w1.heap.size := lt_of_heap g1
  have G2 := hid g2
  have B2 := hid b2
  clear g1 b1 g2 b2
  go_wp2_with fail
  generalize w1.alloc (.cells #[.string s, .int .i64 0, .int .i64 0] 113) = w2 at *
  generalize w1.heap.size = b at *
  have CU := xu8_any b s 0 0 w2 h2' (Nat.zero_le _) hs
  rw [h0] at CU
  dsimp only at CU
  refine CU.mono ?_
  rintro e w3 ⟨rfl, h3', hc3⟩
  have G3 : Hid (w3.heap[w.heap.size]? = some (.cells #[.int .i64 0, .int .i64 0, .bool false, .int .i64 0, .int .i64 0, .string ⟨#[]⟩] 27 (0, 0))) := hid ((hc3.block _ (lt_of_heap G2.out) (by omega)).trans G2.out)
  have B3 : Hid (Below w.heap.size w w3) := hid (B2.out.trans (hc3.below B2.out.size (fun i hi h => by omega)))
  clear hc3 G2 B2 h2' CU
  have h4 : RX (w3.alloc (.cells #[.int .i64 0, .int .i64 0, .bool false, .int .i64 0, .int .i64 0, .string ⟨#[]⟩] 27)) b s 1 0 := h3'.alloc _
  have r4 : (w3.alloc (.cells #[.int .i64 0, .int .i64 0, .bool false, .int .i64 0, .int .i64 0, .string ⟨#[]⟩] 27)).heap[w3.heap.size]? = some (.cells #[.int .i64 0, .int .i64 0, .bool false, .int .i64 0, .int .i64 0, .string ⟨#[]⟩] 27 (0, 0)) := heap_new _ _
  have G4 : Hid ((w3.alloc (.cells #[.int .i64 0, .int .i64 0, .bool false, .int .i64 0, .int .i64 0, .string ⟨#[]⟩] 27)).heap[w.heap.size]? = some (.cells #[.int .i64 0, .int .i64 0, .bool false, .int .i64 0, .int .i64 0, .string ⟨#[]⟩] 27 (0, 0))) := hid (heap_alloc_at G3.out)
  have B4 : Hid (Below w.heap.size w (w3.alloc (.cells #[.int .i64 0, .int .i64 0, .bool false, .int .i64 0, .int .i64 0, .string ⟨#[]⟩] 27))) := hid (B3.out.alloc B3.out.size _)
  have hGG : w3.heap.size ≠ b ∧ w.heap.size < w3.heap.size := ⟨by have := h3'.lt; omega, lt_of_heap G3.out⟩
  clear G3 B3 h3'
  go_wp2_with fail
  generalize (w3.alloc (.cells #[.int .i64 0, .int .i64 0, .bool false, .int .i64 0, .int .i64 0, .string ⟨#[]⟩] 27)) = w4 at *
  generalize w3.heap.size = G at *
  have R4 := hid r4
  have CI := xi32_any b s 1 0 w4 h4 hk1 hs
  rw [h1] at CI
  dsimp only at CI
  rw [hR] at CI
  refine CI.mono ?_
  rintro e w5 ⟨rfl, h5, hc5⟩
  have G5 : Hid (w5.heap[w.heap.size]? = some (.cells #[.int .i64 0, .int .i64 0, .bool false, .int .i64 0, .int .i64 0, .string ⟨#[]⟩] 27 (0, 0))) := hid ((hc5.block _ (lt_of_heap G4.out) (by omega)).trans G4.out)
  have R5 : Hid (w5.heap[G]? = some (.cells #[.int .i64 0, .int .i64 0, .bool false, .int .i64 0, .int .i64 0, .string ⟨#[]⟩] 27 (0, 0))) := hid ((hc5.block _ (lt_of_heap R4.out) hGG.1).trans R4.out)
  have B5 : Hid (Below w.heap.size w w5) := hid (B4.out.trans (hc5.below B4.out.size (fun i hi h => by omega)))
  have H5 := hid h5
  clear hc5 G4 B4 R4 r4 h4 h5 CI
  have xx0 : w5.cell? ⟨w.heap.size, 0, none⟩ = some (.int .i64 0) := (cell_of G5.out).trans rfl
  have xx1 : w5.cell? ⟨w.heap.size, 1, none⟩ = some (.int .i64 0) := (cell_of G5.out).trans rfl
  have xx2 : w5.cell? ⟨w.heap.size, 2, none⟩ = some (.bool false) := (cell_of G5.out).trans rfl
  have xx3 : w5.cell? ⟨w.heap.size, 3, none⟩ = some (.int .i64 0) := (cell_of G5.out).trans rfl
  have xx4 : w5.cell? ⟨w.heap.size, 4, none⟩ = some (.int .i64 0) := (cell_of G5.out).trans rfl
  have xx5 : w5.cell? ⟨w.heap.size, 5, none⟩ = some (.string ⟨#[]⟩) := (cell_of G5.out).trans rfl
  have gF : ((((((w5.setCell ⟨w.heap.size, 0, none⟩ (.int .i64 0)).setCell ⟨w.heap.size, 1, none⟩ (.int .i64 0)).setCell ⟨w.heap.size, 2, none⟩ (.bool false)).setCell ⟨w.heap.size, 3, none⟩ (.int .i64 0)).setCell ⟨w.heap.size, 4, none⟩ (.int .i64 0)).setCell ⟨w.heap.size, 5, none⟩ (.string ⟨#[]⟩)).heap[w.heap.size]? = some (.cells #[.int .i64 0, .int .i64 0, .bool false, .int .i64 0, .int .i64 0, .string ⟨#[]⟩] 27 (0, 0)) := (heap_set (heap_set (heap_set (heap_set (heap_set (heap_set G5.out))))))
  have bF : Below w.heap.size w ((((((w5.setCell ⟨w.heap.size, 0, none⟩ (.int .i64 0)).setCell ⟨w.heap.size, 1, none⟩ (.int .i64 0)).setCell ⟨w.heap.size, 2, none⟩ (.bool false)).setCell ⟨w.heap.size, 3, none⟩ (.int .i64 0)).setCell ⟨w.heap.size, 4, none⟩ (.int .i64 0)).setCell ⟨w.heap.size, 5, none⟩ (.string ⟨#[]⟩)) := ((((((B5.out.setCell (Nat.le_refl _) _).setCell (Nat.le_refl _) _).setCell (Nat.le_refl _) _).setCell (Nat.le_refl _) _).setCell (Nat.le_refl _) _).setCell (Nat.le_refl _) _)
  have hrF := lt_of_heap G5.out
  have zz0 := froz_of (i := 0) G5.out
  have zz1 := froz_of (i := 1) G5.out
  have zz2 := froz_of (i := 2) G5.out
  have zz3 := froz_of (i := 3) G5.out
  have zz4 := froz_of (i := 4) G5.out
  have zz5 := froz_of (i := 5) G5.out
  go_wp2_with fail
  generalize ((((((w5.setCell ⟨w.heap.size, 0, none⟩ (.int .i64 0)).setCell ⟨w.heap.size, 1, none⟩ (.int .i64 0)).setCell ⟨w.heap.size, 2, none⟩ (.bool false)).setCell ⟨w.heap.size, 3, none⟩ (.int .i64 0)).setCell ⟨w.heap.size, 4, none⟩ (.int .i64 0)).setCell ⟨w.heap.size, 5, none⟩ (.string ⟨#[]⟩)) = wF at *
  have ff0 : wF.cell? ⟨w.heap.size, 0, none⟩ = some (.int .i64 0) := (cell_of gF).trans rfl
  have ff1 : wF.cell? ⟨w.heap.size, 1, none⟩ = some (.int .i64 0) := (cell_of gF).trans rfl
  have ff2 : wF.cell? ⟨w.heap.size, 2, none⟩ = some (.bool false) := (cell_of gF).trans rfl
  have ff3 : wF.cell? ⟨w.heap.size, 3, none⟩ = some (.int .i64 0) := (cell_of gF).trans rfl
  have ff4 : wF.cell? ⟨w.heap.size, 4, none⟩ = some (.int .i64 0) := (cell_of gF).trans rfl
  have ff5 : wF.cell? ⟨w.heap.size, 5, none⟩ = some (.string ⟨#[]⟩) := (cell_of gF).trans rfl
  exact bodyPost_ret (v := .tuple #[.agg #[.int .i64 0, .int .i64 0, .bool false, .int .i64 0, .int .i64 0, .string ⟨#[]⟩], .int .i64 1]) (by simp [results, Tryz.results17, go_sem, ff0, ff1, ff2, ff3, ff4, ff5]) rfl ⟨rfl, bF⟩
set_option maxHeartbeats 1000000 in
set_option maxRecDepth 20000 in
theorem zrr_zcut (s : ByteArray) (x k2 e2 : Nat) (w : World) (hs : s.size ≤ 9223372036854775807) (h0 : fx 1 s 0 0 = (0, 1, 0)) (h1 : fx 4 s 1 0 = (x, k2, e2)) (hR : wrap32 (x : Int) = 0) (he : e2 ≠ 0) :
    Calls Tryz.prog 17 #[.string s] w fun e w' => e = .returned (.tuple #[.agg #[.int .i64 0, .int .i64 0, .bool false, .int .i64 0, .int .i64 0, .string ⟨#[]⟩], .int .i64 e2]) ∧ Below w.heap.size w w' := by
  have hk1 := fxle (Nat.zero_le _) h0
  have heb : ((e2 : Int) != 0) = true := by rw [bne_iff_ne]; omega
  have g1 : (w.alloc (.cells #[.int .i64 0, .int .i64 0, .bool false, .int .i64 0, .int .i64 0, .string ⟨#[]⟩] 27)).heap[w.heap.size]? = some (.cells #[.int .i64 0, .int .i64 0, .bool false, .int .i64 0, .int .i64 0, .string ⟨#[]⟩] 27 (0, 0)) := heap_new _ _
  have b1 : Below w.heap.size w (w.alloc (.cells #[.int .i64 0, .int .i64 0, .bool false, .int .i64 0, .int .i64 0, .string ⟨#[]⟩] 27)) := (Below.refl _ _).alloc (Nat.le_refl _) _
  go_enter Tryz.func17, Tryz.ntmps17
  go_wp2_with fail
  generalize w.alloc (.cells #[.int .i64 0, .int .i64 0, .bool false, .int .i64 0, .int .i64 0, .string ⟨#[]⟩] 27) = w1 at *
  refine (xnew_any s w1).mono ?_
  rintro e w2 ⟨rfl, rfl⟩
  have h2' : RX (w1.alloc (.cells #[.string s, .int .i64 0, .int .i64 0] 113)) w1.heap.size s 0 0 := heap_new _ _
  have g2 : (w1.alloc (.cells #[.string s, .int .i64 0, .int .i64 0] 113)).heap[w.heap.size]? = some (.cells #[.int .i64 0, .int .i64 0, .bool false, .int .i64 0, .int .i64 0, .string ⟨#[]⟩] 27 (0, 0)) := heap_alloc_at g1
  have b2 : Below w.heap.size w (w1.alloc (.cells #[.string s, .int .i64 0, .int .i64 0] 113)) := b1.alloc b1.size _
  have hbb : w.heap.size < w1.heap.size := lt_of_heap g1
  have G2 := hid g2
  have B2 := hid b2
  clear g1 b1 g2 b2
  go_wp2_with fail
  generalize w1.alloc (.cells #[.string s, .int .i64 0, .int .i64 0] 113) = w2 at *
  generalize w1.heap.size = b at *
  have CU := xu8_any b s 0 0 w2 h2' (Nat.zero_le _) hs
  rw [h0] at CU
  dsimp only at CU
  refine CU.mono ?_
  rintro e w3 ⟨rfl, h3', hc3⟩
  have G3 : Hid (w3.heap[w.heap.size]? = some (.cells #[.int .i64 0, .int .i64 0, .bool false, .int .i64 0, .int .i64 0, .string ⟨#[]⟩] 27 (0, 0))) := hid ((hc3.block _ (lt_of_heap G2.out) (by omega)).trans G2.out)
  have B3 : Hid (Below w.heap.size w w3) := hid (B2.out.trans (hc3.below B2.out.size (fun i hi h => by omega)))
  clear hc3 G2 B2 h2' CU
  have h4 : RX (w3.alloc (.cells #[.int .i64 0, .int .i64 0, .bool false, .int .i64 0, .int .i64 0, .string ⟨#[]⟩] 27)) b s 1 0 := h3'.alloc _
  have r4 : (w3.alloc (.cells #[.int .i64 0, .int .i64 0, .bool false, .int .i64 0, .int .i64 0, .string ⟨#[]⟩] 27)).heap[w3.heap.size]? = some (.cells #[.int .i64 0, .int .i64 0, .bool false, .int .i64 0, .int .i64 0, .string ⟨#[]⟩] 27 (0, 0)) := heap_new _ _
  have G4 : Hid ((w3.alloc (.cells #[.int .i64 0, .int .i64 0, .bool false, .int .i64 0, .int .i64 0, .string ⟨#[]⟩] 27)).heap[w.heap.size]? = some (.cells #[.int .i64 0, .int .i64 0, .bool false, .int .i64 0, .int .i64 0, .string ⟨#[]⟩] 27 (0, 0))) := hid (heap_alloc_at G3.out)
  have B4 : Hid (Below w.heap.size w (w3.alloc (.cells #[.int .i64 0, .int .i64 0, .bool false, .int .i64 0, .int .i64 0, .string ⟨#[]⟩] 27))) := hid (B3.out.alloc B3.out.size _)
  have hGG : w3.heap.size ≠ b ∧ w.heap.size < w3.heap.size := ⟨by have := h3'.lt; omega, lt_of_heap G3.out⟩
  clear G3 B3 h3'
  go_wp2_with fail
  generalize (w3.alloc (.cells #[.int .i64 0, .int .i64 0, .bool false, .int .i64 0, .int .i64 0, .string ⟨#[]⟩] 27)) = w4 at *
  generalize w3.heap.size = G at *
  have R4 := hid r4
  have CI := xi32_any b s 1 0 w4 h4 hk1 hs
  rw [h1] at CI
  dsimp only at CI
  rw [hR] at CI
  refine CI.mono ?_
  rintro e w5 ⟨rfl, h5, hc5⟩
  have G5 : Hid (w5.heap[w.heap.size]? = some (.cells #[.int .i64 0, .int .i64 0, .bool false, .int .i64 0, .int .i64 0, .string ⟨#[]⟩] 27 (0, 0))) := hid ((hc5.block _ (lt_of_heap G4.out) (by omega)).trans G4.out)
  have R5 : Hid (w5.heap[G]? = some (.cells #[.int .i64 0, .int .i64 0, .bool false, .int .i64 0, .int .i64 0, .string ⟨#[]⟩] 27 (0, 0))) := hid ((hc5.block _ (lt_of_heap R4.out) hGG.1).trans R4.out)
  have B5 : Hid (Below w.heap.size w w5) := hid (B4.out.trans (hc5.below B4.out.size (fun i hi h => by omega)))
  have H5 := hid h5
  clear hc5 G4 B4 R4 r4 h4 h5 CI
  have xx0 : w5.cell? ⟨w.heap.size, 0, none⟩ = some (.int .i64 0) := (cell_of G5.out).trans rfl
  have xx1 : w5.cell? ⟨w.heap.size, 1, none⟩ = some (.int .i64 0) := (cell_of G5.out).trans rfl
  have xx2 : w5.cell? ⟨w.heap.size, 2, none⟩ = some (.bool false) := (cell_of G5.out).trans rfl
  have xx3 : w5.cell? ⟨w.heap.size, 3, none⟩ = some (.int .i64 0) := (cell_of G5.out).trans rfl
  have xx4 : w5.cell? ⟨w.heap.size, 4, none⟩ = some (.int .i64 0) := (cell_of G5.out).trans rfl
  have xx5 : w5.cell? ⟨w.heap.size, 5, none⟩ = some (.string ⟨#[]⟩) := (cell_of G5.out).trans rfl
  have gF : ((((((w5.setCell ⟨w.heap.size, 0, none⟩ (.int .i64 0)).setCell ⟨w.heap.size, 1, none⟩ (.int .i64 0)).setCell ⟨w.heap.size, 2, none⟩ (.bool false)).setCell ⟨w.heap.size, 3, none⟩ (.int .i64 0)).setCell ⟨w.heap.size, 4, none⟩ (.int .i64 0)).setCell ⟨w.heap.size, 5, none⟩ (.string ⟨#[]⟩)).heap[w.heap.size]? = some (.cells #[.int .i64 0, .int .i64 0, .bool false, .int .i64 0, .int .i64 0, .string ⟨#[]⟩] 27 (0, 0)) := (heap_set (heap_set (heap_set (heap_set (heap_set (heap_set G5.out))))))
  have bF : Below w.heap.size w ((((((w5.setCell ⟨w.heap.size, 0, none⟩ (.int .i64 0)).setCell ⟨w.heap.size, 1, none⟩ (.int .i64 0)).setCell ⟨w.heap.size, 2, none⟩ (.bool false)).setCell ⟨w.heap.size, 3, none⟩ (.int .i64 0)).setCell ⟨w.heap.size, 4, none⟩ (.int .i64 0)).setCell ⟨w.heap.size, 5, none⟩ (.string ⟨#[]⟩)) := ((((((B5.out.setCell (Nat.le_refl _) _).setCell (Nat.le_refl _) _).setCell (Nat.le_refl _) _).setCell (Nat.le_refl _) _).setCell (Nat.le_refl _) _).setCell (Nat.le_refl _) _)
  have hrF := lt_of_heap G5.out
  have zz0 := froz_of (i := 0) G5.out
  have zz1 := froz_of (i := 1) G5.out
  have zz2 := froz_of (i := 2) G5.out
  have zz3 := froz_of (i := 3) G5.out
  have zz4 := froz_of (i := 4) G5.out
  have zz5 := froz_of (i := 5) G5.out
  go_wp2_with fail
  generalize ((((((w5.setCell ⟨w.heap.size, 0, none⟩ (.int .i64 0)).setCell ⟨w.heap.size, 1, none⟩ (.int .i64 0)).setCell ⟨w.heap.size, 2, none⟩ (.bool false)).setCell ⟨w.heap.size, 3, none⟩ (.int .i64 0)).setCell ⟨w.heap.size, 4, none⟩ (.int .i64 0)).setCell ⟨w.heap.size, 5, none⟩ (.string ⟨#[]⟩)) = wF at *
  have ff0 : wF.cell? ⟨w.heap.size, 0, none⟩ = some (.int .i64 0) := (cell_of gF).trans rfl
  have ff1 : wF.cell? ⟨w.heap.size, 1, none⟩ = some (.int .i64 0) := (cell_of gF).trans rfl
  have ff2 : wF.cell? ⟨w.heap.size, 2, none⟩ = some (.bool false) := (cell_of gF).trans rfl
  have ff3 : wF.cell? ⟨w.heap.size, 3, none⟩ = some (.int .i64 0) := (cell_of gF).trans rfl
  have ff4 : wF.cell? ⟨w.heap.size, 4, none⟩ = some (.int .i64 0) := (cell_of gF).trans rfl
  have ff5 : wF.cell? ⟨w.heap.size, 5, none⟩ = some (.string ⟨#[]⟩) := (cell_of gF).trans rfl
  exact bodyPost_ret (v := .tuple #[.agg #[.int .i64 0, .int .i64 0, .bool false, .int .i64 0, .int .i64 0, .string ⟨#[]⟩], .int .i64 e2]) (by simp [results, Tryz.results17, go_sem, ff0, ff1, ff2, ff3, ff4, ff5]) rfl ⟨rfl, bF⟩
set_option maxHeartbeats 1000000 in
set_option maxRecDepth 20000 in
theorem zrr_zpos (s : ByteArray) (x k2 : Nat) (R : Int) (E : Nat) (w : World) (hs : s.size ≤ 9223372036854775807) (h0 : fx 1 s 0 0 = (0, 1, 0)) (h1 : fx 4 s 1 0 = (x, k2, 0)) (hR : wrap32 (x : Int) = R) (hr : 0 < R) (hE : fl 0 (dq s k2 0) = E) :
    Calls Tryz.prog 17 #[.string s] w fun e w' => e = .returned (ra2 #[.int .i64 0, .int .i64 R, .bool false, .int .i64 0, .int .i64 0, .string ⟨#[]⟩] #[.int .i64 0, .int .i64 0, .bool false, .int .i64 0, .int .i64 0, .string ⟨#[]⟩] E) ∧ Below w.heap.size w w' := by
  have hk1 := fxle (Nat.zero_le _) h0
  have hwr : IntKind.i64.wrap R = R := by rw [← hR]; exact wrapY (by unfold wrap32; omega) (by unfold wrap32; omega)
  have hRb : ((R : Int) == 0) = false := by rw [beq_eq_false_iff_ne]; omega
  have hr2 : ¬ R < 0 := by omega
  have hrd : decide (R < 0) = false := decide_eq_false hr2
  have g1 : (w.alloc (.cells #[.int .i64 0, .int .i64 0, .bool false, .int .i64 0, .int .i64 0, .string ⟨#[]⟩] 27)).heap[w.heap.size]? = some (.cells #[.int .i64 0, .int .i64 0, .bool false, .int .i64 0, .int .i64 0, .string ⟨#[]⟩] 27 (0, 0)) := heap_new _ _
  have b1 : Below w.heap.size w (w.alloc (.cells #[.int .i64 0, .int .i64 0, .bool false, .int .i64 0, .int .i64 0, .string ⟨#[]⟩] 27)) := (Below.refl _ _).alloc (Nat.le_refl _) _
  go_enter Tryz.func17, Tryz.ntmps17
  go_wp2_with fail
  generalize w.alloc (.cells #[.int .i64 0, .int .i64 0, .bool false, .int .i64 0, .int .i64 0, .string ⟨#[]⟩] 27) = w1 at *
  refine (xnew_any s w1).mono ?_
  rintro e w2 ⟨rfl, rfl⟩
  have h2' : RX (w1.alloc (.cells #[.string s, .int .i64 0, .int .i64 0] 113)) w1.heap.size s 0 0 := heap_new _ _
  have g2 : (w1.alloc (.cells #[.string s, .int .i64 0, .int .i64 0] 113)).heap[w.heap.size]? = some (.cells #[.int .i64 0, .int .i64 0, .bool false, .int .i64 0, .int .i64 0, .string ⟨#[]⟩] 27 (0, 0)) := heap_alloc_at g1
  have b2 : Below w.heap.size w (w1.alloc (.cells #[.string s, .int .i64 0, .int .i64 0] 113)) := b1.alloc b1.size _
  have hbb : w.heap.size < w1.heap.size := lt_of_heap g1
  have G2 := hid g2
  have B2 := hid b2
  clear g1 b1 g2 b2
  go_wp2_with fail
  generalize w1.alloc (.cells #[.string s, .int .i64 0, .int .i64 0] 113) = w2 at *
  generalize w1.heap.size = b at *
  have CU := xu8_any b s 0 0 w2 h2' (Nat.zero_le _) hs
  rw [h0] at CU
  dsimp only at CU
  refine CU.mono ?_
  rintro e w3 ⟨rfl, h3', hc3⟩
  have G3 : Hid (w3.heap[w.heap.size]? = some (.cells #[.int .i64 0, .int .i64 0, .bool false, .int .i64 0, .int .i64 0, .string ⟨#[]⟩] 27 (0, 0))) := hid ((hc3.block _ (lt_of_heap G2.out) (by omega)).trans G2.out)
  have B3 : Hid (Below w.heap.size w w3) := hid (B2.out.trans (hc3.below B2.out.size (fun i hi h => by omega)))
  clear hc3 G2 B2 h2' CU
  have h4 : RX (w3.alloc (.cells #[.int .i64 0, .int .i64 0, .bool false, .int .i64 0, .int .i64 0, .string ⟨#[]⟩] 27)) b s 1 0 := h3'.alloc _
  have r4 : (w3.alloc (.cells #[.int .i64 0, .int .i64 0, .bool false, .int .i64 0, .int .i64 0, .string ⟨#[]⟩] 27)).heap[w3.heap.size]? = some (.cells #[.int .i64 0, .int .i64 0, .bool false, .int .i64 0, .int .i64 0, .string ⟨#[]⟩] 27 (0, 0)) := heap_new _ _
  have G4 : Hid ((w3.alloc (.cells #[.int .i64 0, .int .i64 0, .bool false, .int .i64 0, .int .i64 0, .string ⟨#[]⟩] 27)).heap[w.heap.size]? = some (.cells #[.int .i64 0, .int .i64 0, .bool false, .int .i64 0, .int .i64 0, .string ⟨#[]⟩] 27 (0, 0))) := hid (heap_alloc_at G3.out)
  have B4 : Hid (Below w.heap.size w (w3.alloc (.cells #[.int .i64 0, .int .i64 0, .bool false, .int .i64 0, .int .i64 0, .string ⟨#[]⟩] 27))) := hid (B3.out.alloc B3.out.size _)
  have hGG : w3.heap.size ≠ b ∧ w.heap.size < w3.heap.size := ⟨by have := h3'.lt; omega, lt_of_heap G3.out⟩
  clear G3 B3 h3'
  go_wp2_with fail
  generalize (w3.alloc (.cells #[.int .i64 0, .int .i64 0, .bool false, .int .i64 0, .int .i64 0, .string ⟨#[]⟩] 27)) = w4 at *
  generalize w3.heap.size = G at *
  have R4 := hid r4
  have CI := xi32_any b s 1 0 w4 h4 hk1 hs
  rw [h1] at CI
  dsimp only at CI
  rw [hR] at CI
  refine CI.mono ?_
  rintro e w5 ⟨rfl, h5, hc5⟩
  have G5 : Hid (w5.heap[w.heap.size]? = some (.cells #[.int .i64 0, .int .i64 0, .bool false, .int .i64 0, .int .i64 0, .string ⟨#[]⟩] 27 (0, 0))) := hid ((hc5.block _ (lt_of_heap G4.out) (by omega)).trans G4.out)
  have R5 : Hid (w5.heap[G]? = some (.cells #[.int .i64 0, .int .i64 0, .bool false, .int .i64 0, .int .i64 0, .string ⟨#[]⟩] 27 (0, 0))) := hid ((hc5.block _ (lt_of_heap R4.out) hGG.1).trans R4.out)
  have B5 : Hid (Below w.heap.size w w5) := hid (B4.out.trans (hc5.below B4.out.size (fun i hi h => by omega)))
  have H5 := hid h5
  clear hc5 G4 B4 R4 r4 h4 h5 CI
  have d5 : w5.cell? ⟨G, 1, none⟩ = some (.int .i64 0) := (cell_of R5.out).trans rfl
  have z5 := froz_of (i := 1) R5.out
  have G6 : Hid ((w5.setCell ⟨G, 1, none⟩ (.int .i64 R)).heap[w.heap.size]? = some (.cells #[.int .i64 0, .int .i64 0, .bool false, .int .i64 0, .int .i64 0, .string ⟨#[]⟩] 27 (0, 0))) := hid (heap_set_far G5.out (by show w.heap.size ≠ G; omega))
  have r6 : (w5.setCell ⟨G, 1, none⟩ (.int .i64 R)).heap[G]? = some (.cells #[.int .i64 0, .int .i64 R, .bool false, .int .i64 0, .int .i64 0, .string ⟨#[]⟩] 27 (0, 0)) := heap_set R5.out
  have B6 : Hid (Below w.heap.size w (w5.setCell ⟨G, 1, none⟩ (.int .i64 R))) := hid (B5.out.setCell (by show w.heap.size ≤ G; omega) _)
  have H6 : Hid (RX (w5.setCell ⟨G, 1, none⟩ (.int .i64 R)) b s k2 0) := hid (rx_set H5.out hGG.1)
  have R6 := hid r6
  clear G5 R5 B5 H5 r6
  go_upto_region 14 with fail
  generalize (w5.setCell ⟨G, 1, none⟩ (.int .i64 R)) = w6 at *
  clear d5 z5
  have k60 : w6.cell? ⟨G, 0, none⟩ = some (.int .i64 0) := (cell_of R6.out).trans rfl
  have k61 : w6.cell? ⟨G, 1, none⟩ = some (.int .i64 R) := (cell_of R6.out).trans rfl
  have hE' : dq s k2 0 = E := by rw [fl_0] at hE; exact hE
  have hkf : k2 ≤ s.size := fxle hk1 h1
  go_wp2_with fail
  have CD := xdone_any b s k2 0 w6 H6.out hkf hs
  rw [show dqx s k2 0 = E from hE'] at CD
  refine CD.mono ?_
  rintro e w19 ⟨rfl, n1, rfl⟩
  have G19 : Hid ((w6.drewN n1).heap[w.heap.size]? = some (.cells #[.int .i64 0, .int .i64 0, .bool false, .int .i64 0, .int .i64 0, .string ⟨#[]⟩] 27 (0, 0))) := hid G6.out
  have R19 : Hid ((w6.drewN n1).heap[G]? = some (.cells #[.int .i64 0, .int .i64 R, .bool false, .int .i64 0, .int .i64 0, .string ⟨#[]⟩] 27 (0, 0))) := hid R6.out
  have B19 : Hid (Below w.heap.size w (w6.drewN n1)) := hid (drewN_bel B6.out n1)
  clear G6 R6 B6 H6 CD
  generalize w6.drewN n1 = w19 at *
  have xx0 : w19.cell? ⟨w.heap.size, 0, none⟩ = some (.int .i64 0) := (cell_of G19.out).trans rfl
  have xx1 : w19.cell? ⟨w.heap.size, 1, none⟩ = some (.int .i64 0) := (cell_of G19.out).trans rfl
  have xx2 : w19.cell? ⟨w.heap.size, 2, none⟩ = some (.bool false) := (cell_of G19.out).trans rfl
  have xx3 : w19.cell? ⟨w.heap.size, 3, none⟩ = some (.int .i64 0) := (cell_of G19.out).trans rfl
  have xx4 : w19.cell? ⟨w.heap.size, 4, none⟩ = some (.int .i64 0) := (cell_of G19.out).trans rfl
  have xx5 : w19.cell? ⟨w.heap.size, 5, none⟩ = some (.string ⟨#[]⟩) := (cell_of G19.out).trans rfl
  have yy0 : w19.cell? ⟨G, 0, none⟩ = some (.int .i64 0) := (cell_of R19.out).trans rfl
  have yy1 : w19.cell? ⟨G, 1, none⟩ = some (.int .i64 R) := (cell_of R19.out).trans rfl
  have yy2 : w19.cell? ⟨G, 2, none⟩ = some (.bool false) := (cell_of R19.out).trans rfl
  have yy3 : w19.cell? ⟨G, 3, none⟩ = some (.int .i64 0) := (cell_of R19.out).trans rfl
  have yy4 : w19.cell? ⟨G, 4, none⟩ = some (.int .i64 0) := (cell_of R19.out).trans rfl
  have yy5 : w19.cell? ⟨G, 5, none⟩ = some (.string ⟨#[]⟩) := (cell_of R19.out).trans rfl
  by_cases hE0 : E = 0
  · subst hE0
    have gF : ((((((w19.setCell ⟨w.heap.size, 0, none⟩ (.int .i64 0)).setCell ⟨w.heap.size, 1, none⟩ (.int .i64 R)).setCell ⟨w.heap.size, 2, none⟩ (.bool false)).setCell ⟨w.heap.size, 3, none⟩ (.int .i64 0)).setCell ⟨w.heap.size, 4, none⟩ (.int .i64 0)).setCell ⟨w.heap.size, 5, none⟩ (.string ⟨#[]⟩)).heap[w.heap.size]? = some (.cells #[.int .i64 0, .int .i64 R, .bool false, .int .i64 0, .int .i64 0, .string ⟨#[]⟩] 27 (0, 0)) := (heap_set (heap_set (heap_set (heap_set (heap_set (heap_set G19.out))))))
    have bF : Below w.heap.size w ((((((w19.setCell ⟨w.heap.size, 0, none⟩ (.int .i64 0)).setCell ⟨w.heap.size, 1, none⟩ (.int .i64 R)).setCell ⟨w.heap.size, 2, none⟩ (.bool false)).setCell ⟨w.heap.size, 3, none⟩ (.int .i64 0)).setCell ⟨w.heap.size, 4, none⟩ (.int .i64 0)).setCell ⟨w.heap.size, 5, none⟩ (.string ⟨#[]⟩)) := ((((((B19.out.setCell (Nat.le_refl _) _).setCell (Nat.le_refl _) _).setCell (Nat.le_refl _) _).setCell (Nat.le_refl _) _).setCell (Nat.le_refl _) _).setCell (Nat.le_refl _) _)
    have hrF := lt_of_heap G19.out
    have zz0 := froz_of (i := 0) G19.out
    have zz1 := froz_of (i := 1) G19.out
    have zz2 := froz_of (i := 2) G19.out
    have zz3 := froz_of (i := 3) G19.out
    have zz4 := froz_of (i := 4) G19.out
    have zz5 := froz_of (i := 5) G19.out
    go_wp2_with fail
    generalize ((((((w19.setCell ⟨w.heap.size, 0, none⟩ (.int .i64 0)).setCell ⟨w.heap.size, 1, none⟩ (.int .i64 R)).setCell ⟨w.heap.size, 2, none⟩ (.bool false)).setCell ⟨w.heap.size, 3, none⟩ (.int .i64 0)).setCell ⟨w.heap.size, 4, none⟩ (.int .i64 0)).setCell ⟨w.heap.size, 5, none⟩ (.string ⟨#[]⟩)) = wF at *
    have ff0 : wF.cell? ⟨w.heap.size, 0, none⟩ = some (.int .i64 0) := (cell_of gF).trans rfl
    have ff1 : wF.cell? ⟨w.heap.size, 1, none⟩ = some (.int .i64 R) := (cell_of gF).trans rfl
    have ff2 : wF.cell? ⟨w.heap.size, 2, none⟩ = some (.bool false) := (cell_of gF).trans rfl
    have ff3 : wF.cell? ⟨w.heap.size, 3, none⟩ = some (.int .i64 0) := (cell_of gF).trans rfl
    have ff4 : wF.cell? ⟨w.heap.size, 4, none⟩ = some (.int .i64 0) := (cell_of gF).trans rfl
    have ff5 : wF.cell? ⟨w.heap.size, 5, none⟩ = some (.string ⟨#[]⟩) := (cell_of gF).trans rfl
    exact bodyPost_ret (v := .tuple #[.agg #[.int .i64 0, .int .i64 R, .bool false, .int .i64 0, .int .i64 0, .string ⟨#[]⟩], .int .i64 0]) (by simp [results, Tryz.results17, go_sem, ff0, ff1, ff2, ff3, ff4, ff5]) rfl ⟨rfl, bF⟩
  · have hne : ((E : Int) != 0) = true := by rw [bne_iff_ne]; omega
    have hne2 : ((E : Int) == 0) = false := by rw [beq_eq_false_iff_ne]; omega
    have gF : ((((((w19.setCell ⟨w.heap.size, 0, none⟩ (.int .i64 0)).setCell ⟨w.heap.size, 1, none⟩ (.int .i64 0)).setCell ⟨w.heap.size, 2, none⟩ (.bool false)).setCell ⟨w.heap.size, 3, none⟩ (.int .i64 0)).setCell ⟨w.heap.size, 4, none⟩ (.int .i64 0)).setCell ⟨w.heap.size, 5, none⟩ (.string ⟨#[]⟩)).heap[w.heap.size]? = some (.cells #[.int .i64 0, .int .i64 0, .bool false, .int .i64 0, .int .i64 0, .string ⟨#[]⟩] 27 (0, 0)) := (heap_set (heap_set (heap_set (heap_set (heap_set (heap_set G19.out))))))
    have bF : Below w.heap.size w ((((((w19.setCell ⟨w.heap.size, 0, none⟩ (.int .i64 0)).setCell ⟨w.heap.size, 1, none⟩ (.int .i64 0)).setCell ⟨w.heap.size, 2, none⟩ (.bool false)).setCell ⟨w.heap.size, 3, none⟩ (.int .i64 0)).setCell ⟨w.heap.size, 4, none⟩ (.int .i64 0)).setCell ⟨w.heap.size, 5, none⟩ (.string ⟨#[]⟩)) := ((((((B19.out.setCell (Nat.le_refl _) _).setCell (Nat.le_refl _) _).setCell (Nat.le_refl _) _).setCell (Nat.le_refl _) _).setCell (Nat.le_refl _) _).setCell (Nat.le_refl _) _)
    have hrF := lt_of_heap G19.out
    have zz0 := froz_of (i := 0) G19.out
    have zz1 := froz_of (i := 1) G19.out
    have zz2 := froz_of (i := 2) G19.out
    have zz3 := froz_of (i := 3) G19.out
    have zz4 := froz_of (i := 4) G19.out
    have zz5 := froz_of (i := 5) G19.out
    go_wp2_with fail
    generalize ((((((w19.setCell ⟨w.heap.size, 0, none⟩ (.int .i64 0)).setCell ⟨w.heap.size, 1, none⟩ (.int .i64 0)).setCell ⟨w.heap.size, 2, none⟩ (.bool false)).setCell ⟨w.heap.size, 3, none⟩ (.int .i64 0)).setCell ⟨w.heap.size, 4, none⟩ (.int .i64 0)).setCell ⟨w.heap.size, 5, none⟩ (.string ⟨#[]⟩)) = wF at *
    have ff0 : wF.cell? ⟨w.heap.size, 0, none⟩ = some (.int .i64 0) := (cell_of gF).trans rfl
    have ff1 : wF.cell? ⟨w.heap.size, 1, none⟩ = some (.int .i64 0) := (cell_of gF).trans rfl
    have ff2 : wF.cell? ⟨w.heap.size, 2, none⟩ = some (.bool false) := (cell_of gF).trans rfl
    have ff3 : wF.cell? ⟨w.heap.size, 3, none⟩ = some (.int .i64 0) := (cell_of gF).trans rfl
    have ff4 : wF.cell? ⟨w.heap.size, 4, none⟩ = some (.int .i64 0) := (cell_of gF).trans rfl
    have ff5 : wF.cell? ⟨w.heap.size, 5, none⟩ = some (.string ⟨#[]⟩) := (cell_of gF).trans rfl
    exact bodyPost_ret (v := .tuple #[.agg #[.int .i64 0, .int .i64 0, .bool false, .int .i64 0, .int .i64 0, .string ⟨#[]⟩], .int .i64 E]) (by simp [results, Tryz.results17, go_sem, ff0, ff1, ff2, ff3, ff4, ff5]) rfl ⟨by rw [ra2_no hE0], bF⟩
set_option maxHeartbeats 1000000 in
set_option maxRecDepth 20000 in
theorem zrr_zz (s : ByteArray) (x k2 : Nat) (w : World) (hs : s.size ≤ 9223372036854775807) (h0 : fx 1 s 0 0 = (0, 1, 0)) (h1 : fx 4 s 1 0 = (x, k2, 0)) (hR : wrap32 (x : Int) = 0) :
    Calls Tryz.prog 17 #[.string s] w fun e w' => e = .returned (.tuple #[.agg #[.int .i64 0, .int .i64 0, .bool false, .int .i64 0, .int .i64 0, .string ⟨#[]⟩], .int .i64 6]) ∧ Below w.heap.size w w' := by
  have hk1 := fxle (Nat.zero_le _) h0
  have g1 : (w.alloc (.cells #[.int .i64 0, .int .i64 0, .bool false, .int .i64 0, .int .i64 0, .string ⟨#[]⟩] 27)).heap[w.heap.size]? = some (.cells #[.int .i64 0, .int .i64 0, .bool false, .int .i64 0, .int .i64 0, .string ⟨#[]⟩] 27 (0, 0)) := heap_new _ _
  have b1 : Below w.heap.size w (w.alloc (.cells #[.int .i64 0, .int .i64 0, .bool false, .int .i64 0, .int .i64 0, .string ⟨#[]⟩] 27)) := (Below.refl _ _).alloc (Nat.le_refl _) _
  go_enter Tryz.func17, Tryz.ntmps17
  go_wp2_with fail
  generalize w.alloc (.cells #[.int .i64 0, .int .i64 0, .bool false, .int .i64 0, .int .i64 0, .string ⟨#[]⟩] 27) = w1 at *
  refine (xnew_any s w1).mono ?_
  rintro e w2 ⟨rfl, rfl⟩
  have h2' : RX (w1.alloc (.cells #[.string s, .int .i64 0, .int .i64 0] 113)) w1.heap.size s 0 0 := heap_new _ _
  have g2 : (w1.alloc (.cells #[.string s, .int .i64 0, .int .i64 0] 113)).heap[w.heap.size]? = some (.cells #[.int .i64 0, .int .i64 0, .bool false, .int .i64 0, .int .i64 0, .string ⟨#[]⟩] 27 (0, 0)) := heap_alloc_at g1
  have b2 : Below w.heap.size w (w1.alloc (.cells #[.string s, .int .i64 0, .int .i64 0] 113)) := b1.alloc b1.size _
  have hbb : w.heap.size < w1.heap.size := lt_of_heap g1
  have G2 := hid g2
  have B2 := hid b2
  clear g1 b1 g2 b2
  go_wp2_with fail
  generalize w1.alloc (.cells #[.string s, .int .i64 0, .int .i64 0] 113) = w2 at *
  generalize w1.heap.size = b at *
  have CU := xu8_any b s 0 0 w2 h2' (Nat.zero_le _) hs
  rw [h0] at CU
  dsimp only at CU
  refine CU.mono ?_
  rintro e w3 ⟨rfl, h3', hc3⟩
  have G3 : Hid (w3.heap[w.heap.size]? = some (.cells #[.int .i64 0, .int .i64 0, .bool false, .int .i64 0, .int .i64 0, .string ⟨#[]⟩] 27 (0, 0))) := hid ((hc3.block _ (lt_of_heap G2.out) (by omega)).trans G2.out)
  have B3 : Hid (Below w.heap.size w w3) := hid (B2.out.trans (hc3.below B2.out.size (fun i hi h => by omega)))
  clear hc3 G2 B2 h2' CU
  have h4 : RX (w3.alloc (.cells #[.int .i64 0, .int .i64 0, .bool false, .int .i64 0, .int .i64 0, .string ⟨#[]⟩] 27)) b s 1 0 := h3'.alloc _
  have r4 : (w3.alloc (.cells #[.int .i64 0, .int .i64 0, .bool false, .int .i64 0, .int .i64 0, .string ⟨#[]⟩] 27)).heap[w3.heap.size]? = some (.cells #[.int .i64 0, .int .i64 0, .bool false, .int .i64 0, .int .i64 0, .string ⟨#[]⟩] 27 (0, 0)) := heap_new _ _
  have G4 : Hid ((w3.alloc (.cells #[.int .i64 0, .int .i64 0, .bool false, .int .i64 0, .int .i64 0, .string ⟨#[]⟩] 27)).heap[w.heap.size]? = some (.cells #[.int .i64 0, .int .i64 0, .bool false, .int .i64 0, .int .i64 0, .string ⟨#[]⟩] 27 (0, 0))) := hid (heap_alloc_at G3.out)
  have B4 : Hid (Below w.heap.size w (w3.alloc (.cells #[.int .i64 0, .int .i64 0, .bool false, .int .i64 0, .int .i64 0, .string ⟨#[]⟩] 27))) := hid (B3.out.alloc B3.out.size _)
  have hGG : w3.heap.size ≠ b ∧ w.heap.size < w3.heap.size := ⟨by have := h3'.lt; omega, lt_of_heap G3.out⟩
  clear G3 B3 h3'
  go_wp2_with fail
  generalize (w3.alloc (.cells #[.int .i64 0, .int .i64 0, .bool false, .int .i64 0, .int .i64 0, .string ⟨#[]⟩] 27)) = w4 at *
  generalize w3.heap.size = G at *
  have R4 := hid r4
  have CI := xi32_any b s 1 0 w4 h4 hk1 hs
  rw [h1] at CI
  dsimp only at CI
  rw [hR] at CI
  refine CI.mono ?_
  rintro e w5 ⟨rfl, h5, hc5⟩
  have G5 : Hid (w5.heap[w.heap.size]? = some (.cells #[.int .i64 0, .int .i64 0, .bool false, .int .i64 0, .int .i64 0, .string ⟨#[]⟩] 27 (0, 0))) := hid ((hc5.block _ (lt_of_heap G4.out) (by omega)).trans G4.out)
  have R5 : Hid (w5.heap[G]? = some (.cells #[.int .i64 0, .int .i64 0, .bool false, .int .i64 0, .int .i64 0, .string ⟨#[]⟩] 27 (0, 0))) := hid ((hc5.block _ (lt_of_heap R4.out) hGG.1).trans R4.out)
  have B5 : Hid (Below w.heap.size w w5) := hid (B4.out.trans (hc5.below B4.out.size (fun i hi h => by omega)))
  have H5 := hid h5
  clear hc5 G4 B4 R4 r4 h4 h5 CI
  have d5 : w5.cell? ⟨G, 1, none⟩ = some (.int .i64 0) := (cell_of R5.out).trans rfl
  have z5 := froz_of (i := 1) R5.out
  have G6 : Hid ((w5.setCell ⟨G, 1, none⟩ (.int .i64 0)).heap[w.heap.size]? = some (.cells #[.int .i64 0, .int .i64 0, .bool false, .int .i64 0, .int .i64 0, .string ⟨#[]⟩] 27 (0, 0))) := hid (heap_set_far G5.out (by show w.heap.size ≠ G; omega))
  have r6 : (w5.setCell ⟨G, 1, none⟩ (.int .i64 0)).heap[G]? = some (.cells #[.int .i64 0, .int .i64 0, .bool false, .int .i64 0, .int .i64 0, .string ⟨#[]⟩] 27 (0, 0)) := heap_set R5.out
  have B6 : Hid (Below w.heap.size w (w5.setCell ⟨G, 1, none⟩ (.int .i64 0))) := hid (B5.out.setCell (by show w.heap.size ≤ G; omega) _)
  have H6 : Hid (RX (w5.setCell ⟨G, 1, none⟩ (.int .i64 0)) b s k2 0) := hid (rx_set H5.out hGG.1)
  have R6 := hid r6
  clear G5 R5 B5 H5 r6
  go_upto_region 14 with fail
  generalize (w5.setCell ⟨G, 1, none⟩ (.int .i64 0)) = w6 at *
  clear d5 z5
  have k60 : w6.cell? ⟨G, 0, none⟩ = some (.int .i64 0) := (cell_of R6.out).trans rfl
  have k61 : w6.cell? ⟨G, 1, none⟩ = some (.int .i64 0) := (cell_of R6.out).trans rfl
  have xx0 : w6.cell? ⟨w.heap.size, 0, none⟩ = some (.int .i64 0) := (cell_of G6.out).trans rfl
  have xx1 : w6.cell? ⟨w.heap.size, 1, none⟩ = some (.int .i64 0) := (cell_of G6.out).trans rfl
  have xx2 : w6.cell? ⟨w.heap.size, 2, none⟩ = some (.bool false) := (cell_of G6.out).trans rfl
  have xx3 : w6.cell? ⟨w.heap.size, 3, none⟩ = some (.int .i64 0) := (cell_of G6.out).trans rfl
  have xx4 : w6.cell? ⟨w.heap.size, 4, none⟩ = some (.int .i64 0) := (cell_of G6.out).trans rfl
  have xx5 : w6.cell? ⟨w.heap.size, 5, none⟩ = some (.string ⟨#[]⟩) := (cell_of G6.out).trans rfl
  have gF : ((((((w6.setCell ⟨w.heap.size, 0, none⟩ (.int .i64 0)).setCell ⟨w.heap.size, 1, none⟩ (.int .i64 0)).setCell ⟨w.heap.size, 2, none⟩ (.bool false)).setCell ⟨w.heap.size, 3, none⟩ (.int .i64 0)).setCell ⟨w.heap.size, 4, none⟩ (.int .i64 0)).setCell ⟨w.heap.size, 5, none⟩ (.string ⟨#[]⟩)).heap[w.heap.size]? = some (.cells #[.int .i64 0, .int .i64 0, .bool false, .int .i64 0, .int .i64 0, .string ⟨#[]⟩] 27 (0, 0)) := (heap_set (heap_set (heap_set (heap_set (heap_set (heap_set G6.out))))))
  have bF : Below w.heap.size w ((((((w6.setCell ⟨w.heap.size, 0, none⟩ (.int .i64 0)).setCell ⟨w.heap.size, 1, none⟩ (.int .i64 0)).setCell ⟨w.heap.size, 2, none⟩ (.bool false)).setCell ⟨w.heap.size, 3, none⟩ (.int .i64 0)).setCell ⟨w.heap.size, 4, none⟩ (.int .i64 0)).setCell ⟨w.heap.size, 5, none⟩ (.string ⟨#[]⟩)) := ((((((B6.out.setCell (Nat.le_refl _) _).setCell (Nat.le_refl _) _).setCell (Nat.le_refl _) _).setCell (Nat.le_refl _) _).setCell (Nat.le_refl _) _).setCell (Nat.le_refl _) _)
  have hrF := lt_of_heap G6.out
  have zz0 := froz_of (i := 0) G6.out
  have zz1 := froz_of (i := 1) G6.out
  have zz2 := froz_of (i := 2) G6.out
  have zz3 := froz_of (i := 3) G6.out
  have zz4 := froz_of (i := 4) G6.out
  have zz5 := froz_of (i := 5) G6.out
  go_wp2_with fail
  generalize ((((((w6.setCell ⟨w.heap.size, 0, none⟩ (.int .i64 0)).setCell ⟨w.heap.size, 1, none⟩ (.int .i64 0)).setCell ⟨w.heap.size, 2, none⟩ (.bool false)).setCell ⟨w.heap.size, 3, none⟩ (.int .i64 0)).setCell ⟨w.heap.size, 4, none⟩ (.int .i64 0)).setCell ⟨w.heap.size, 5, none⟩ (.string ⟨#[]⟩)) = wF at *
  have ff0 : wF.cell? ⟨w.heap.size, 0, none⟩ = some (.int .i64 0) := (cell_of gF).trans rfl
  have ff1 : wF.cell? ⟨w.heap.size, 1, none⟩ = some (.int .i64 0) := (cell_of gF).trans rfl
  have ff2 : wF.cell? ⟨w.heap.size, 2, none⟩ = some (.bool false) := (cell_of gF).trans rfl
  have ff3 : wF.cell? ⟨w.heap.size, 3, none⟩ = some (.int .i64 0) := (cell_of gF).trans rfl
  have ff4 : wF.cell? ⟨w.heap.size, 4, none⟩ = some (.int .i64 0) := (cell_of gF).trans rfl
  have ff5 : wF.cell? ⟨w.heap.size, 5, none⟩ = some (.string ⟨#[]⟩) := (cell_of gF).trans rfl
  exact bodyPost_ret (v := .tuple #[.agg #[.int .i64 0, .int .i64 0, .bool false, .int .i64 0, .int .i64 0, .string ⟨#[]⟩], .int .i64 6]) (by simp [results, Tryz.results17, go_sem, ff0, ff1, ff2, ff3, ff4, ff5]) rfl ⟨rfl, bF⟩
end Go.Proofs.YtgdaaohlongmlaaGreat
namespace Go.Proofs.YtgdaaohlongmlaaGreat
open Go.RowKit
set_option maxHeartbeats 1000000 in
set_option maxRecDepth 20000 in
theorem zrr_ok (s : ByteArray) (v x k2 : Nat) (V : Bool) (O N : Int) (X : ByteArray) (kA eA EA E : Nat) (w : World) (hs : s.size ≤ 9223372036854775807) (h0 : fx 1 s 0 0 = (v, 1, 0)) (h1 : fx 4 s 1 0 = (x, k2, 0)) (hR : wrap32 (x : Int) = 0) (hv : 1 ≤ (v : Int) ∧ (v : Int) ≤ 6) (hA : ∀ (b G : Nat) (w1 : World), RX w1 b s k2 0 → w1.heap[G]? = some (.cells #[.int .i64 v, .int .i64 0, .bool false, .int .i64 0, .int .i64 0, .string ⟨#[]⟩] 27 (0, 0)) → G ≠ b → Calls Tryz.prog 44 #[.pointer (some ⟨b, 0, none⟩), .pointer (some ⟨G, 0, none⟩)] w1 (AN b G s #[.int .i64 v, .int .i64 0, .bool V, .int .i64 O, .int .i64 N, .string X] kA eA EA w1)) (hok : EA = 0 → eA = 0 ∧ dq s kA 0 = E ∧ kA ≤ s.size) (hbad : EA ≠ 0 → E = EA) :
    Calls Tryz.prog 17 #[.string s] w fun e w' => e = .returned (ra2 #[.int .i64 v, .int .i64 0, .bool V, .int .i64 O, .int .i64 N, .string X] #[.int .i64 0, .int .i64 0, .bool false, .int .i64 0, .int .i64 0, .string ⟨#[]⟩] E) ∧ Below w.heap.size w w' := by
  have hk1 := fxle (Nat.zero_le _) h0
  have hv0 : ((v : Int) == 0) = false := by rw [beq_eq_false_iff_ne]; omega
  have hv1 : ((v : Int) != 0) = true := by rw [bne_iff_ne]; omega
  have hwv : IntKind.i64.wrap (v : Int) = v := wrapY (by omega) (by have := fxlt h0; omega)
  have g1 : (w.alloc (.cells #[.int .i64 0, .int .i64 0, .bool false, .int .i64 0, .int .i64 0, .string ⟨#[]⟩] 27)).heap[w.heap.size]? = some (.cells #[.int .i64 0, .int .i64 0, .bool false, .int .i64 0, .int .i64 0, .string ⟨#[]⟩] 27 (0, 0)) := heap_new _ _
  have b1 : Below w.heap.size w (w.alloc (.cells #[.int .i64 0, .int .i64 0, .bool false, .int .i64 0, .int .i64 0, .string ⟨#[]⟩] 27)) := (Below.refl _ _).alloc (Nat.le_refl _) _
  go_enter Tryz.func17, Tryz.ntmps17
  go_wp2_with fail
  generalize w.alloc (.cells #[.int .i64 0, .int .i64 0, .bool false, .int .i64 0, .int .i64 0, .string ⟨#[]⟩] 27) = w1 at *
  refine (xnew_any s w1).mono ?_
  rintro e w2 ⟨rfl, rfl⟩
  have h2' : RX (w1.alloc (.cells #[.string s, .int .i64 0, .int .i64 0] 113)) w1.heap.size s 0 0 := heap_new _ _
  have g2 : (w1.alloc (.cells #[.string s, .int .i64 0, .int .i64 0] 113)).heap[w.heap.size]? = some (.cells #[.int .i64 0, .int .i64 0, .bool false, .int .i64 0, .int .i64 0, .string ⟨#[]⟩] 27 (0, 0)) := heap_alloc_at g1
  have b2 : Below w.heap.size w (w1.alloc (.cells #[.string s, .int .i64 0, .int .i64 0] 113)) := b1.alloc b1.size _
  have hbb : w.heap.size < w1.heap.size := lt_of_heap g1
  have G2 := hid g2
  have B2 := hid b2
  clear g1 b1 g2 b2
  go_wp2_with fail
  generalize w1.alloc (.cells #[.string s, .int .i64 0, .int .i64 0] 113) = w2 at *
  generalize w1.heap.size = b at *
  have CU := xu8_any b s 0 0 w2 h2' (Nat.zero_le _) hs
  rw [h0] at CU
  dsimp only at CU
  refine CU.mono ?_
  rintro e w3 ⟨rfl, h3', hc3⟩
  have G3 : Hid (w3.heap[w.heap.size]? = some (.cells #[.int .i64 0, .int .i64 0, .bool false, .int .i64 0, .int .i64 0, .string ⟨#[]⟩] 27 (0, 0))) := hid ((hc3.block _ (lt_of_heap G2.out) (by omega)).trans G2.out)
  have B3 : Hid (Below w.heap.size w w3) := hid (B2.out.trans (hc3.below B2.out.size (fun i hi h => by omega)))
  clear hc3 G2 B2 h2' CU
  have h4 : RX (w3.alloc (.cells #[.int .i64 v, .int .i64 0, .bool false, .int .i64 0, .int .i64 0, .string ⟨#[]⟩] 27)) b s 1 0 := h3'.alloc _
  have r4 : (w3.alloc (.cells #[.int .i64 v, .int .i64 0, .bool false, .int .i64 0, .int .i64 0, .string ⟨#[]⟩] 27)).heap[w3.heap.size]? = some (.cells #[.int .i64 v, .int .i64 0, .bool false, .int .i64 0, .int .i64 0, .string ⟨#[]⟩] 27 (0, 0)) := heap_new _ _
  have G4 : Hid ((w3.alloc (.cells #[.int .i64 v, .int .i64 0, .bool false, .int .i64 0, .int .i64 0, .string ⟨#[]⟩] 27)).heap[w.heap.size]? = some (.cells #[.int .i64 0, .int .i64 0, .bool false, .int .i64 0, .int .i64 0, .string ⟨#[]⟩] 27 (0, 0))) := hid (heap_alloc_at G3.out)
  have B4 : Hid (Below w.heap.size w (w3.alloc (.cells #[.int .i64 v, .int .i64 0, .bool false, .int .i64 0, .int .i64 0, .string ⟨#[]⟩] 27))) := hid (B3.out.alloc B3.out.size _)
  have hGG : w3.heap.size ≠ b ∧ w.heap.size < w3.heap.size := ⟨by have := h3'.lt; omega, lt_of_heap G3.out⟩
  clear G3 B3 h3'
  go_wp2_with fail
  generalize (w3.alloc (.cells #[.int .i64 v, .int .i64 0, .bool false, .int .i64 0, .int .i64 0, .string ⟨#[]⟩] 27)) = w4 at *
  generalize w3.heap.size = G at *
  refine (xknown_yes _ _ (by omega)).mono ?_
  rintro e w4 ⟨rfl, rfl⟩
  go_wp2_with fail
  have R4 := hid r4
  have CI := xi32_any b s 1 0 w4 h4 hk1 hs
  rw [h1] at CI
  dsimp only at CI
  rw [hR] at CI
  refine CI.mono ?_
  rintro e w5 ⟨rfl, h5, hc5⟩
  have G5 : Hid (w5.heap[w.heap.size]? = some (.cells #[.int .i64 0, .int .i64 0, .bool false, .int .i64 0, .int .i64 0, .string ⟨#[]⟩] 27 (0, 0))) := hid ((hc5.block _ (lt_of_heap G4.out) (by omega)).trans G4.out)
  have R5 : Hid (w5.heap[G]? = some (.cells #[.int .i64 v, .int .i64 0, .bool false, .int .i64 0, .int .i64 0, .string ⟨#[]⟩] 27 (0, 0))) := hid ((hc5.block _ (lt_of_heap R4.out) hGG.1).trans R4.out)
  have B5 : Hid (Below w.heap.size w w5) := hid (B4.out.trans (hc5.below B4.out.size (fun i hi h => by omega)))
  have H5 := hid h5
  clear hc5 G4 B4 R4 r4 h4 h5 CI
  have d5 : w5.cell? ⟨G, 1, none⟩ = some (.int .i64 0) := (cell_of R5.out).trans rfl
  have z5 := froz_of (i := 1) R5.out
  have G6 : Hid ((w5.setCell ⟨G, 1, none⟩ (.int .i64 0)).heap[w.heap.size]? = some (.cells #[.int .i64 0, .int .i64 0, .bool false, .int .i64 0, .int .i64 0, .string ⟨#[]⟩] 27 (0, 0))) := hid (heap_set_far G5.out (by show w.heap.size ≠ G; omega))
  have r6 : (w5.setCell ⟨G, 1, none⟩ (.int .i64 0)).heap[G]? = some (.cells #[.int .i64 v, .int .i64 0, .bool false, .int .i64 0, .int .i64 0, .string ⟨#[]⟩] 27 (0, 0)) := heap_set R5.out
  have B6 : Hid (Below w.heap.size w (w5.setCell ⟨G, 1, none⟩ (.int .i64 0))) := hid (B5.out.setCell (by show w.heap.size ≤ G; omega) _)
  have H6 : Hid (RX (w5.setCell ⟨G, 1, none⟩ (.int .i64 0)) b s k2 0) := hid (rx_set H5.out hGG.1)
  have R6 := hid r6
  clear G5 R5 B5 H5 r6
  go_upto_region 14 with fail
  generalize (w5.setCell ⟨G, 1, none⟩ (.int .i64 0)) = w6 at *
  clear d5 z5
  have k60 : w6.cell? ⟨G, 0, none⟩ = some (.int .i64 v) := (cell_of R6.out).trans rfl
  have k61 : w6.cell? ⟨G, 1, none⟩ = some (.int .i64 0) := (cell_of R6.out).trans rfl
  go_wp2_with fail
  refine (hA b G w6 H6.out R6.out hGG.1).mono ?_
  rintro e w7 ⟨rfl, h7, r7, hc7⟩
  have G7 : Hid (w7.heap[w.heap.size]? = some (.cells #[.int .i64 0, .int .i64 0, .bool false, .int .i64 0, .int .i64 0, .string ⟨#[]⟩] 27 (0, 0))) := hid ((hc7.block _ (lt_of_heap G6.out) (by omega)).trans G6.out)
  have B7 : Hid (Below w.heap.size w w7) := hid (B6.out.trans (hc7.below B6.out.size (fun i hi h => by omega)))
  have R7 := hid r7
  have H7 := hid h7
  clear r7 h7 hc7 G6 B6 R6 H6 k60 k61
  by_cases hEA : EA = 0
  · subst hEA
    obtain ⟨h8, hE', hkf⟩ := hok rfl
    subst h8
    go_wp2_with fail
    have CD := xdone_any b s kA 0 w7 H7.out hkf hs
    rw [show dqx s kA 0 = E from hE'] at CD
    refine CD.mono ?_
    rintro e w19 ⟨rfl, n1, rfl⟩
    have G19 : Hid ((w7.drewN n1).heap[w.heap.size]? = some (.cells #[.int .i64 0, .int .i64 0, .bool false, .int .i64 0, .int .i64 0, .string ⟨#[]⟩] 27 (0, 0))) := hid G7.out
    have R19 : Hid ((w7.drewN n1).heap[G]? = some (.cells #[.int .i64 v, .int .i64 0, .bool V, .int .i64 O, .int .i64 N, .string X] 27 (0, 0))) := hid R7.out
    have B19 : Hid (Below w.heap.size w (w7.drewN n1)) := hid (drewN_bel B7.out n1)
    clear G7 R7 B7 H7 CD
    generalize w7.drewN n1 = w19 at *
    have xx0 : w19.cell? ⟨w.heap.size, 0, none⟩ = some (.int .i64 0) := (cell_of G19.out).trans rfl
    have xx1 : w19.cell? ⟨w.heap.size, 1, none⟩ = some (.int .i64 0) := (cell_of G19.out).trans rfl
    have xx2 : w19.cell? ⟨w.heap.size, 2, none⟩ = some (.bool false) := (cell_of G19.out).trans rfl
    have xx3 : w19.cell? ⟨w.heap.size, 3, none⟩ = some (.int .i64 0) := (cell_of G19.out).trans rfl
    have xx4 : w19.cell? ⟨w.heap.size, 4, none⟩ = some (.int .i64 0) := (cell_of G19.out).trans rfl
    have xx5 : w19.cell? ⟨w.heap.size, 5, none⟩ = some (.string ⟨#[]⟩) := (cell_of G19.out).trans rfl
    have yy0 : w19.cell? ⟨G, 0, none⟩ = some (.int .i64 v) := (cell_of R19.out).trans rfl
    have yy1 : w19.cell? ⟨G, 1, none⟩ = some (.int .i64 0) := (cell_of R19.out).trans rfl
    have yy2 : w19.cell? ⟨G, 2, none⟩ = some (.bool V) := (cell_of R19.out).trans rfl
    have yy3 : w19.cell? ⟨G, 3, none⟩ = some (.int .i64 O) := (cell_of R19.out).trans rfl
    have yy4 : w19.cell? ⟨G, 4, none⟩ = some (.int .i64 N) := (cell_of R19.out).trans rfl
    have yy5 : w19.cell? ⟨G, 5, none⟩ = some (.string X) := (cell_of R19.out).trans rfl
    by_cases hE0 : E = 0
    · subst hE0
      have gF : ((((((w19.setCell ⟨w.heap.size, 0, none⟩ (.int .i64 v)).setCell ⟨w.heap.size, 1, none⟩ (.int .i64 0)).setCell ⟨w.heap.size, 2, none⟩ (.bool V)).setCell ⟨w.heap.size, 3, none⟩ (.int .i64 O)).setCell ⟨w.heap.size, 4, none⟩ (.int .i64 N)).setCell ⟨w.heap.size, 5, none⟩ (.string X)).heap[w.heap.size]? = some (.cells #[.int .i64 v, .int .i64 0, .bool V, .int .i64 O, .int .i64 N, .string X] 27 (0, 0)) := (heap_set (heap_set (heap_set (heap_set (heap_set (heap_set G19.out))))))
      have bF : Below w.heap.size w ((((((w19.setCell ⟨w.heap.size, 0, none⟩ (.int .i64 v)).setCell ⟨w.heap.size, 1, none⟩ (.int .i64 0)).setCell ⟨w.heap.size, 2, none⟩ (.bool V)).setCell ⟨w.heap.size, 3, none⟩ (.int .i64 O)).setCell ⟨w.heap.size, 4, none⟩ (.int .i64 N)).setCell ⟨w.heap.size, 5, none⟩ (.string X)) := ((((((B19.out.setCell (Nat.le_refl _) _).setCell (Nat.le_refl _) _).setCell (Nat.le_refl _) _).setCell (Nat.le_refl _) _).setCell (Nat.le_refl _) _).setCell (Nat.le_refl _) _)
      have hrF := lt_of_heap G19.out
      have zz0 := froz_of (i := 0) G19.out
      have zz1 := froz_of (i := 1) G19.out
      have zz2 := froz_of (i := 2) G19.out
      have zz3 := froz_of (i := 3) G19.out
      have zz4 := froz_of (i := 4) G19.out
      have zz5 := froz_of (i := 5) G19.out
      go_wp2_with fail
      generalize ((((((w19.setCell ⟨w.heap.size, 0, none⟩ (.int .i64 v)).setCell ⟨w.heap.size, 1, none⟩ (.int .i64 0)).setCell ⟨w.heap.size, 2, none⟩ (.bool V)).setCell ⟨w.heap.size, 3, none⟩ (.int .i64 O)).setCell ⟨w.heap.size, 4, none⟩ (.int .i64 N)).setCell ⟨w.heap.size, 5, none⟩ (.string X)) = wF at *
      have ff0 : wF.cell? ⟨w.heap.size, 0, none⟩ = some (.int .i64 v) := (cell_of gF).trans rfl
      have ff1 : wF.cell? ⟨w.heap.size, 1, none⟩ = some (.int .i64 0) := (cell_of gF).trans rfl
      have ff2 : wF.cell? ⟨w.heap.size, 2, none⟩ = some (.bool V) := (cell_of gF).trans rfl
      have ff3 : wF.cell? ⟨w.heap.size, 3, none⟩ = some (.int .i64 O) := (cell_of gF).trans rfl
      have ff4 : wF.cell? ⟨w.heap.size, 4, none⟩ = some (.int .i64 N) := (cell_of gF).trans rfl
      have ff5 : wF.cell? ⟨w.heap.size, 5, none⟩ = some (.string X) := (cell_of gF).trans rfl
      exact bodyPost_ret (v := .tuple #[.agg #[.int .i64 v, .int .i64 0, .bool V, .int .i64 O, .int .i64 N, .string X], .int .i64 0]) (by simp [results, Tryz.results17, go_sem, ff0, ff1, ff2, ff3, ff4, ff5]) rfl ⟨rfl, bF⟩
    · have hne : ((E : Int) != 0) = true := by rw [bne_iff_ne]; omega
      have hne2 : ((E : Int) == 0) = false := by rw [beq_eq_false_iff_ne]; omega
      have gF : ((((((w19.setCell ⟨w.heap.size, 0, none⟩ (.int .i64 0)).setCell ⟨w.heap.size, 1, none⟩ (.int .i64 0)).setCell ⟨w.heap.size, 2, none⟩ (.bool false)).setCell ⟨w.heap.size, 3, none⟩ (.int .i64 0)).setCell ⟨w.heap.size, 4, none⟩ (.int .i64 0)).setCell ⟨w.heap.size, 5, none⟩ (.string ⟨#[]⟩)).heap[w.heap.size]? = some (.cells #[.int .i64 0, .int .i64 0, .bool false, .int .i64 0, .int .i64 0, .string ⟨#[]⟩] 27 (0, 0)) := (heap_set (heap_set (heap_set (heap_set (heap_set (heap_set G19.out))))))
      have bF : Below w.heap.size w ((((((w19.setCell ⟨w.heap.size, 0, none⟩ (.int .i64 0)).setCell ⟨w.heap.size, 1, none⟩ (.int .i64 0)).setCell ⟨w.heap.size, 2, none⟩ (.bool false)).setCell ⟨w.heap.size, 3, none⟩ (.int .i64 0)).setCell ⟨w.heap.size, 4, none⟩ (.int .i64 0)).setCell ⟨w.heap.size, 5, none⟩ (.string ⟨#[]⟩)) := ((((((B19.out.setCell (Nat.le_refl _) _).setCell (Nat.le_refl _) _).setCell (Nat.le_refl _) _).setCell (Nat.le_refl _) _).setCell (Nat.le_refl _) _).setCell (Nat.le_refl _) _)
      have hrF := lt_of_heap G19.out
      have zz0 := froz_of (i := 0) G19.out
      have zz1 := froz_of (i := 1) G19.out
      have zz2 := froz_of (i := 2) G19.out
      have zz3 := froz_of (i := 3) G19.out
      have zz4 := froz_of (i := 4) G19.out
      have zz5 := froz_of (i := 5) G19.out
      go_wp2_with fail
      generalize ((((((w19.setCell ⟨w.heap.size, 0, none⟩ (.int .i64 0)).setCell ⟨w.heap.size, 1, none⟩ (.int .i64 0)).setCell ⟨w.heap.size, 2, none⟩ (.bool false)).setCell ⟨w.heap.size, 3, none⟩ (.int .i64 0)).setCell ⟨w.heap.size, 4, none⟩ (.int .i64 0)).setCell ⟨w.heap.size, 5, none⟩ (.string ⟨#[]⟩)) = wF at *
      have ff0 : wF.cell? ⟨w.heap.size, 0, none⟩ = some (.int .i64 0) := (cell_of gF).trans rfl
      have ff1 : wF.cell? ⟨w.heap.size, 1, none⟩ = some (.int .i64 0) := (cell_of gF).trans rfl
      have ff2 : wF.cell? ⟨w.heap.size, 2, none⟩ = some (.bool false) := (cell_of gF).trans rfl
      have ff3 : wF.cell? ⟨w.heap.size, 3, none⟩ = some (.int .i64 0) := (cell_of gF).trans rfl
      have ff4 : wF.cell? ⟨w.heap.size, 4, none⟩ = some (.int .i64 0) := (cell_of gF).trans rfl
      have ff5 : wF.cell? ⟨w.heap.size, 5, none⟩ = some (.string ⟨#[]⟩) := (cell_of gF).trans rfl
      exact bodyPost_ret (v := .tuple #[.agg #[.int .i64 0, .int .i64 0, .bool false, .int .i64 0, .int .i64 0, .string ⟨#[]⟩], .int .i64 E]) (by simp [results, Tryz.results17, go_sem, ff0, ff1, ff2, ff3, ff4, ff5]) rfl ⟨by rw [ra2_no hE0], bF⟩
  · have hE0 : E = EA := hbad hEA
    subst hE0
    have hne : ((E : Int) != 0) = true := by rw [bne_iff_ne]; omega
    have hne2 : ((E : Int) == 0) = false := by rw [beq_eq_false_iff_ne]; omega
    have xx0 : w7.cell? ⟨w.heap.size, 0, none⟩ = some (.int .i64 0) := (cell_of G7.out).trans rfl
    have xx1 : w7.cell? ⟨w.heap.size, 1, none⟩ = some (.int .i64 0) := (cell_of G7.out).trans rfl
    have xx2 : w7.cell? ⟨w.heap.size, 2, none⟩ = some (.bool false) := (cell_of G7.out).trans rfl
    have xx3 : w7.cell? ⟨w.heap.size, 3, none⟩ = some (.int .i64 0) := (cell_of G7.out).trans rfl
    have xx4 : w7.cell? ⟨w.heap.size, 4, none⟩ = some (.int .i64 0) := (cell_of G7.out).trans rfl
    have xx5 : w7.cell? ⟨w.heap.size, 5, none⟩ = some (.string ⟨#[]⟩) := (cell_of G7.out).trans rfl
    have gF : ((((((w7.setCell ⟨w.heap.size, 0, none⟩ (.int .i64 0)).setCell ⟨w.heap.size, 1, none⟩ (.int .i64 0)).setCell ⟨w.heap.size, 2, none⟩ (.bool false)).setCell ⟨w.heap.size, 3, none⟩ (.int .i64 0)).setCell ⟨w.heap.size, 4, none⟩ (.int .i64 0)).setCell ⟨w.heap.size, 5, none⟩ (.string ⟨#[]⟩)).heap[w.heap.size]? = some (.cells #[.int .i64 0, .int .i64 0, .bool false, .int .i64 0, .int .i64 0, .string ⟨#[]⟩] 27 (0, 0)) := (heap_set (heap_set (heap_set (heap_set (heap_set (heap_set G7.out))))))
    have bF : Below w.heap.size w ((((((w7.setCell ⟨w.heap.size, 0, none⟩ (.int .i64 0)).setCell ⟨w.heap.size, 1, none⟩ (.int .i64 0)).setCell ⟨w.heap.size, 2, none⟩ (.bool false)).setCell ⟨w.heap.size, 3, none⟩ (.int .i64 0)).setCell ⟨w.heap.size, 4, none⟩ (.int .i64 0)).setCell ⟨w.heap.size, 5, none⟩ (.string ⟨#[]⟩)) := ((((((B7.out.setCell (Nat.le_refl _) _).setCell (Nat.le_refl _) _).setCell (Nat.le_refl _) _).setCell (Nat.le_refl _) _).setCell (Nat.le_refl _) _).setCell (Nat.le_refl _) _)
    have hrF := lt_of_heap G7.out
    have zz0 := froz_of (i := 0) G7.out
    have zz1 := froz_of (i := 1) G7.out
    have zz2 := froz_of (i := 2) G7.out
    have zz3 := froz_of (i := 3) G7.out
    have zz4 := froz_of (i := 4) G7.out
    have zz5 := froz_of (i := 5) G7.out
    go_wp2_with fail
    generalize ((((((w7.setCell ⟨w.heap.size, 0, none⟩ (.int .i64 0)).setCell ⟨w.heap.size, 1, none⟩ (.int .i64 0)).setCell ⟨w.heap.size, 2, none⟩ (.bool false)).setCell ⟨w.heap.size, 3, none⟩ (.int .i64 0)).setCell ⟨w.heap.size, 4, none⟩ (.int .i64 0)).setCell ⟨w.heap.size, 5, none⟩ (.string ⟨#[]⟩)) = wF at *
    have ff0 : wF.cell? ⟨w.heap.size, 0, none⟩ = some (.int .i64 0) := (cell_of gF).trans rfl
    have ff1 : wF.cell? ⟨w.heap.size, 1, none⟩ = some (.int .i64 0) := (cell_of gF).trans rfl
    have ff2 : wF.cell? ⟨w.heap.size, 2, none⟩ = some (.bool false) := (cell_of gF).trans rfl
    have ff3 : wF.cell? ⟨w.heap.size, 3, none⟩ = some (.int .i64 0) := (cell_of gF).trans rfl
    have ff4 : wF.cell? ⟨w.heap.size, 4, none⟩ = some (.int .i64 0) := (cell_of gF).trans rfl
    have ff5 : wF.cell? ⟨w.heap.size, 5, none⟩ = some (.string ⟨#[]⟩) := (cell_of gF).trans rfl
    exact bodyPost_ret (v := .tuple #[.agg #[.int .i64 0, .int .i64 0, .bool false, .int .i64 0, .int .i64 0, .string ⟨#[]⟩], .int .i64 E]) (by simp [results, Tryz.results17, go_sem, ff0, ff1, ff2, ff3, ff4, ff5]) rfl ⟨by rw [ra2_no hEA], bF⟩
end Go.Proofs.YtgdaaohlongmlaaGreat
namespace Go.Proofs.YtgdaaohlongmlaaGreat
open Go.RowKit
theorem eqb1 (x : Nat) : ((x : Int) == 1) = decide (x = 1) := by
  by_cases hx : x = 1
  · subst hx; rfl
  · rw [decide_eq_false hx, beq_eq_false_iff_ne]; omega
theorem zrrp_nolo (s : ByteArray) (v x k2 e2 : Nat) (R : Int) (E : Nat) (w : World) (hs : s.size ≤ 9223372036854775807) (h0 : fx 1 s 0 0 = (v, 1, 0)) (_h1 : fx 4 s 1 0 = (x, k2, e2)) (_hR : wrap32 (x : Int) = R) (hv : ¬ (1 ≤ (v : Int) ∧ (v : Int) ≤ 6)) (hvz : v ≠ 0) (_hr : R < 0) (hE : fl 6 (dq s k2 e2) = E) :
    Calls Tryz.prog 17 #[.string s] w fun e w' => e = .returned (ra2 #[.int .i64 v, .int .i64 R, .bool false, .int .i64 0, .int .i64 0, .string ⟨#[]⟩] #[.int .i64 0, .int .i64 0, .bool false, .int .i64 0, .int .i64 0, .string ⟨#[]⟩] E) ∧ Below w.heap.size w w' := by
  have hE2 : E = 6 := by rw [← hE]; rfl
  subst hE2
  exact (zrr_kind s v w hs h0 hv hvz).mono fun e w' h => ⟨by rw [h.1, ra2_no (by decide)]; rfl, h.2⟩
theorem zrrp_no (s : ByteArray) (v x k2 e2 : Nat) (R : Int) (E : Nat) (w : World) (hs : s.size ≤ 9223372036854775807) (h0 : fx 1 s 0 0 = (v, 1, 0)) (_h1 : fx 4 s 1 0 = (x, k2, e2)) (_hR : wrap32 (x : Int) = R) (hv : ¬ (1 ≤ (v : Int) ∧ (v : Int) ≤ 6)) (hvz : v ≠ 0) (_hr : 0 ≤ R) (hE : fl 6 (dq s k2 e2) = E) :
    Calls Tryz.prog 17 #[.string s] w fun e w' => e = .returned (ra2 #[.int .i64 v, .int .i64 R, .bool false, .int .i64 0, .int .i64 0, .string ⟨#[]⟩] #[.int .i64 0, .int .i64 0, .bool false, .int .i64 0, .int .i64 0, .string ⟨#[]⟩] E) ∧ Below w.heap.size w w' := by
  have hE2 : E = 6 := by rw [← hE]; rfl
  subst hE2
  exact (zrr_kind s v w hs h0 hv hvz).mono fun e w' h => ⟨by rw [h.1, ra2_no (by decide)]; rfl, h.2⟩
theorem zrrp_zneg (s : ByteArray) (x k2 : Nat) (R : Int) (E : Nat) (w : World) (hs : s.size ≤ 9223372036854775807) (h0 : fx 1 s 0 0 = (0, 1, 0)) (h1 : fx 4 s 1 0 = (x, k2, 0)) (hR : wrap32 (x : Int) = R) (hr : R < 0) (hE : fl 1 (dq s k2 0) = E) :
    Calls Tryz.prog 17 #[.string s] w fun e w' => e = .returned (ra2 #[.int .i64 0, .int .i64 R, .bool false, .int .i64 0, .int .i64 0, .string ⟨#[]⟩] #[.int .i64 0, .int .i64 0, .bool false, .int .i64 0, .int .i64 0, .string ⟨#[]⟩] E) ∧ Below w.heap.size w w' := by
  have hE2 : E = 1 := by rw [← hE]; rfl
  subst hE2
  exact (zrr_zneg s x k2 R w hs h0 h1 hR hr).mono fun e w' h => ⟨by rw [h.1, ra2_no (by decide)]; rfl, h.2⟩
theorem zrrp_neg (s : ByteArray) (v x k2 : Nat) (R : Int) (E : Nat) (w : World) (hs : s.size ≤ 9223372036854775807) (h0 : fx 1 s 0 0 = (v, 1, 0)) (h1 : fx 4 s 1 0 = (x, k2, 0)) (hR : wrap32 (x : Int) = R) (hv : 1 ≤ (v : Int) ∧ (v : Int) ≤ 6) (hr : R < 0) (hE : fl 1 (dq s k2 0) = E) :
    Calls Tryz.prog 17 #[.string s] w fun e w' => e = .returned (ra2 #[.int .i64 v, .int .i64 R, .bool false, .int .i64 0, .int .i64 0, .string ⟨#[]⟩] #[.int .i64 0, .int .i64 0, .bool false, .int .i64 0, .int .i64 0, .string ⟨#[]⟩] E) ∧ Below w.heap.size w w' := by
  have hE2 : E = 1 := by rw [← hE]; rfl
  subst hE2
  exact (zrr_neg s v x k2 R w hs h0 h1 hR hv hr).mono fun e w' h => ⟨by rw [h.1, ra2_no (by decide)]; rfl, h.2⟩
theorem zrrp_zpos (s : ByteArray) (x k2 : Nat) (R : Int) (E : Nat) (w : World) (hs : s.size ≤ 9223372036854775807) (h0 : fx 1 s 0 0 = (0, 1, 0)) (h1 : fx 4 s 1 0 = (x, k2, 0)) (hR : wrap32 (x : Int) = R) (hr : 0 < R) (hE : fl 0 (dq s k2 0) = E) :
    Calls Tryz.prog 17 #[.string s] w fun e w' => e = .returned (ra2 #[.int .i64 0, .int .i64 R, .bool false, .int .i64 0, .int .i64 0, .string ⟨#[]⟩] #[.int .i64 0, .int .i64 0, .bool false, .int .i64 0, .int .i64 0, .string ⟨#[]⟩] E) ∧ Below w.heap.size w w' := by
  exact zrr_zpos s x k2 R E w hs h0 h1 hR hr hE
theorem zrrp_pos (s : ByteArray) (v x k2 : Nat) (R : Int) (E : Nat) (w : World) (hs : s.size ≤ 9223372036854775807) (h0 : fx 1 s 0 0 = (v, 1, 0)) (h1 : fx 4 s 1 0 = (x, k2, 0)) (hR : wrap32 (x : Int) = R) (hv : 1 ≤ (v : Int) ∧ (v : Int) ≤ 6) (hr : 0 < R) (hE : fl 0 (dq s k2 0) = E) :
    Calls Tryz.prog 17 #[.string s] w fun e w' => e = .returned (ra2 #[.int .i64 v, .int .i64 R, .bool false, .int .i64 0, .int .i64 0, .string ⟨#[]⟩] #[.int .i64 0, .int .i64 0, .bool false, .int .i64 0, .int .i64 0, .string ⟨#[]⟩] E) ∧ Below w.heap.size w w' := by
  exact zrr_pos s v x k2 R E w hs h0 h1 hR hv hr hE
theorem zrrp_zz (s : ByteArray) (x k2 : Nat) (E : Nat) (w : World) (hs : s.size ≤ 9223372036854775807) (h0 : fx 1 s 0 0 = (0, 1, 0)) (h1 : fx 4 s 1 0 = (x, k2, 0)) (hR : wrap32 (x : Int) = 0) (hE : fl 6 (dq s k2 0) = E) :
    Calls Tryz.prog 17 #[.string s] w fun e w' => e = .returned (ra2 #[.int .i64 0, .int .i64 0, .bool false, .int .i64 0, .int .i64 0, .string ⟨#[]⟩] #[.int .i64 0, .int .i64 0, .bool false, .int .i64 0, .int .i64 0, .string ⟨#[]⟩] E) ∧ Below w.heap.size w w' := by
  have hE2 : E = 6 := by rw [← hE]; rfl
  subst hE2
  exact (zrr_zz s x k2 w hs h0 h1 hR).mono fun e w' h => ⟨by rw [h.1, ra2_no (by decide)]; rfl, h.2⟩
theorem zrrp_zcut (s : ByteArray) (x k2 e2 : Nat) (E : Nat) (w : World) (hs : s.size ≤ 9223372036854775807) (h0 : fx 1 s 0 0 = (0, 1, 0)) (h1 : fx 4 s 1 0 = (x, k2, e2)) (hR : wrap32 (x : Int) = 0) (he : e2 ≠ 0) (hE : fl 0 (dq s k2 e2) = E) :
    Calls Tryz.prog 17 #[.string s] w fun e w' => e = .returned (ra2 #[.int .i64 0, .int .i64 0, .bool false, .int .i64 0, .int .i64 0, .string ⟨#[]⟩] #[.int .i64 0, .int .i64 0, .bool false, .int .i64 0, .int .i64 0, .string ⟨#[]⟩] E) ∧ Below w.heap.size w w' := by
  have hE2 : E = e2 := by rw [← hE, fl_0, dq_bad he]
  subst hE2
  exact (zrr_zcut s x k2 E w hs h0 h1 hR he).mono fun e w' h => ⟨by rw [h.1, ra2_no he], h.2⟩
theorem zrrp_cut (s : ByteArray) (v x k2 e2 : Nat) (E : Nat) (w : World) (hs : s.size ≤ 9223372036854775807) (h0 : fx 1 s 0 0 = (v, 1, 0)) (h1 : fx 4 s 1 0 = (x, k2, e2)) (hR : wrap32 (x : Int) = 0) (hv : 1 ≤ (v : Int) ∧ (v : Int) ≤ 6) (he : e2 ≠ 0) (hE : fl 0 (dq s k2 e2) = E) :
    Calls Tryz.prog 17 #[.string s] w fun e w' => e = .returned (ra2 #[.int .i64 v, .int .i64 0, .bool false, .int .i64 0, .int .i64 0, .string ⟨#[]⟩] #[.int .i64 0, .int .i64 0, .bool false, .int .i64 0, .int .i64 0, .string ⟨#[]⟩] E) ∧ Below w.heap.size w w' := by
  have hE2 : E = e2 := by rw [← hE, fl_0, dq_bad he]
  subst hE2
  exact (zrr_cut s v x k2 E w hs h0 h1 hR hv he).mono fun e w' h => ⟨by rw [h.1, ra2_no he], h.2⟩
theorem zrrp_empty (s : ByteArray) (x k2 : Nat) (E : Nat) (w : World) (hs : s.size ≤ 9223372036854775807) (h0 : fx 1 s 0 0 = (0, 0, 20)) (_h1 : fx 4 s 0 20 = (x, k2, 20)) (_hR : wrap32 (x : Int) = 0) (hE : fl 0 (dq s k2 20) = E) :
    Calls Tryz.prog 17 #[.string s] w fun e w' => e = .returned (ra2 #[.int .i64 0, .int .i64 0, .bool false, .int .i64 0, .int .i64 0, .string ⟨#[]⟩] #[.int .i64 0, .int .i64 0, .bool false, .int .i64 0, .int .i64 0, .string ⟨#[]⟩] E) ∧ Below w.heap.size w w' := by
  have hE2 : E = 20 := by rw [← hE, fl_0]; exact dq_bad (by decide)
  subst hE2
  exact (zrr_empty s w hs h0).mono fun e w' h => ⟨by rw [h.1, ra2_no (by decide)]; rfl, h.2⟩
theorem zrrp_1 (s : ByteArray) (x k2 x3 k3 e3 F2 x4 k4 e4 : Nat) (E : Nat) (w : World) (hs : s.size ≤ 9223372036854775807) (h0 : fx 1 s 0 0 = (1, 1, 0)) (h1 : fx 4 s 1 0 = (x, k2, 0)) (hR : wrap32 (x : Int) = 0) (h2 : fx 1 s k2 0 = (x3, k3, e3)) (hF2 : rf (decide (1 < x3)) 91 0 e3 = F2) (h3 : fx 8 s k3 e3 = (x4, k4, e4)) (hE : fl F2 (dq s k4 e4) = E) :
    Calls Tryz.prog 17 #[.string s] w fun e w' => e = .returned (ra2 #[.int .i64 1, .int .i64 0, .bool (decide (x3 = 1)), .int .i64 (wrap64 x4), .int .i64 0, .string ⟨#[]⟩] #[.int .i64 0, .int .i64 0, .bool false, .int .i64 0, .int .i64 0, .string ⟨#[]⟩] E) ∧ Below w.heap.size w w' := by
  have hk1 := fxle (Nat.zero_le _) h0
  have hk2 := fxle hk1 h1
  by_cases he : e3 = 0
  · subst he
    by_cases h1x : 1 < x3
    · have hE2 : E = 91 := by rw [← hE, ← hF2, decide_eq_true h1x]; rfl
      subst hE2
      exact (zrr_ok s 1 x k2 false 0 0 ⟨#[]⟩ k3 0 91 91 w hs h0 h1 hR (by omega) (fun b G w1 h g hG => zan_1bad b G s k2 x3 k3 w1 hs hk2 h g hG h2 h1x) (fun h => absurd h (by decide)) (fun _ => rfl)).mono fun e w' h => ⟨by rw [h.1, ra2_no (by decide), ra2_no (by decide)], h.2⟩
    · have hE2 : dq s k4 e4 = E := by rw [← hE, ← hF2, decide_eq_false h1x, rf_no, fl_0]
      have hk4 := fxle (fxle hk2 h2) h3
      exact zrr_ok s 1 x k2 (decide (x3 = 1)) (wrap64 x4) 0 ⟨#[]⟩ k4 e4 e4 E w hs h0 h1 hR (by omega) (fun b G w1 h g hG => zan_1 b G s k2 x3 k3 x4 k4 e4 w1 hs hk2 h g hG h2 h3 h1x _ (eqb1 x3)) (fun h => ⟨h, by subst h; exact hE2, hk4⟩) (fun h => by rw [← hE2, dq_bad h])
  · obtain ⟨rfl, rfl, rfl⟩ := fx_bad h2 he
    obtain ⟨rfl, rfl, rfl⟩ := fx_err he h3
    have hE2 : E = 20 := by rw [← hE, ← hF2, rf_late he]; exact dq_bad he
    subst hE2
    exact (zrr_ok s 1 x _ false 0 0 ⟨#[]⟩ _ 20 20 20 w hs h0 h1 hR (by omega) (fun b G w1 h g hG => zan_1cut b G s _ w1 hs hk2 h g hG h2) (fun h => absurd h (by decide)) (fun _ => rfl)).mono fun e w' h => ⟨by rw [h.1, ra2_no (by decide), ra2_no (by decide)], h.2⟩
theorem zrrp_2 (s : ByteArray) (x k2 x3 k3 x4 k4 : Nat) (E : Nat) (w : World) (hs : s.size ≤ 9223372036854775807) (h0 : fx 1 s 0 0 = (2, 1, 0)) (h1 : fx 4 s 1 0 = (x, k2, 0)) (hR : wrap32 (x : Int) = 0) (h2 : fx 8 s k2 0 = (x3, k3, 0)) (h3 : fx 4 s k3 0 = (x4, k4, 0)) (hM : x4 ≤ 1073741824) (hL : k4 + x4 ≤ s.size) (hE : fl 0 (dq s (k4 + x4) 0) = E) :
    Calls Tryz.prog 17 #[.string s] w fun e w' => e = .returned (ra2 #[.int .i64 2, .int .i64 0, .bool false, .int .i64 0, .int .i64 (wrap64 x3), .string (s.extract k4 (k4 + x4))] #[.int .i64 0, .int .i64 0, .bool false, .int .i64 0, .int .i64 0, .string ⟨#[]⟩] E) ∧ Below w.heap.size w w' := by
  have hk1 := fxle (Nat.zero_le _) h0
  have hk2 := fxle hk1 h1
  exact zrr_ok s 2 x k2 false 0 (wrap64 x3) (s.extract k4 (k4 + x4)) (k4 + x4) 0 0 E w hs h0 h1 hR (by omega) (fun b G w1 h g hG => zan_2 b G s k2 x3 k3 x4 k4 w1 hs hk2 h g hG h2 h3 hM hL) (fun _ => ⟨rfl, by rw [← hE, fl_0], hL⟩) (fun h => absurd rfl h)
theorem zrrp_2bad (s : ByteArray) (x k2 x3 k3 e3 x4 k4 e4 F2 : Nat) (E : Nat) (w : World) (hs : s.size ≤ 9223372036854775807) (h0 : fx 1 s 0 0 = (2, 1, 0)) (h1 : fx 4 s 1 0 = (x, k2, 0)) (hR : wrap32 (x : Int) = 0) (h2 : fx 8 s k2 0 = (x3, k3, e3)) (h3 : fx 4 s k3 e3 = (x4, k4, e4)) (hb : e4 ≠ 0 ∨ dcut 1073741824 s x4 k4 = true) (hF : rf (dcut 1073741824 s x4 k4) 21 0 e4 = F2) (hE : fl F2 (dq s k4 e4) = E) :
    Calls Tryz.prog 17 #[.string s] w fun e w' => e = .returned (ra2 #[.int .i64 2, .int .i64 0, .bool false, .int .i64 0, .int .i64 (wrap64 x3), .string ⟨#[]⟩] #[.int .i64 0, .int .i64 0, .bool false, .int .i64 0, .int .i64 0, .string ⟨#[]⟩] E) ∧ Below w.heap.size w w' := by
  have hk1 := fxle (Nat.zero_le _) h0
  have hk2 := fxle hk1 h1
  by_cases he3 : e3 = 0
  · subst he3
    by_cases he : e4 = 0
    · subst he
      have hc := hb.resolve_left (fun h => h rfl)
      have hE2 : E = 21 := by rw [← hE, ← hF, rf_cut hc]
      subst hE2
      exact (zrr_ok s 2 x k2 false 0 (wrap64 x3) ⟨#[]⟩ k4 0 21 21 w hs h0 h1 hR (by omega) (fun b G w1 h g hG => zan_2long b G s k2 x3 k3 x4 k4 w1 hs hk2 h g hG h2 h3 hc) (fun h => absurd h (by decide)) (fun _ => rfl)).mono fun e w' h => ⟨by rw [h.1, ra2_no (by decide), ra2_no (by decide)], h.2⟩
    · have hE2 : E = e4 := by rw [← hE, ← hF, rf_late he, dq_bad he]
      subst hE2
      exact (zrr_ok s 2 x k2 false 0 (wrap64 x3) ⟨#[]⟩ k4 E E E w hs h0 h1 hR (by omega) (fun b G w1 h g hG => zan_2short b G s k2 x3 k3 x4 k4 E w1 hs hk2 h g hG h2 h3 he) (fun h => absurd h he) (fun _ => rfl)).mono fun e w' h => ⟨by rw [h.1, ra2_no he, ra2_no he], h.2⟩
  · obtain ⟨rfl, rfl, rfl⟩ := fx_err he3 h3
    have he := he3
    have hE2 : E = e4 := by rw [← hE, ← hF, rf_late he, dq_bad he]
    subst hE2
    exact (zrr_ok s 2 x k2 false 0 (wrap64 x3) ⟨#[]⟩ _ E E E w hs h0 h1 hR (by omega) (fun b G w1 h g hG => zan_2cut b G s k2 x3 _ E w1 hs hk2 h g hG h2 he) (fun h => absurd h he) (fun _ => rfl)).mono fun e w' h => ⟨by rw [h.1, ra2_no he, ra2_no he], h.2⟩
theorem zrrp_3 (s : ByteArray) (x k2 x3 k3 e3 : Nat) (E : Nat) (w : World) (hs : s.size ≤ 9223372036854775807) (h0 : fx 1 s 0 0 = (3, 1, 0)) (h1 : fx 4 s 1 0 = (x, k2, 0)) (hR : wrap32 (x : Int) = 0) (h2 : fx 8 s k2 0 = (x3, k3, e3)) (hE : fl 0 (dq s k3 e3) = E) :
    Calls Tryz.prog 17 #[.string s] w fun e w' => e = .returned (ra2 #[.int .i64 3, .int .i64 0, .bool false, .int .i64 (wrap64 x3), .int .i64 0, .string ⟨#[]⟩] #[.int .i64 0, .int .i64 0, .bool false, .int .i64 0, .int .i64 0, .string ⟨#[]⟩] E) ∧ Below w.heap.size w w' := by
  have hk1 := fxle (Nat.zero_le _) h0
  have hk2 := fxle hk1 h1
  rw [fl_0] at hE
  exact zrr_ok s 3 x k2 false (wrap64 x3) 0 ⟨#[]⟩ k3 e3 e3 E w hs h0 h1 hR (by omega) (fun b G w1 h g hG => zan_3 b G s k2 x3 k3 e3 w1 hs hk2 h g hG h2) (fun h => ⟨h, by subst h; exact hE, fxle hk2 h2⟩) (fun h => by rw [← hE, dq_bad h])
theorem zrrp_4 (s : ByteArray) (x k2 x3 k3 e3 : Nat) (E : Nat) (w : World) (hs : s.size ≤ 9223372036854775807) (h0 : fx 1 s 0 0 = (4, 1, 0)) (h1 : fx 4 s 1 0 = (x, k2, 0)) (hR : wrap32 (x : Int) = 0) (h2 : fx 8 s k2 0 = (x3, k3, e3)) (hE : fl 0 (dq s k3 e3) = E) :
    Calls Tryz.prog 17 #[.string s] w fun e w' => e = .returned (ra2 #[.int .i64 4, .int .i64 0, .bool false, .int .i64 0, .int .i64 (wrap64 x3), .string ⟨#[]⟩] #[.int .i64 0, .int .i64 0, .bool false, .int .i64 0, .int .i64 0, .string ⟨#[]⟩] E) ∧ Below w.heap.size w w' := by
  have hk1 := fxle (Nat.zero_le _) h0
  have hk2 := fxle hk1 h1
  rw [fl_0] at hE
  exact zrr_ok s 4 x k2 false 0 (wrap64 x3) ⟨#[]⟩ k3 e3 e3 E w hs h0 h1 hR (by omega) (fun b G w1 h g hG => zan_4 b G s k2 x3 k3 e3 w1 hs hk2 h g hG h2) (fun h => ⟨h, by subst h; exact hE, fxle hk2 h2⟩) (fun h => by rw [← hE, dq_bad h])
theorem zrrp_5 (s : ByteArray) (x k2 x3 k3 e3 : Nat) (E : Nat) (w : World) (hs : s.size ≤ 9223372036854775807) (h0 : fx 1 s 0 0 = (5, 1, 0)) (h1 : fx 4 s 1 0 = (x, k2, 0)) (hR : wrap32 (x : Int) = 0) (h2 : fx 8 s k2 0 = (x3, k3, e3)) (hE : fl 0 (dq s k3 e3) = E) :
    Calls Tryz.prog 17 #[.string s] w fun e w' => e = .returned (ra2 #[.int .i64 5, .int .i64 0, .bool false, .int .i64 (wrap64 x3), .int .i64 0, .string ⟨#[]⟩] #[.int .i64 0, .int .i64 0, .bool false, .int .i64 0, .int .i64 0, .string ⟨#[]⟩] E) ∧ Below w.heap.size w w' := by
  have hk1 := fxle (Nat.zero_le _) h0
  have hk2 := fxle hk1 h1
  rw [fl_0] at hE
  exact zrr_ok s 5 x k2 false (wrap64 x3) 0 ⟨#[]⟩ k3 e3 e3 E w hs h0 h1 hR (by omega) (fun b G w1 h g hG => zan_5 b G s k2 x3 k3 e3 w1 hs hk2 h g hG h2) (fun h => ⟨h, by subst h; exact hE, fxle hk2 h2⟩) (fun h => by rw [← hE, dq_bad h])
theorem zrrp_6 (s : ByteArray) (x k2 x3 k3 e3 x4 k4 e4 : Nat) (E : Nat) (w : World) (hs : s.size ≤ 9223372036854775807) (h0 : fx 1 s 0 0 = (6, 1, 0)) (h1 : fx 4 s 1 0 = (x, k2, 0)) (hR : wrap32 (x : Int) = 0) (h2 : fx 8 s k2 0 = (x3, k3, e3)) (h3 : fx 8 s k3 e3 = (x4, k4, e4)) (hE : fl 0 (dq s k4 e4) = E) :
    Calls Tryz.prog 17 #[.string s] w fun e w' => e = .returned (ra2 #[.int .i64 6, .int .i64 0, .bool false, .int .i64 (wrap64 x3), .int .i64 (wrap64 x4), .string ⟨#[]⟩] #[.int .i64 0, .int .i64 0, .bool false, .int .i64 0, .int .i64 0, .string ⟨#[]⟩] E) ∧ Below w.heap.size w w' := by
  have hk1 := fxle (Nat.zero_le _) h0
  have hk2 := fxle hk1 h1
  rw [fl_0] at hE
  exact zrr_ok s 6 x k2 false (wrap64 x3) (wrap64 x4) ⟨#[]⟩ k4 e4 e4 E w hs h0 h1 hR (by omega) (fun b G w1 h g hG => zan_6 b G s k2 x3 k3 e3 x4 k4 e4 w1 hs hk2 h g hG h2 h3) (fun h => ⟨h, by subst h; exact hE, fxle (fxle hk2 h2) h3⟩) (fun h => by rw [← hE, dq_bad h])
set_option maxHeartbeats 1000000 in
theorem zreadreply_any (s : ByteArray) (w : World) (hs : s.size ≤ 9223372036854775807) :
    Calls Tryz.prog 17 #[.string s] w fun e w' => e = .returned (rpV (rrQ s)) ∧ Below w.heap.size w w' := by
  obtain ⟨v, k1, e1, h0⟩ := ex3 (fx 1 s 0 0)
  by_cases he : e1 = 0
  · subst he
    obtain ⟨hv, hS, rfl⟩ := fx_iff.1 h0
    rw [Nat.zero_add] at h0
    obtain ⟨y, k2, e2, hy⟩ := ex3 (fx 4 s 1 0)
    obtain ⟨R, hR⟩ : ∃ R, wrap32 (y : Int) = R := ⟨_, rfl⟩
    by_cases hv6 : 6 < v
    · have hq : ∀ r : Rp, rrQ s = finP r 6 := fun r => by
        rw [← finP_no (by decide)]
        unfold rrQ
        rw [h0]
        dsimp only
        rw [if_neg (by decide)]
        rw [if_pos hv6]
      by_cases hr : R < 0
      · exact (zrrp_nolo s v y k2 e2 R 6 w hs h0 hy hR (by omega) (by omega) hr rfl).mono fun e w' h => toP ⟨v, R, false, 0, 0, ⟨#[]⟩⟩ 6 (hq _) h
      · exact (zrrp_no s v y k2 e2 R 6 w hs h0 hy hR (by omega) (by omega) (by omega) rfl).mono fun e w' h => toP ⟨v, R, false, 0, 0, ⟨#[]⟩⟩ 6 (hq _) h
    by_cases he2 : e2 = 0
    · subst he2
      obtain ⟨hyl, hS4, rfl⟩ := fx_iff.1 hy
      rw [show 1 + 4 = 5 from rfl] at hy
      by_cases hr : R < 0
      · have hq : ∀ r : Rp, rrQ s = finP r 1 := fun r => by
          rw [← finP_no (by decide)]
          unfold rrQ
          rw [h0, hy]
          dsimp only
          rw [if_neg (by decide)]
          rw [if_neg hv6]
          rw [if_neg (by decide)]
          rw [hR]
          rw [if_pos hr]
        by_cases hv0 : v = 0
        · subst hv0
          exact (zrrp_zneg s y 5 R 1 w hs h0 hy hR hr rfl).mono fun e w' h => toP ⟨0, R, false, 0, 0, ⟨#[]⟩⟩ 1 (hq _) h
        · exact (zrrp_neg s v y 5 R 1 w hs h0 hy hR (by omega) hr rfl).mono fun e w' h => toP ⟨v, R, false, 0, 0, ⟨#[]⟩⟩ 1 (hq _) h
      by_cases hp : 0 < R
      · have hq : rrQ s = finP ⟨v, R, false, 0, 0, ⟨#[]⟩⟩ (dq s 5 0) := by
          unfold rrQ
          rw [h0, hy]
          dsimp only
          rw [if_neg (by decide)]
          rw [if_neg hv6]
          rw [if_neg (by decide)]
          rw [hR]
          rw [if_neg hr]
          rw [if_pos hp]
        by_cases hv0 : v = 0
        · subst hv0
          exact (zrrp_zpos s y 5 R _ w hs h0 hy hR hp (fl_0 _)).mono fun e w' h => toP ⟨(0 : Nat), R, false, 0, 0, ⟨#[]⟩⟩ _ hq h
        · exact (zrrp_pos s v y 5 R _ w hs h0 hy hR (by omega) hp (fl_0 _)).mono fun e w' h => toP ⟨v, R, false, 0, 0, ⟨#[]⟩⟩ _ hq h
      have hR0 : R = 0 := by omega
      subst hR0
      by_cases hv0 : v = 0
      · subst hv0
        refine (zrrp_zz s y 5 6 w hs h0 hy hR rfl).mono fun e w' h => toP ⟨0, 0, false, 0, 0, ⟨#[]⟩⟩ 6 ?_ h
        rw [← finP_no (by decide)]
        unfold rrQ
        rw [h0, hy]
        dsimp only
        rw [if_neg (by decide)]
        rw [if_neg hv6]
        rw [if_neg (by decide)]
        rw [hR]
        rw [if_neg hr]
        rw [if_neg hp]
        (first | rw [if_pos rfl] | rw [if_pos trivial])
      obtain ⟨x3, k3, e3, h1⟩ := ex3 (fx 8 s 5 0)
      obtain ⟨x4, k4, e4, h2⟩ := ex3 (fx 8 s k3 e3)
      obtain ⟨c, kc, ec, hc⟩ := ex3 (fx 1 s 5 0)
      obtain ⟨g, kg, eg, hg⟩ := ex3 (fx 8 s kc ec)
      obtain ⟨n, kn, en, hn⟩ := ex3 (fx 4 s k3 e3)
      by_cases hk : v = 1
      · subst hk
        by_cases hec : ec = 0
        · subst hec
          obtain ⟨hcl, hSc, rfl⟩ := fx_iff.1 hc
          rw [show 5 + 1 = 6 from rfl] at hc hg
          by_cases h1c : 1 < c
          · refine (zrrp_1 s y 5 c 6 0 91 g kg eg 91 w hs h0 hy hR hc (by rw [decide_eq_true h1c]; rfl) hg rfl).mono fun e w' h => toP ⟨1, 0, decide (c = 1), wrap64 (g : Int), 0, ⟨#[]⟩⟩ 91 ?_ h
            rw [← finP_no (by decide)]
            unfold rrQ
            rw [h0, hy]
            dsimp only
            rw [if_neg (by decide)]
            rw [if_neg hv6]
            rw [if_neg (by decide)]
            rw [hR]
            rw [if_neg hr]
            rw [if_neg hp]
            rw [if_neg (by decide)]
            (first | rw [if_pos rfl] | rw [if_pos trivial])
            rw [hc]
            dsimp only
            rw [if_neg (by decide)]
            rw [if_pos h1c]
          · refine (zrrp_1 s y 5 c 6 0 0 g kg eg _ w hs h0 hy hR hc (by rw [decide_eq_false h1c]; rfl) hg (fl_0 _)).mono fun e w' h => toP ⟨1, 0, decide (c = 1), wrap64 (g : Int), 0, ⟨#[]⟩⟩ _ ?_ h
            unfold rrQ
            rw [h0, hy]
            dsimp only
            rw [if_neg (by decide)]
            rw [if_neg hv6]
            rw [if_neg (by decide)]
            rw [hR]
            rw [if_neg hr]
            rw [if_neg hp]
            rw [if_neg (by decide)]
            (first | rw [if_pos rfl] | rw [if_pos trivial])
            rw [hc]
            dsimp only
            rw [if_neg (by decide)]
            rw [if_neg h1c]
            rw [hg]
        · obtain ⟨rfl, rfl, rfl⟩ := fx_bad hc hec
          obtain ⟨rfl, rfl, rfl⟩ := fx_err hec hg
          refine (zrrp_1 s y _ 0 _ 20 0 0 _ 20 20 w hs h0 hy hR hc (by decide) hg (by rw [fl_0]; exact dq_bad hec)).mono fun e w' h => toP ⟨1, 0, decide (0 = 1), wrap64 ((0 : Nat) : Int), 0, ⟨#[]⟩⟩ 20 ?_ h
          rw [← finP_no (by decide)]
          unfold rrQ
          rw [h0, hy]
          dsimp only
          rw [if_neg (by decide)]
          rw [if_neg hv6]
          rw [if_neg (by decide)]
          rw [hR]
          rw [if_neg hr]
          rw [if_neg hp]
          rw [if_neg (by decide)]
          (first | rw [if_pos rfl] | rw [if_pos trivial])
          rw [hc]
          dsimp only
          rw [if_pos hec]
      by_cases hk2 : v = 2
      · subst hk2
        by_cases hec : e3 = 0
        · subst hec
          obtain ⟨hcl, hSc, rfl⟩ := fx_iff.1 h1
          rw [show 5 + 8 = 13 from rfl] at h1 hn
          by_cases hen : en = 0
          · subst hen
            obtain ⟨hnl, hSn, rfl⟩ := fx_iff.1 hn
            have hk5 := hSn.le
            rw [nb_len] at hk5
            by_cases hcut : dcut 1073741824 s n (13 + 4) = true
            · refine (zrrp_2bad s y 5 x3 13 0 n (13 + 4) 0 _ 21 w hs h0 hy hR h1 hn (Or.inr hcut) rfl (rf_cut hcut _)).mono fun e w' h => toP ⟨2, 0, false, 0, wrap64 (x3 : Int), ⟨#[]⟩⟩ 21 ?_ h
              unfold rrQ rdD
              rw [h0, hy]
              dsimp only
              rw [if_neg (by decide)]
              rw [if_neg hv6]
              rw [if_neg (by decide)]
              rw [hR]
              rw [if_neg hr]
              rw [if_neg hp]
              rw [if_neg (by decide)]
              rw [if_neg (by decide)]
              (first | rw [if_pos rfl] | rw [if_pos trivial])
              rw [h1]
              dsimp only
              rw [if_neg (by decide)]
              rw [hn]
              dsimp only
              rw [if_neg (by decide)]
              rw [if_pos hcut]
            · obtain ⟨hM, hL⟩ := dcut_no hcut
              refine (zrrp_2 s y 5 x3 13 n (13 + 4) _ w hs h0 hy hR h1 hn hM (by omega) (fl_0 _)).mono fun e w' h => toP ⟨2, 0, false, 0, wrap64 (x3 : Int), s.extract (13 + 4) (13 + 4 + n)⟩ _ ?_ h
              unfold rrQ rdD
              rw [h0, hy]
              dsimp only
              rw [if_neg (by decide)]
              rw [if_neg hv6]
              rw [if_neg (by decide)]
              rw [hR]
              rw [if_neg hr]
              rw [if_neg hp]
              rw [if_neg (by decide)]
              rw [if_neg (by decide)]
              (first | rw [if_pos rfl] | rw [if_pos trivial])
              rw [h1]
              dsimp only
              rw [if_neg (by decide)]
              rw [hn]
              dsimp only
              rw [if_neg (by decide)]
              rw [if_neg hcut]
          · obtain ⟨rfl, rfl, rfl⟩ := fx_bad hn hen
            refine (zrrp_2bad s y 5 x3 13 0 0 13 20 _ 20 w hs h0 hy hR h1 hn (Or.inl hen) rfl (by rw [rf_late hen]; exact dq_bad hen)).mono fun e w' h => toP ⟨2, 0, false, 0, wrap64 (x3 : Int), ⟨#[]⟩⟩ 20 ?_ h
            unfold rrQ rdD
            rw [h0, hy]
            dsimp only
            rw [if_neg (by decide)]
            rw [if_neg hv6]
            rw [if_neg (by decide)]
            rw [hR]
            rw [if_neg hr]
            rw [if_neg hp]
            rw [if_neg (by decide)]
            rw [if_neg (by decide)]
            (first | rw [if_pos rfl] | rw [if_pos trivial])
            rw [h1]
            dsimp only
            rw [if_neg (by decide)]
            rw [hn]
            dsimp only
            rw [if_pos hen]
        · obtain ⟨rfl, rfl, rfl⟩ := fx_bad h1 hec
          obtain ⟨rfl, rfl, rfl⟩ := fx_err hec hn
          refine (zrrp_2bad s y _ 0 _ 20 0 _ 20 _ 20 w hs h0 hy hR h1 hn (Or.inl hec) rfl (by rw [rf_late hec]; exact dq_bad hec)).mono fun e w' h => toP ⟨2, 0, false, 0, wrap64 ((0 : Nat) : Int), ⟨#[]⟩⟩ 20 ?_ h
          rw [← finP_no (by decide)]
          unfold rrQ
          rw [h0, hy]
          dsimp only
          rw [if_neg (by decide)]
          rw [if_neg hv6]
          rw [if_neg (by decide)]
          rw [hR]
          rw [if_neg hr]
          rw [if_neg hp]
          rw [if_neg (by decide)]
          rw [if_neg (by decide)]
          (first | rw [if_pos rfl] | rw [if_pos trivial])
          rw [h1]
          dsimp only
          rw [if_pos hec]
      by_cases hk3 : v = 3
      · subst hk3
        refine (zrrp_3 s y 5 x3 k3 e3 _ w hs h0 hy hR h1 (fl_0 _)).mono fun e w' h => toP ⟨3, 0, false, wrap64 (x3 : Int), 0, ⟨#[]⟩⟩ _ ?_ h
        unfold rrQ
        rw [h0, hy]
        dsimp only
        rw [if_neg (by decide)]
        rw [if_neg hv6]
        rw [if_neg (by decide)]
        rw [hR]
        rw [if_neg hr]
        rw [if_neg hp]
        rw [if_neg (by decide)]
        rw [if_neg (by decide)]
        rw [if_neg (by decide)]
        (first | rw [if_pos rfl] | rw [if_pos trivial])
        rw [h1]
      by_cases hk4 : v = 4
      · subst hk4
        refine (zrrp_4 s y 5 x3 k3 e3 _ w hs h0 hy hR h1 (fl_0 _)).mono fun e w' h => toP ⟨4, 0, false, 0, wrap64 (x3 : Int), ⟨#[]⟩⟩ _ ?_ h
        unfold rrQ
        rw [h0, hy]
        dsimp only
        rw [if_neg (by decide)]
        rw [if_neg hv6]
        rw [if_neg (by decide)]
        rw [hR]
        rw [if_neg hr]
        rw [if_neg hp]
        rw [if_neg (by decide)]
        rw [if_neg (by decide)]
        rw [if_neg (by decide)]
        rw [if_neg (by decide)]
        (first | rw [if_pos rfl] | rw [if_pos trivial])
        rw [h1]
      by_cases hk5 : v = 5
      · subst hk5
        refine (zrrp_5 s y 5 x3 k3 e3 _ w hs h0 hy hR h1 (fl_0 _)).mono fun e w' h => toP ⟨5, 0, false, wrap64 (x3 : Int), 0, ⟨#[]⟩⟩ _ ?_ h
        unfold rrQ
        rw [h0, hy]
        dsimp only
        rw [if_neg (by decide)]
        rw [if_neg hv6]
        rw [if_neg (by decide)]
        rw [hR]
        rw [if_neg hr]
        rw [if_neg hp]
        rw [if_neg (by decide)]
        rw [if_neg (by decide)]
        rw [if_neg (by decide)]
        rw [if_neg (by decide)]
        rw [if_neg (by decide)]
        (first | rw [if_pos rfl] | rw [if_pos trivial])
        rw [h1]
      have hk6 : v = 6 := by omega
      subst hk6
      refine (zrrp_6 s y 5 x3 k3 e3 x4 k4 e4 _ w hs h0 hy hR h1 h2 (fl_0 _)).mono fun e w' h => toP ⟨6, 0, false, wrap64 (x3 : Int), wrap64 (x4 : Int), ⟨#[]⟩⟩ _ ?_ h
      unfold rrQ
      rw [h0, hy]
      dsimp only
      rw [if_neg (by decide)]
      rw [if_neg hv6]
      rw [if_neg (by decide)]
      rw [hR]
      rw [if_neg hr]
      rw [if_neg hp]
      rw [if_neg (by decide)]
      rw [if_neg (by decide)]
      rw [if_neg (by decide)]
      rw [if_neg (by decide)]
      rw [if_neg (by decide)]
      rw [if_neg (by decide)]
      rw [h1]
      dsimp only
      rw [h2]
    · obtain ⟨rfl, rfl, rfl⟩ := fx_bad hy he2
      have hR0 : R = 0 := by rw [← hR]; exact w32_0
      subst hR0
      have hq : ∀ r : Rp, rrQ s = finP r 20 := fun r => by
        rw [← finP_no (by decide)]
        unfold rrQ
        rw [h0, hy]
        dsimp only
        rw [if_neg (by decide)]
        rw [if_neg hv6]
        rw [if_pos he2]
      by_cases hv0 : v = 0
      · subst hv0
        exact (zrrp_zcut s 0 _ 20 20 w hs h0 hy hR he2 (by rw [fl_0]; exact dq_bad he2)).mono fun e w' h => toP ⟨0, 0, false, 0, 0, ⟨#[]⟩⟩ 20 (hq _) h
      · exact (zrrp_cut s v 0 _ 20 20 w hs h0 hy hR (by omega) he2 (by rw [fl_0]; exact dq_bad he2)).mono fun e w' h => toP ⟨v, 0, false, 0, 0, ⟨#[]⟩⟩ 20 (hq _) h
  · obtain ⟨rfl, rfl, rfl⟩ := fx_bad h0 he
    obtain ⟨x, k2, e2, hx⟩ := ex3 (fx 4 s 0 20)
    obtain ⟨rfl, rfl, rfl⟩ := fx_err he hx
    refine (zrrp_empty s 0 _ 20 w hs h0 hx w32_0 (by rw [fl_0]; exact dq_bad he)).mono fun e w' h => toP ⟨0, 0, false, 0, 0, ⟨#[]⟩⟩ 20 ?_ h
    rw [← finP_no (by decide)]
    unfold rrQ
    rw [h0]
    dsimp only
    rw [if_pos he]
end Go.Proofs.YtgdaaohlongmlaaGreat
