/- DiskFaces: the walk. -/
import Derived.Test.YtnopamkoegalpaaSmt
namespace Go.Proofs.Ytnopamkoegalpaa
open Go.RowKit
theorem vins_len (nm : ByteArray) : ∀ V, (vins nm V).length = V.length + 1
  | [] => rfl
  | y :: r => by
    unfold vins
    split
    · rfl
    · rw [List.length_cons, vins_len nm r]; rfl
theorem vset_len (nm : ByteArray) (x : List UInt8 × Nat) (V : Vw) : (vset nm x V).length = V.length := by unfold vset; simp
theorem dnV_len (o : Op5) (rm : Nat) (V : Vw) (h : V.length ≤ 65536) : (dnV o rm V).length ≤ 65536 := by
  unfold dnV
  repeat' split
  · unfold crV
    split
    · rename_i hE
      rw [vins_len]
      unfold crE at hE
      split at hE
      · split at hE
        · cases hE
        · split at hE
          · cases hE
          · omega
      · cases hE
    · exact h
  · unfold apV; split
    · exact h
    · rw [vset_len]; exact h
  · unfold cuV; split
    · exact h
    · split
      · rw [vset_len]; exact h
      · exact h
  · unfold synV; split
    · exact h
    · rw [vset_len]; exact h
  · unfold vdel; exact Nat.le_trans (List.length_filter_le _ _) h
  · exact h
theorem s_list (d : Nat) (ft : Nat → Prop) (rm : Nat) (cl cb : Int) (V : Vw) (w : World) (h : Ds w d ft rm cl cb V) (hl : V.length ≤ 65536) :
    Calls Try.prog 17 #[.pointer (some ⟨d, 0, none⟩)] w fun e w' => ∃ v, e = .returned v ∧ Lsd w' w.heap.size v (V.map (fun x => x.1)) ∧ Below w.heap.size w w' := by
  obtain ⟨m, fs, h1, rfl, rfl⟩ := h
  have e : (vw fs).map (fun x => x.1) = fs.map Fl.nm := by unfold vw; rw [List.map_map]; rfl
  rw [e]
  exact list_any d m rm cl cb fs w h1 (by unfold vw at hl; rw [List.length_map] at hl; exact hl)
theorem Lsd.below {w w' : World} {B : Nat} {v : Value} {ns : List ByteArray} (h : Lsd w B v ns) (hb : Below w.heap.size w w') : Lsd w' B v ns :=
  ⟨own_ch h.1 (Ch.of_below (S := fun _ => False) hb) (fun _ _ e => e), h.2⟩
section
variable {w0 : World} {H : Nat} {w : World} {a b : Nat} {rm : Nat} {cla cba : Int} {Va : Vw} {clb cbb : Int} {Vb : Vw}
theorem t_list (h : Two w0 H w a b rm cla cba Va clb cbb Vb) (hl : Va.length ≤ 65536) : Calls Try.prog 17 #[.pointer (some ⟨a, 0, none⟩)] w fun e w' => ∃ v, e = .returned v ∧ Two w0 H w' a b rm cla cba Va clb cbb Vb ∧ Lsd w' w.heap.size v (Va.map (fun x => x.1)) ∧ Below w.heap.size w w' := by
  have h' := h
  obtain ⟨fa, fb, h1, _⟩ := h
  refine (s_list a fa rm cla cba Va w h1 hl).mono ?_
  rintro e w' ⟨v, he, k1, k2⟩
  exact ⟨v, he, h'.kept k2, k1, k2⟩
theorem t_used (h : Two w0 H w a b rm cla cba Va clb cbb Vb) : Calls Try.prog 26 #[.pointer (some ⟨a, 0, none⟩)] w fun e w' => e = .returned (.int .i64 (vt Va)) ∧ ∃ k, w' = w.drewN k := by
  obtain ⟨fa, fb, h1, _⟩ := h
  exact s_used a fa rm cla cba Va w h1
end
theorem s_size' (d : Nat) (ft : Nat → Prop) (rm : Nat) (cl cb : Int) (V : Vw) (nm : ByteArray) (w : World) (h : Ds w d ft rm cl cb V) (hn : nm.size ≤ maxLen) : Calls Try.prog 24 #[.pointer (some ⟨d, 0, none⟩), .string nm] w fun e w' => e = .returned (.tuple #[.int .i64 (szN (vl nm V)), .int .i64 (noE (vl nm V))]) ∧ Aft w ft d rm cl cb V w' := by
  refine (s_size d ft rm cl cb V nm w h hn).mono ?_
  rintro e w' ⟨he, k, rfl⟩
  exact ⟨he, Aft.same h k⟩
/-- The calls of a script, where they lie. -/
def o0 : Op5 := ⟨0, ByteArray.empty, 0, 0, ByteArray.empty⟩
def Scr (w : World) (a : Option Addr) (os : List Op5) : Prop := os = [] ∨ ∃ b off, a = some ⟨b, off, none⟩ ∧ b < w.heap.size ∧ ∀ j, j < os.length → w.cell? ⟨b, off + j * 5, none⟩ = some (.int .i64 (os.getD j o0).k) ∧ w.cell? ⟨b, off + j * 5 + 1, none⟩ = some (.string (os.getD j o0).nm) ∧ w.cell? ⟨b, off + j * 5 + 2, none⟩ = some (.int .i64 (os.getD j o0).a) ∧ w.cell? ⟨b, off + j * 5 + 3, none⟩ = some (.int .i64 (os.getD j o0).b) ∧ w.cell? ⟨b, off + j * 5 + 4, none⟩ = some (.string (os.getD j o0).s)
def OpOk (o : Op5) : Prop := o.nm.size ≤ maxLen ∧ o.a ≤ 9223372036854775807
theorem scr_mem {os : List Op5} {k : Nat} (h : k < os.length) : os.getD k o0 ∈ os := by
  simp [List.getD_eq_getElem?_getD, h]
set_option maxHeartbeats 8000000 in
set_option maxRecDepth 20000 in
theorem faces_walk (room : Int) (a : Option Addr) (cap : Nat) (os : List Op5) (w : World) (hl : os.length ≤ 9223372036854775807) (hz : ∀ o ∈ os, OpOk o) (V : Scr w a os) :
    Calls Try.prog 6 #[.int .i64 room, .slice a os.length cap] w fun e w' => e = .returned (.bool true) ∧ Below w.heap.size w w' := by
  have HV := hid V
  have HZ := hid hz
  have HL := hid hl
  clear V hz hl
  have HFX := hid (fixed_any w)
  go_enter Try.func6, Try.ntmps6
  go_wp2_with (first | (go_at_call 9; refine HFX.out.mono ?_; rintro e w1 ⟨rfl, hb1⟩; have HB1 := hid hb1; clear hb1) | (go_at_call 10; refine (new_any _ _).mono ?_; rintro e w' ⟨rfl, rfl⟩))
  have hT0 := Two.new w1 room w.heap.size w HB1.out HB1.out.size
  have HT0 := hid hT0
  clear hT0 HFX
  generalize clamp room = rm at *
  generalize (w1.alloc (.cells #[.int .i64 rm, .int .i64 0, .map none, .int .i64 0, .int .i64 0] 59)).alloc (.cells #[.int .i64 rm, .int .i64 0, .map none, .int .i64 0, .int .i64 0] 59) = w3 at *
  generalize w1.heap.size = da at *
  generalize da + 1 = db at *
  go_loopg [8] os.length (fun k i wr => ∃ (j : Nat) (cl cb : Int) (V : Vw), j + k = os.length ∧ i = .int .i64 j ∧ Hid (Two w w.heap.size wr da db rm cl cb V cl cb V) ∧ Hid (V.length ≤ 65536))
  case atStart => exact ⟨0, 0, 0, [], by omega, rfl, HT0, by show _ ≤ _; simp⟩
  case round =>
    clear HT0
    obtain ⟨j, cl, cb, V, hk, rfl, HT, HVL⟩ := hrel
    by_cases hlt : j < os.length
    · obtain ⟨k, rfl⟩ : ∃ k, gk = k + 1 := ⟨gk - 1, by omega⟩
      rcases HV.out with rfl | ⟨b, off, rfl, hbl, hc⟩
      · simp at hlt
      obtain ⟨q0, q1, q2, q3, q4⟩ := hc j hlt
      have hK := HZ.out _ (scr_mem hlt)
      generalize os.getD j o0 = o at *
      have hbw := HT.out.below
      have k0 := (hbw.cell (p := ⟨b, off + j * 5, none⟩) hbl).trans q0
      have k1 := (hbw.cell (p := ⟨b, off + j * 5 + 1, none⟩) hbl).trans q1
      have k2 := (hbw.cell (p := ⟨b, off + j * 5 + 2, none⟩) hbl).trans q2
      have k3 := (hbw.cell (p := ⟨b, off + j * 5 + 3, none⟩) hbl).trans q3
      have k4 := (hbw.cell (p := ⟨b, off + j * 5 + 4, none⟩) hbl).trans q4
      have hltI : (j : Int) < os.length := by omega
      have HK := hid hK
      clear hc q0 q1 q2 q3 q4 hK hbw
      obtain ⟨Kd, nm, A, B, S⟩ := o
      simp only at k0 k1 k2 k3 k4
      obtain ⟨wo, hwo⟩ : ∃ wo, wo = wr.alloc (.cells #[.int .i64 Kd, .string nm, .int .i64 A, .int .i64 B, .string S] 31) := ⟨_, rfl⟩
      have hob : wo.heap[wr.heap.size]? = some (.cells #[.int .i64 Kd, .string nm, .int .i64 A, .int .i64 B, .string S] 31 (0, 0)) := by rw [hwo]; exact heap_new _ _
      have HT1 : Hid (Two w w.heap.size wo da db rm cl cb V cl cb V) := by rw [hwo]; exact HT.out.kept (bel_alloc wr _)
      have HOB := hid hob
      clear hob
      by_cases e1 : Kd = 1
      · subst e1
        have HLN : Hid ((crV nm V).length ≤ 65536) := by have := dnV_len ⟨1, nm, A, B, S⟩ rm V HVL.out; simp (config := {decide := true}) only [dnV, if_true, if_false] at this; exact this
        have HDN : Hid (∀ (Q : Ending → World → Prop), (∀ w', Two w w.heap.size w' da db rm cl cb (crV nm V) cl cb V → Oth wo w' → Q (.returned (.tuple #[.string ⟨#[]⟩, .int .i64 0, .int .i64 (crE nm V)])) w') → Calls Try.prog 19 #[.iface 24 (.pointer (some ⟨da, 0, none⟩)), .agg #[.int .i64 1, .string nm, .int .i64 A, .int .i64 B, .string S]] wo Q) := fun Q hQ => HT1.out.first (fun fa h => by have := done_any da fa rm cl cb V ⟨1, nm, A, B, S⟩ HK.out.1 HK.out.2 _ h; simp (config := {decide := true}) only [dnS, dnN, dnE, dnV, dnC, dnB, if_true, if_false] at this; exact this) hQ
        have HC : Hid (∀ w4 (Q : Ending → World → Prop), Two w w.heap.size w4 da db rm cl cb (crV nm V) cl cb V → (∀ w', Two w w.heap.size w' db da rm cl cb (crV nm V) cl cb (crV nm V) → Oth w4 w' → Q (.returned (.int .i64 (crE nm V))) w') → Calls Try.prog 16 #[.pointer (some ⟨db, 0, none⟩), .string nm] w4 Q) := fun w4 Q h hQ => h.swap.first (fun fa h => s_create db fa rm cl cb V nm _ h HK.out.1) hQ
        rw [hwo] at HDN
        have hmL := mth_List (some ⟨da, 0, none⟩)
        go_wp2_with (first | (go_at_call 19; refine HDN.out _ ?_; intro w4 h4 o4; have hob4 := (o4 wr.heap.size _ _ _ (by rw [← hwo]; exact HOB.out) (by decide) (by decide) (by decide)); have c40 := (cell_of (i := 0) hob4).trans rfl; have c41 := (cell_of (i := 1) hob4).trans rfl; have c42 := (cell_of (i := 2) hob4).trans rfl; have c43 := (cell_of (i := 3) hob4).trans rfl; have c44 := (cell_of (i := 4) hob4).trans rfl; have H4 := hid h4; clear h4 o4 hob4) | (go_at_call 16; refine HC.out _ _ H4.out ?_; intro w5 h5 o5; have H5 := hid h5.swap; clear h5 o5) | (go_at_call 17; with_reducible refine (t_list H5.out HLN.out).mono ?_; rintro e w6 ⟨v6, rfl, h6, l6, b6⟩; have H6 := hid h6; have L6 := hid l6; clear h6 l6 b6) | (go_at_call 17; with_reducible refine (t_list H6.out.swap HLN.out).mono ?_; rintro e w7 ⟨v7, rfl, h7, l7, b7⟩; have H7 := hid h7.swap; have L7 := hid l7; have L67 := hid (L6.out.below b7); clear h7 l7 b7) | (go_at_call 25; refine (same_any _ _ _ _ _ _ L67.out.1 L7.out.1 (by have := HLN.out; rw [List.length_map]; omega)).mono ?_; rintro e w8 ⟨rfl, k8, rfl⟩) | (go_at_call 26; with_reducible refine (t_used (H7.out.kept (bel_drewN _ _))).mono ?_; rintro e w9 ⟨rfl, k9, rfl⟩) | (go_at_call 26; with_reducible refine (t_used (H7.out.swap.kept (bel_drewN _ _))).mono ?_; rintro e w10 ⟨rfl, k10, rfl⟩))
        go_roundg k
        case measure => omega
        case rel => have hLL := HL.out; have ew : wrap64 ((j : Int) + 1) = ((j + 1 : Nat) : Int) := by { unfold wrap64; omega }; exact ⟨j + 1, _, _, _, by omega, by first | exact congrArg (Value.int .i64) ew | (congr 1; omega) , hid (H7.out.kept (bel_drewN _ _)), HLN⟩
      by_cases e2 : Kd = 2
      · subst e2
        have HLN : Hid ((apV nm rm S V).length ≤ 65536) := by have := dnV_len ⟨2, nm, A, B, S⟩ rm V HVL.out; simp (config := {decide := true}) only [dnV, if_true, if_false] at this; exact this
        have HDN : Hid (∀ (Q : Ending → World → Prop), (∀ w', Two w w.heap.size w' da db rm cl cb (apV nm rm S V) cl cb V → Oth wo w' → Q (.returned (.tuple #[.string ⟨#[]⟩, .int .i64 (apN (vl nm V) rm (vt V) S), .int .i64 (apE (vl nm V) rm (vt V) S)])) w') → Calls Try.prog 19 #[.iface 24 (.pointer (some ⟨da, 0, none⟩)), .agg #[.int .i64 2, .string nm, .int .i64 A, .int .i64 B, .string S]] wo Q) := fun Q hQ => HT1.out.first (fun fa h => by have := done_any da fa rm cl cb V ⟨2, nm, A, B, S⟩ HK.out.1 HK.out.2 _ h; simp (config := {decide := true}) only [dnS, dnN, dnE, dnV, dnC, dnB, if_true, if_false] at this; exact this) hQ
        have HC : Hid (∀ w4 (Q : Ending → World → Prop), Two w w.heap.size w4 da db rm cl cb (apV nm rm S V) cl cb V → (∀ w', Two w w.heap.size w' db da rm cl cb (apV nm rm S V) cl cb (apV nm rm S V) → Oth w4 w' → Q (.returned (.tuple #[.int .i64 (apN (vl nm V) rm (vt V) S), .int .i64 (apE (vl nm V) rm (vt V) S)])) w') → Calls Try.prog 20 #[.pointer (some ⟨db, 0, none⟩), .string nm, .string S] w4 Q) := fun w4 Q h hQ => h.swap.first (fun fa h => s_append db fa rm cl cb V nm _ h S HK.out.1) hQ
        rw [hwo] at HDN
        have hmL := mth_List (some ⟨da, 0, none⟩)
        go_wp2_with (first | (go_at_call 19; refine HDN.out _ ?_; intro w4 h4 o4; have hob4 := (o4 wr.heap.size _ _ _ (by rw [← hwo]; exact HOB.out) (by decide) (by decide) (by decide)); have c40 := (cell_of (i := 0) hob4).trans rfl; have c41 := (cell_of (i := 1) hob4).trans rfl; have c42 := (cell_of (i := 2) hob4).trans rfl; have c43 := (cell_of (i := 3) hob4).trans rfl; have c44 := (cell_of (i := 4) hob4).trans rfl; have H4 := hid h4; clear h4 o4 hob4) | (go_at_call 20; refine HC.out _ _ H4.out ?_; intro w5 h5 o5; have H5 := hid h5.swap; clear h5 o5) | (go_at_call 17; with_reducible refine (t_list H5.out HLN.out).mono ?_; rintro e w6 ⟨v6, rfl, h6, l6, b6⟩; have H6 := hid h6; have L6 := hid l6; clear h6 l6 b6) | (go_at_call 17; with_reducible refine (t_list H6.out.swap HLN.out).mono ?_; rintro e w7 ⟨v7, rfl, h7, l7, b7⟩; have H7 := hid h7.swap; have L7 := hid l7; have L67 := hid (L6.out.below b7); clear h7 l7 b7) | (go_at_call 25; refine (same_any _ _ _ _ _ _ L67.out.1 L7.out.1 (by have := HLN.out; rw [List.length_map]; omega)).mono ?_; rintro e w8 ⟨rfl, k8, rfl⟩) | (go_at_call 26; with_reducible refine (t_used (H7.out.kept (bel_drewN _ _))).mono ?_; rintro e w9 ⟨rfl, k9, rfl⟩) | (go_at_call 26; with_reducible refine (t_used (H7.out.swap.kept (bel_drewN _ _))).mono ?_; rintro e w10 ⟨rfl, k10, rfl⟩))
        go_roundg k
        case measure => omega
        case rel => have hLL := HL.out; have ew : wrap64 ((j : Int) + 1) = ((j + 1 : Nat) : Int) := by { unfold wrap64; omega }; exact ⟨j + 1, _, _, _, by omega, by first | exact congrArg (Value.int .i64) ew | (congr 1; omega) , hid (H7.out.kept (bel_drewN _ _)), HLN⟩
      by_cases e3 : Kd = 3
      · subst e3
        have HLN : Hid ((cuV nm A V).length ≤ 65536) := by have := dnV_len ⟨3, nm, A, B, S⟩ rm V HVL.out; simp (config := {decide := true}) only [dnV, if_true, if_false] at this; exact this
        have HDN : Hid (∀ (Q : Ending → World → Prop), (∀ w', Two w w.heap.size w' da db rm cl cb (cuV nm A V) cl cb V → Oth wo w' → Q (.returned (.tuple #[.string ⟨#[]⟩, .int .i64 0, .int .i64 (cuE (vl nm V) A)])) w') → Calls Try.prog 19 #[.iface 24 (.pointer (some ⟨da, 0, none⟩)), .agg #[.int .i64 3, .string nm, .int .i64 A, .int .i64 B, .string S]] wo Q) := fun Q hQ => HT1.out.first (fun fa h => by have := done_any da fa rm cl cb V ⟨3, nm, A, B, S⟩ HK.out.1 HK.out.2 _ h; simp (config := {decide := true}) only [dnS, dnN, dnE, dnV, dnC, dnB, if_true, if_false] at this; exact this) hQ
        have HC : Hid (∀ w4 (Q : Ending → World → Prop), Two w w.heap.size w4 da db rm cl cb (cuV nm A V) cl cb V → (∀ w', Two w w.heap.size w' db da rm cl cb (cuV nm A V) cl cb (cuV nm A V) → Oth w4 w' → Q (.returned (.int .i64 (cuE (vl nm V) A))) w') → Calls Try.prog 21 #[.pointer (some ⟨db, 0, none⟩), .string nm, .int .i64 A] w4 Q) := fun w4 Q h hQ => h.swap.first (fun fa h => s_cut db fa rm cl cb V nm _ h A HK.out.1) hQ
        rw [hwo] at HDN
        have hmL := mth_List (some ⟨da, 0, none⟩)
        go_wp2_with (first | (go_at_call 19; refine HDN.out _ ?_; intro w4 h4 o4; have hob4 := (o4 wr.heap.size _ _ _ (by rw [← hwo]; exact HOB.out) (by decide) (by decide) (by decide)); have c40 := (cell_of (i := 0) hob4).trans rfl; have c41 := (cell_of (i := 1) hob4).trans rfl; have c42 := (cell_of (i := 2) hob4).trans rfl; have c43 := (cell_of (i := 3) hob4).trans rfl; have c44 := (cell_of (i := 4) hob4).trans rfl; have H4 := hid h4; clear h4 o4 hob4) | (go_at_call 21; refine HC.out _ _ H4.out ?_; intro w5 h5 o5; have H5 := hid h5.swap; clear h5 o5) | (go_at_call 17; with_reducible refine (t_list H5.out HLN.out).mono ?_; rintro e w6 ⟨v6, rfl, h6, l6, b6⟩; have H6 := hid h6; have L6 := hid l6; clear h6 l6 b6) | (go_at_call 17; with_reducible refine (t_list H6.out.swap HLN.out).mono ?_; rintro e w7 ⟨v7, rfl, h7, l7, b7⟩; have H7 := hid h7.swap; have L7 := hid l7; have L67 := hid (L6.out.below b7); clear h7 l7 b7) | (go_at_call 25; refine (same_any _ _ _ _ _ _ L67.out.1 L7.out.1 (by have := HLN.out; rw [List.length_map]; omega)).mono ?_; rintro e w8 ⟨rfl, k8, rfl⟩) | (go_at_call 26; with_reducible refine (t_used (H7.out.kept (bel_drewN _ _))).mono ?_; rintro e w9 ⟨rfl, k9, rfl⟩) | (go_at_call 26; with_reducible refine (t_used (H7.out.swap.kept (bel_drewN _ _))).mono ?_; rintro e w10 ⟨rfl, k10, rfl⟩))
        go_roundg k
        case measure => omega
        case rel => have hLL := HL.out; have ew : wrap64 ((j : Int) + 1) = ((j + 1 : Nat) : Int) := by { unfold wrap64; omega }; exact ⟨j + 1, _, _, _, by omega, by first | exact congrArg (Value.int .i64) ew | (congr 1; omega) , hid (H7.out.kept (bel_drewN _ _)), HLN⟩
      by_cases e4 : Kd = 4
      · subst e4
        have HLN : Hid ((synV nm V).length ≤ 65536) := by have := dnV_len ⟨4, nm, A, B, S⟩ rm V HVL.out; simp (config := {decide := true}) only [dnV, if_true, if_false] at this; exact this
        have HDN : Hid (∀ (Q : Ending → World → Prop), (∀ w', Two w w.heap.size w' da db rm cl cb (synV nm V) cl cb V → Oth wo w' → Q (.returned (.tuple #[.string ⟨#[]⟩, .int .i64 0, .int .i64 (noE (vl nm V))])) w') → Calls Try.prog 19 #[.iface 24 (.pointer (some ⟨da, 0, none⟩)), .agg #[.int .i64 4, .string nm, .int .i64 A, .int .i64 B, .string S]] wo Q) := fun Q hQ => HT1.out.first (fun fa h => by have := done_any da fa rm cl cb V ⟨4, nm, A, B, S⟩ HK.out.1 HK.out.2 _ h; simp (config := {decide := true}) only [dnS, dnN, dnE, dnV, dnC, dnB, if_true, if_false] at this; exact this) hQ
        have HC : Hid (∀ w4 (Q : Ending → World → Prop), Two w w.heap.size w4 da db rm cl cb (synV nm V) cl cb V → (∀ w', Two w w.heap.size w' db da rm cl cb (synV nm V) cl cb (synV nm V) → Oth w4 w' → Q (.returned (.int .i64 (noE (vl nm V)))) w') → Calls Try.prog 22 #[.pointer (some ⟨db, 0, none⟩), .string nm] w4 Q) := fun w4 Q h hQ => h.swap.first (fun fa h => s_sync db fa rm cl cb V nm _ h HK.out.1) hQ
        rw [hwo] at HDN
        have hmL := mth_List (some ⟨da, 0, none⟩)
        go_wp2_with (first | (go_at_call 19; refine HDN.out _ ?_; intro w4 h4 o4; have hob4 := (o4 wr.heap.size _ _ _ (by rw [← hwo]; exact HOB.out) (by decide) (by decide) (by decide)); have c40 := (cell_of (i := 0) hob4).trans rfl; have c41 := (cell_of (i := 1) hob4).trans rfl; have c42 := (cell_of (i := 2) hob4).trans rfl; have c43 := (cell_of (i := 3) hob4).trans rfl; have c44 := (cell_of (i := 4) hob4).trans rfl; have H4 := hid h4; clear h4 o4 hob4) | (go_at_call 22; refine HC.out _ _ H4.out ?_; intro w5 h5 o5; have H5 := hid h5.swap; clear h5 o5) | (go_at_call 17; with_reducible refine (t_list H5.out HLN.out).mono ?_; rintro e w6 ⟨v6, rfl, h6, l6, b6⟩; have H6 := hid h6; have L6 := hid l6; clear h6 l6 b6) | (go_at_call 17; with_reducible refine (t_list H6.out.swap HLN.out).mono ?_; rintro e w7 ⟨v7, rfl, h7, l7, b7⟩; have H7 := hid h7.swap; have L7 := hid l7; have L67 := hid (L6.out.below b7); clear h7 l7 b7) | (go_at_call 25; refine (same_any _ _ _ _ _ _ L67.out.1 L7.out.1 (by have := HLN.out; rw [List.length_map]; omega)).mono ?_; rintro e w8 ⟨rfl, k8, rfl⟩) | (go_at_call 26; with_reducible refine (t_used (H7.out.kept (bel_drewN _ _))).mono ?_; rintro e w9 ⟨rfl, k9, rfl⟩) | (go_at_call 26; with_reducible refine (t_used (H7.out.swap.kept (bel_drewN _ _))).mono ?_; rintro e w10 ⟨rfl, k10, rfl⟩))
        go_roundg k
        case measure => omega
        case rel => have hLL := HL.out; have ew : wrap64 ((j : Int) + 1) = ((j + 1 : Nat) : Int) := by { unfold wrap64; omega }; exact ⟨j + 1, _, _, _, by omega, by first | exact congrArg (Value.int .i64) ew | (congr 1; omega) , hid (H7.out.kept (bel_drewN _ _)), HLN⟩
      by_cases e5 : Kd = 5
      · subst e5
        have HLN : Hid ((vdel nm V).length ≤ 65536) := by have := dnV_len ⟨5, nm, A, B, S⟩ rm V HVL.out; simp (config := {decide := true}) only [dnV, if_true, if_false] at this; exact this
        have HDN : Hid (∀ (Q : Ending → World → Prop), (∀ w', Two w w.heap.size w' da db rm cl cb (vdel nm V) cl cb V → Oth wo w' → Q (.returned (.tuple #[.string ⟨#[]⟩, .int .i64 0, .int .i64 (noE (vl nm V))])) w') → Calls Try.prog 19 #[.iface 24 (.pointer (some ⟨da, 0, none⟩)), .agg #[.int .i64 5, .string nm, .int .i64 A, .int .i64 B, .string S]] wo Q) := fun Q hQ => HT1.out.first (fun fa h => by have := done_any da fa rm cl cb V ⟨5, nm, A, B, S⟩ HK.out.1 HK.out.2 _ h; simp (config := {decide := true}) only [dnS, dnN, dnE, dnV, dnC, dnB, if_true, if_false] at this; exact this) hQ
        have HC : Hid (∀ w4 (Q : Ending → World → Prop), Two w w.heap.size w4 da db rm cl cb (vdel nm V) cl cb V → (∀ w', Two w w.heap.size w' db da rm cl cb (vdel nm V) cl cb (vdel nm V) → Oth w4 w' → Q (.returned (.int .i64 (noE (vl nm V)))) w') → Calls Try.prog 18 #[.pointer (some ⟨db, 0, none⟩), .string nm] w4 Q) := fun w4 Q h hQ => h.swap.first (fun fa h => s_remove db fa rm cl cb V nm _ h HK.out.1) hQ
        rw [hwo] at HDN
        have hmL := mth_List (some ⟨da, 0, none⟩)
        go_wp2_with (first | (go_at_call 19; refine HDN.out _ ?_; intro w4 h4 o4; have hob4 := (o4 wr.heap.size _ _ _ (by rw [← hwo]; exact HOB.out) (by decide) (by decide) (by decide)); have c40 := (cell_of (i := 0) hob4).trans rfl; have c41 := (cell_of (i := 1) hob4).trans rfl; have c42 := (cell_of (i := 2) hob4).trans rfl; have c43 := (cell_of (i := 3) hob4).trans rfl; have c44 := (cell_of (i := 4) hob4).trans rfl; have H4 := hid h4; clear h4 o4 hob4) | (go_at_call 18; refine HC.out _ _ H4.out ?_; intro w5 h5 o5; have H5 := hid h5.swap; clear h5 o5) | (go_at_call 17; with_reducible refine (t_list H5.out HLN.out).mono ?_; rintro e w6 ⟨v6, rfl, h6, l6, b6⟩; have H6 := hid h6; have L6 := hid l6; clear h6 l6 b6) | (go_at_call 17; with_reducible refine (t_list H6.out.swap HLN.out).mono ?_; rintro e w7 ⟨v7, rfl, h7, l7, b7⟩; have H7 := hid h7.swap; have L7 := hid l7; have L67 := hid (L6.out.below b7); clear h7 l7 b7) | (go_at_call 25; refine (same_any _ _ _ _ _ _ L67.out.1 L7.out.1 (by have := HLN.out; rw [List.length_map]; omega)).mono ?_; rintro e w8 ⟨rfl, k8, rfl⟩) | (go_at_call 26; with_reducible refine (t_used (H7.out.kept (bel_drewN _ _))).mono ?_; rintro e w9 ⟨rfl, k9, rfl⟩) | (go_at_call 26; with_reducible refine (t_used (H7.out.swap.kept (bel_drewN _ _))).mono ?_; rintro e w10 ⟨rfl, k10, rfl⟩))
        go_roundg k
        case measure => omega
        case rel => have hLL := HL.out; have ew : wrap64 ((j : Int) + 1) = ((j + 1 : Nat) : Int) := by { unfold wrap64; omega }; exact ⟨j + 1, _, _, _, by omega, by first | exact congrArg (Value.int .i64) ew | (congr 1; omega) , hid (H7.out.kept (bel_drewN _ _)), HLN⟩
      by_cases e7 : Kd = 7
      · subst e7
        have HLN : Hid ((V).length ≤ 65536) := by have := dnV_len ⟨7, nm, A, B, S⟩ rm V HVL.out; simp (config := {decide := true}) only [dnV, if_false] at this; exact this
        have HDN : Hid (∀ (Q : Ending → World → Prop), (∀ w', Two w w.heap.size w' da db rm (rdC (vl nm V) A B cl) (rdB (vl nm V) A B cb) (V) cl cb V → Oth wo w' → Q (.returned (.tuple #[.string (rdS (vl nm V) A B), .int .i64 0, .int .i64 (rdE (vl nm V) A B)])) w') → Calls Try.prog 19 #[.iface 24 (.pointer (some ⟨da, 0, none⟩)), .agg #[.int .i64 7, .string nm, .int .i64 A, .int .i64 B, .string S]] wo Q) := fun Q hQ => HT1.out.first (fun fa h => by have := done_any da fa rm cl cb V ⟨7, nm, A, B, S⟩ HK.out.1 HK.out.2 _ h; simp (config := {decide := true}) only [dnS, dnN, dnE, dnV, dnC, dnB, if_true, if_false] at this; exact this) hQ
        have HC : Hid (∀ w4 (Q : Ending → World → Prop), Two w w.heap.size w4 da db rm (rdC (vl nm V) A B cl) (rdB (vl nm V) A B cb) (V) cl cb V → (∀ w', Two w w.heap.size w' db da rm (rdC (vl nm V) A B cl) (rdB (vl nm V) A B cb) (V) (rdC (vl nm V) A B cl) (rdB (vl nm V) A B cb) (V) → Oth w4 w' → Q (.returned (.tuple #[.string (rdS (vl nm V) A B), .int .i64 (rdE (vl nm V) A B)])) w') → Calls Try.prog 23 #[.pointer (some ⟨db, 0, none⟩), .string nm, .int .i64 A, .int .i64 B] w4 Q) := fun w4 Q h hQ => h.swap.first (fun fa h => s_read db fa rm cl cb V nm _ h A B HK.out.1 HK.out.2) hQ
        rw [hwo] at HDN
        have hmL := mth_List (some ⟨da, 0, none⟩)
        go_wp2_with (first | (go_at_call 19; refine HDN.out _ ?_; intro w4 h4 o4; have hob4 := (o4 wr.heap.size _ _ _ (by rw [← hwo]; exact HOB.out) (by decide) (by decide) (by decide)); have c40 := (cell_of (i := 0) hob4).trans rfl; have c41 := (cell_of (i := 1) hob4).trans rfl; have c42 := (cell_of (i := 2) hob4).trans rfl; have c43 := (cell_of (i := 3) hob4).trans rfl; have c44 := (cell_of (i := 4) hob4).trans rfl; have H4 := hid h4; clear h4 o4 hob4) | (go_at_call 23; refine HC.out _ _ H4.out ?_; intro w5 h5 o5; have H5 := hid h5.swap; clear h5 o5) | (go_at_call 17; with_reducible refine (t_list H5.out HLN.out).mono ?_; rintro e w6 ⟨v6, rfl, h6, l6, b6⟩; have H6 := hid h6; have L6 := hid l6; clear h6 l6 b6) | (go_at_call 17; with_reducible refine (t_list H6.out.swap HLN.out).mono ?_; rintro e w7 ⟨v7, rfl, h7, l7, b7⟩; have H7 := hid h7.swap; have L7 := hid l7; have L67 := hid (L6.out.below b7); clear h7 l7 b7) | (go_at_call 25; refine (same_any _ _ _ _ _ _ L67.out.1 L7.out.1 (by have := HLN.out; rw [List.length_map]; omega)).mono ?_; rintro e w8 ⟨rfl, k8, rfl⟩) | (go_at_call 26; with_reducible refine (t_used (H7.out.kept (bel_drewN _ _))).mono ?_; rintro e w9 ⟨rfl, k9, rfl⟩) | (go_at_call 26; with_reducible refine (t_used (H7.out.swap.kept (bel_drewN _ _))).mono ?_; rintro e w10 ⟨rfl, k10, rfl⟩))
        go_roundg k
        case measure => omega
        case rel => have hLL := HL.out; have ew : wrap64 ((j : Int) + 1) = ((j + 1 : Nat) : Int) := by { unfold wrap64; omega }; exact ⟨j + 1, _, _, _, by omega, by first | exact congrArg (Value.int .i64) ew | (congr 1; omega) , hid (H7.out.kept (bel_drewN _ _)), HLN⟩
      have HLN : Hid ((V).length ≤ 65536) := by have := dnV_len ⟨Kd, nm, A, B, S⟩ rm V HVL.out; simp only [dnV, e1, e2, e3, e4, e5, if_false] at this; exact this
      have HDN : Hid (∀ (Q : Ending → World → Prop), (∀ w', Two w w.heap.size w' da db rm cl cb (V) cl cb V → Oth wo w' → Q (.returned (.tuple #[.string ⟨#[]⟩, .int .i64 (szN (vl nm V)), .int .i64 (noE (vl nm V))])) w') → Calls Try.prog 19 #[.iface 24 (.pointer (some ⟨da, 0, none⟩)), .agg #[.int .i64 Kd, .string nm, .int .i64 A, .int .i64 B, .string S]] wo Q) := fun Q hQ => HT1.out.first (fun fa h => by have := done_any da fa rm cl cb V ⟨Kd, nm, A, B, S⟩ HK.out.1 HK.out.2 _ h; simp only [dnS, dnN, dnE, dnV, dnC, dnB, e1, e2, e3, e4, e5, e7, if_false, false_or] at this; exact this) hQ
      have HC : Hid (∀ w4 (Q : Ending → World → Prop), Two w w.heap.size w4 da db rm cl cb (V) cl cb V → (∀ w', Two w w.heap.size w' db da rm cl cb (V) cl cb (V) → Oth w4 w' → Q (.returned (.tuple #[.int .i64 (szN (vl nm V)), .int .i64 (noE (vl nm V))])) w') → Calls Try.prog 24 #[.pointer (some ⟨db, 0, none⟩), .string nm] w4 Q) := fun w4 Q h hQ => h.swap.first (fun fa h => s_size' db fa rm cl cb V nm _ h HK.out.1) hQ
      rw [hwo] at HDN
      have hmL := mth_List (some ⟨da, 0, none⟩)
      go_wp2_with (first | (go_at_call 19; refine HDN.out _ ?_; intro w4 h4 o4; have hob4 := (o4 wr.heap.size _ _ _ (by rw [← hwo]; exact HOB.out) (by decide) (by decide) (by decide)); have c40 := (cell_of (i := 0) hob4).trans rfl; have c41 := (cell_of (i := 1) hob4).trans rfl; have c42 := (cell_of (i := 2) hob4).trans rfl; have c43 := (cell_of (i := 3) hob4).trans rfl; have c44 := (cell_of (i := 4) hob4).trans rfl; have H4 := hid h4; clear h4 o4 hob4) | (go_at_call 24; refine HC.out _ _ H4.out ?_; intro w5 h5 o5; have H5 := hid h5.swap; clear h5 o5) | (go_at_call 17; with_reducible refine (t_list H5.out HLN.out).mono ?_; rintro e w6 ⟨v6, rfl, h6, l6, b6⟩; have H6 := hid h6; have L6 := hid l6; clear h6 l6 b6) | (go_at_call 17; with_reducible refine (t_list H6.out.swap HLN.out).mono ?_; rintro e w7 ⟨v7, rfl, h7, l7, b7⟩; have H7 := hid h7.swap; have L7 := hid l7; have L67 := hid (L6.out.below b7); clear h7 l7 b7) | (go_at_call 25; refine (same_any _ _ _ _ _ _ L67.out.1 L7.out.1 (by have := HLN.out; rw [List.length_map]; omega)).mono ?_; rintro e w8 ⟨rfl, k8, rfl⟩) | (go_at_call 26; with_reducible refine (t_used (H7.out.kept (bel_drewN _ _))).mono ?_; rintro e w9 ⟨rfl, k9, rfl⟩) | (go_at_call 26; with_reducible refine (t_used (H7.out.swap.kept (bel_drewN _ _))).mono ?_; rintro e w10 ⟨rfl, k10, rfl⟩))
      go_roundg k
      case measure => omega
      case rel => have hLL := HL.out; have ew : wrap64 ((j : Int) + 1) = ((j + 1 : Nat) : Int) := by { unfold wrap64; omega }; exact ⟨j + 1, _, _, _, by omega, by first | exact congrArg (Value.int .i64) ew | (congr 1; omega) , hid (H7.out.kept (bel_drewN _ _)), HLN⟩
    · have hltD : decide ((j : Int) < os.length) = false := by simp; omega
      have hb := HT.out.below
      have HBB := hid hb
      clear hb
      go_wp2
      go_ret
      exact ⟨rfl, HBB.out⟩
end Go.Proofs.Ytnopamkoegalpaa
