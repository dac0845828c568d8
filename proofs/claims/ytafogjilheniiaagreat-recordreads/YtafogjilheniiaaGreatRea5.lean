/- RecordReads' walk: what any bytes are read as is what the document's reader reads. -/
import Derived.Test.YtafogjilheniiaaGreatSamX
import Derived.Test.YtafogjilheniiaaGreatXRe
import Derived.Test.YtafogjilheniiaaGreatFm5
import Derived.Deep.RegionHeld
namespace Go.Proofs.YtafogjilheniiaaGreat
open Go.RowKit
theorem bd_cl {h : Bool} {d : ByteArray} (hc : Cl h d) : bd h d = d := by
  cases h with
  | false => rw [hc rfl]; rfl
  | true => rfl
set_option maxHeartbeats 1000000 in
set_option maxRecDepth 20000 in
theorem lclean_yes (y : Rec) (a1 a2 : Option Addr) (cap1 cap2 : Nat) (w : World) (V1 : Hds w a1 y.hs) (V2 : Hds w a2 y.hs) (hz : y.hs.length ≤ 9223372036854775807) (hK : Cl y.kh y.kd) (hV : Cl y.vh y.vd) (hH : Clh y.hs) :
    Calls Tryz.prog 8 #[recV y a1 cap1, recV y a2 cap2] w fun e w' => e = .returned (.bool true) ∧ Below w.heap.size w w' := by
  obtain ⟨t, kh, kd, vh, vd, hs⟩ := y
  simp only [recV] at *
  have C1 := hid (fun x (hx : Below w.heap.size w x) => xsame_yes t kh vh kd vd hs a1 a2 cap1 cap2 x (V1.below hx) (V2.below hx) hz)
  have C2 := hid (fun x (hx : Below w.heap.size w x) => xclean_yes t kh vh kd vd hs a1 cap1 x (V1.below hx) hz (bd_cl hK) (bd_cl hV) (fun j hj => bd_cl (hH _ (by rw [List.getD_eq_getElem?_getD, List.getElem?_eq_getElem hj, Option.getD_some]; exact List.getElem_mem hj))))
  clear V1 V2 hz hK hV hH
  go_enter Tryz.func8, Tryz.ntmps8
  go_wp2_with fail
  have h1 : ((w.alloc (.cells #[.int .i64 t, .bool kh, .string kd, .bool vh, .string vd, .slice a1 hs.length cap1] 27)).alloc (.cells #[.int .i64 t, .bool kh, .string kd, .bool vh, .string vd, .slice a2 hs.length cap2] 27)).heap[w.heap.size]? = some (.cells #[.int .i64 t, .bool kh, .string kd, .bool vh, .string vd, .slice a1 hs.length cap1] 27 (0, 0)) := heap_alloc_at (heap_new _ _)
  have hb1 : Below w.heap.size w ((w.alloc (.cells #[.int .i64 t, .bool kh, .string kd, .bool vh, .string vd, .slice a1 hs.length cap1] 27)).alloc (.cells #[.int .i64 t, .bool kh, .string kd, .bool vh, .string vd, .slice a2 hs.length cap2] 27)) := ((Below.refl _ w).alloc (Nat.le_refl _) _).alloc (by simp) _
  generalize ((w.alloc (.cells #[.int .i64 t, .bool kh, .string kd, .bool vh, .string vd, .slice a1 hs.length cap1] 27)).alloc (.cells #[.int .i64 t, .bool kh, .string kd, .bool vh, .string vd, .slice a2 hs.length cap2] 27)) = W2 at *
  refine (C1.out _ hb1).mono ?_
  rintro e w1 ⟨rfl, hb2⟩
  obtain ⟨c0, c1, c2, c3, c4, c5⟩ := cells6 ((hb2.block _ (lt_of_heap h1)).trans h1)
  have HB2 := hid (bel_next hb1 (Nat.le_refl _) hb2)
  clear h1 hb1 hb2
  go_wp2_with fail
  refine (C2.out _ HB2.out).mono ?_
  rintro e w2 ⟨rfl, hb3⟩
  have HB3 := hid (bel_next HB2.out (Nat.le_refl _) hb3)
  clear hb3
  go_wp2_with fail
  go_ret
  exact ⟨rfl, HB3.out⟩
set_option maxHeartbeats 1000000 in
set_option maxRecDepth 20000 in
theorem reads_walk (s : ByteArray) (first n : Int) (w : World) (hs : s.size ≤ 9223372036854775807) (f1 : -9223372036854775808 ≤ first) (f2 : first ≤ 9223372036854775807) (_n1 : -9223372036854775808 ≤ n) (_n2 : n ≤ 9223372036854775807) :
    Calls Tryz.prog 3 #[.string s, .int .i64 first, .int .i64 n] w fun e w' => e = .returned (.bool true) ∧ Below w.heap.size w w' := by
  have CR := hid (fun x => read5_any s first n x hs ⟨f1, f2⟩)
  have CX := hid (fun x => xread_any s first n x hs ⟨f1, f2⟩)
  have CFm := hid (fun x => forms_any x)
  have HG : Hid (∀ y, rd5 s first n = .ok y → Good first y.1) := fun y h => by
    unfold rd5 at h
    by_cases hn : 0 ≤ n ∧ n < 65536
    · rw [if_neg (by simpa using hn)] at h
      exact ((nxt_iff hs (Nat.zero_le _) (by omega)).1 h).2.2.1
    · rw [if_pos hn] at h; cases h
  clear hs f1 f2 _n1 _n2
  generalize rd5 s first n = R at *
  go_enter Tryz.func3, Tryz.ntmps3
  go_wp2_with fail
  refine (CFm.out _).mono ?_
  rintro e w1 ⟨rfl, hb1⟩
  have HB1 := hid hb1
  clear hb1
  go_wp2_with fail
  refine (CR.out _).mono ?_
  rintro e w2 ⟨hb2, hm2⟩
  have HB2 := hid (bel_next HB1.out (Nat.le_refl _) hb2)
  clear hb2
  cases R with
  | error x =>
    obtain ⟨rfl, hx⟩ := hm2
    have CC := hid (fun z => lclean_yes ⟨0, false, ⟨#[]⟩, false, ⟨#[]⟩, []⟩ none none 0 0 z (Or.inl rfl) (Or.inl rfl) (by simp) (fun _ => rfl) (fun _ => rfl) (fun x hx => by simp at hx))
    simp only [recV, List.length_nil] at CC
    clear hx
    unfold noRec
    go_wp2_with fail
    have g2 : (w2.alloc (.cells #[.int .i64 0, .bool false, .string ⟨#[]⟩, .bool false, .string ⟨#[]⟩, .slice none 0 0] 27)).heap[w2.heap.size]? = some (.cells #[.int .i64 0, .bool false, .string ⟨#[]⟩, .bool false, .string ⟨#[]⟩, .slice none 0 0] 27 (0, 0)) := heap_new _ _
    have hbb : Below w2.heap.size w2 (w2.alloc (.cells #[.int .i64 0, .bool false, .string ⟨#[]⟩, .bool false, .string ⟨#[]⟩, .slice none 0 0] 27)) := (Below.refl _ _).alloc (Nat.le_refl _) _
    generalize (w2.alloc (.cells #[.int .i64 0, .bool false, .string ⟨#[]⟩, .bool false, .string ⟨#[]⟩, .slice none 0 0] 27)) = w2' at *
    have HB2' := hid (bel_next HB2.out (Nat.le_refl _) hbb)
    have G2 := hid g2
    clear g2 hbb
    refine (CX.out _).mono ?_
    rintro e w3 ⟨hb3, rfl, _⟩
    have g3 := heap_alloc_at (o' := .cells #[.int .i64 0, .bool false, .string ⟨#[]⟩, .bool false, .string ⟨#[]⟩, .slice none 0 0] 27) ((hb3.block _ (lt_of_heap G2.out)).trans G2.out)
    obtain ⟨c0, c1, c2, c3, c4, c5⟩ := cells6 g3
    have HB3 := hid ((bel_next HB2'.out (Nat.le_refl _) hb3).alloc (bel_next HB2'.out (Nat.le_refl _) hb3).size (.cells #[.int .i64 0, .bool false, .string ⟨#[]⟩, .bool false, .string ⟨#[]⟩, .slice none 0 0] 27))
    have hlt := Nat.lt_of_lt_of_le (lt_of_heap G2.out) hb3.size
    have hne3 : w2.heap.size ≠ w3.heap.size := by omega
    clear g3 hb3 
    unfold noRec
    go_wp2_with fail
    refine (CC.out _).mono ?_
    rintro e w5 ⟨rfl, hb5⟩
    have HB5 := hid (bel_next HB3.out (Nat.le_refl _) hb5)
    clear hb5
    go_wp2_with fail
    go_ret
    exact ⟨rfl, HB5.out⟩
  | ok y =>
    obtain ⟨a, cap, rfl, ho2⟩ := hm2
    obtain ⟨a', cap', he, _, VA⟩ := OwnH.slice ho2
    injection he with he1 _ he2
    subst he1 he2
    obtain ⟨h1, h2, h3, h4, h5, h6⟩ := HG.out y rfl
    obtain ⟨⟨t, kh, kd, vh, vd, hs⟩, k⟩ := y
    have CC := hid (fun a2 cap2 z V1 V2 => lclean_yes ⟨t, kh, kd, vh, vd, hs⟩ a a2 cap cap2 z V1 V2 (by show hs.length ≤ _; have : hs.length ≤ 1024 := h5; omega) h3 h4 h6)
    have V2 := hid VA
    clear h1 h2 h3 h4 h5 h6 VA ho2 HG
    simp only [recV] at *
    go_wp2_with fail
    have g2 : (w2.alloc (.cells #[.int .i64 t, .bool kh, .string kd, .bool vh, .string vd, .slice a hs.length cap] 27)).heap[w2.heap.size]? = some (.cells #[.int .i64 t, .bool kh, .string kd, .bool vh, .string vd, .slice a hs.length cap] 27 (0, 0)) := heap_new _ _
    have hbb : Below w2.heap.size w2 (w2.alloc (.cells #[.int .i64 t, .bool kh, .string kd, .bool vh, .string vd, .slice a hs.length cap] 27)) := (Below.refl _ _).alloc (Nat.le_refl _) _
    generalize (w2.alloc (.cells #[.int .i64 t, .bool kh, .string kd, .bool vh, .string vd, .slice a hs.length cap] 27)) = w2' at *
    have VV := hid (V2.out.below hbb)
    have HB2' := hid (bel_next HB2.out (Nat.le_refl _) hbb)
    have G2 := hid g2
    clear g2 hbb
    refine (CX.out _).mono ?_
    rintro e w3 ⟨hb3, a2, cap2, rfl, ho3⟩
    obtain ⟨a', cap', he, _, VB⟩ := OwnH.slice ho3
    injection he with he1 _ he2
    subst he1 he2
    have VV3 := hid ((VV.out.below hb3).below ((Below.refl _ w3).alloc (Nat.le_refl _) (.cells #[.int .i64 t, .bool kh, .string kd, .bool vh, .string vd, .slice a2 hs.length cap2] 27)))
    have VB3 := hid (VB.below ((Below.refl _ w3).alloc (Nat.le_refl _) (.cells #[.int .i64 t, .bool kh, .string kd, .bool vh, .string vd, .slice a2 hs.length cap2] 27)))
    have g3 := heap_alloc_at (o' := .cells #[.int .i64 t, .bool kh, .string kd, .bool vh, .string vd, .slice a2 hs.length cap2] 27) ((hb3.block _ (lt_of_heap G2.out)).trans G2.out)
    obtain ⟨c0, c1, c2, c3, c4, c5⟩ := cells6 g3
    have HB3 := hid ((bel_next HB2'.out (Nat.le_refl _) hb3).alloc (bel_next HB2'.out (Nat.le_refl _) hb3).size (.cells #[.int .i64 t, .bool kh, .string kd, .bool vh, .string vd, .slice a2 hs.length cap2] 27))
    have hlt := Nat.lt_of_lt_of_le (lt_of_heap G2.out) hb3.size
    have hne3 : w2.heap.size ≠ w3.heap.size := by omega
    clear g3 hb3 VB ho3
    simp only [recV]
    go_wp2_with fail
    refine (CC.out _ _ _ VV3.out VB3.out).mono ?_
    rintro e w5 ⟨rfl, hb5⟩
    have HB5 := hid (bel_next HB3.out (Nat.le_refl _) hb5)
    clear hb5
    go_wp2_with fail
    go_ret
    exact ⟨rfl, HB5.out⟩
end Go.Proofs.YtafogjilheniiaaGreat
