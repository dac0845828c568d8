/- Append. -/
import Derived.Test.YthjbhfhdepepmaaDop
import Derived.Test.YthjbhfhdepepmaaDfr
namespace Go.Proofs.Ythjbhfhdepepmaa
open Go.RowKit
/-- How many bytes an append lays down. -/
def apN (o : Option (List UInt8 × Nat)) (rm t : Nat) (s : ByteArray) : Nat := match o with | none => 0 | some x => min (min s.size (rm - t)) (1073741824 - x.1.length)
def apE (o : Option (List UInt8 × Nat)) (rm t : Nat) (s : ByteArray) : Nat := match o with | none => 4 | some _ => if apN o rm t s < s.size then 2 else 0
def apV (nm : ByteArray) (rm : Nat) (s : ByteArray) (V : Vw) : Vw := match vl nm V with | none => V | some x => vset nm (x.1 ++ s.data.toList.take (apN (some x) rm (vt V) s), x.2) V
theorem take_ba (s : ByteArray) (n : Nat) : (ba (s.data.toList.take n)).data.toList = s.data.toList.take n := by simp [ba]
theorem ext_ba (s : ByteArray) (n : Nat) : (s.extract 0 n).data.toList = s.data.toList.take n := by simp [ByteArray.data_extract, Array.toList_extract]
theorem ext_all (s : ByteArray) (n : Nat) (h : s.size ≤ n) : s.data.toList = s.data.toList.take n := by rw [List.take_of_length_le (by rw [← Lib.size_eq]; exact h)]
theorem size_ba (l : List UInt8) : (ba l).size = l.length := by rw [Lib.size_eq]; simp [ba]
set_option maxHeartbeats 1000000 in
set_option maxRecDepth 20000 in
theorem append_any (d : Nat) (m : Option Nat) (rm : Nat) (cl cb : Int) (fs : List Fl) (nm : ByteArray) (s : ByteArray) (hn : nm.size ≤ maxLen) (w : World) (h : Dk w d m rm cl cb fs) :
    Calls Try.prog 30 #[.pointer (some ⟨d, 0, none⟩), .string nm, .string s] w fun e w' => e = .returned (.tuple #[.int .i64 (apN (vl nm (vw fs)) rm (tot fs) s), .int .i64 (apE (vl nm (vw fs)) rm (tot fs) s)]) ∧ Beh w d m fs rm cl cb (apV nm rm s (vw fs)) w' := by
  have HF := Hid.mk (file_any d m rm cl cb fs nm hn w h)
  unfold apV
  rw [vl_vw]
  have HB := Hid.mk (Beh.same h)
  cases hl : look nm fs with
  | none =>
    rw [hl] at HF
    simp only [bkOf] at HF
    clear h hl
    go_enter Try.func30, Try.ntmps30
    go_wp2_with (go_at_call 66; refine HF.out.mono ?_; rintro e w' ⟨rfl, rfl⟩)
    go_ret2
    exact ⟨rfl, HB.out⟩
  | some f =>
    simp only [Option.map_some, vt_vw]
    rw [hl] at HF
    simp only [bkOf] at HF
    have hfm := (look_mem hl).1
    have hF := h.fil f hfm
    have hL := (h.lng f hfm).2
    have hR := h.rom
    have HS := Hid.mk hF
    have c0 := h.c0
    have c1 := h.c1
    have f1 := h.fz 1
    generalize hN : apN (some (f.da, f.sy)) rm (tot fs) s = n
    have hNe : n = min (min s.size (rm - tot fs)) (1073741824 - f.da.length) := hN.symm
    have hsub : (s.data.toList.take n).length = n := by rw [List.length_take, ← Lib.size_eq]; omega
    have hB : ∀ v w', FA w' { f with sl := v, da := f.da ++ s.data.toList.take n } → Ch (FS f) w w' → (v.ownBlock = f.sl.ownBlock ∨ v.ownBlock = some w.heap.size) → Beh w d m fs rm cl cb (vset nm (f.da ++ s.data.toList.take n, f.sy) (vw fs)) (w'.setCell ⟨d, 1, none⟩ (.int .i64 ((tot fs : Int) + n))) := by
      intro v w' h1 h2 h3
      have el : (f.da ++ s.data.toList.take n).length = f.da.length + n := by rw [List.length_append, hsub]
      have hd' : w'.heap[d]? = _ := (h2.block d (lt_of_heap h.blk) (by rintro (e | e); exact h.d_bk hfm e.symm; exact h.d_row hfm e rfl)).trans h.blk
      have hvd : v.ownBlock ≠ some d := by
        rcases h3 with h3 | h3
        · rw [h3]; exact fun e => h.d_row hfm e rfl
        · rw [h3]; intro e; injection e with e; have := lt_of_heap h.blk; omega
      refine h.put (g := { f with sl := v, da := f.da ++ s.data.toList.take n }) hl rfl rfl ⟨heap_set_far h1.1 (show f.bk ≠ d from h.d_bk hfm), own_setCell h1.2 hvd⟩ ((h2.mono (fun i _ hi => Or.inr hi)).setCell _ _ (fun _ => Or.inl rfl)) (h3.imp id (fun h3 => ⟨_, h3, Nat.le_refl _⟩)) ?_ ⟨by show (f.da ++ s.data.toList.take n).length ≤ _; rw [el]; omega, by show f.sy ≤ (f.da ++ s.data.toList.take n).length; rw [el]; omega⟩ ?_
      · show (w'.setCell _ _).heap[d]? = some (.cells #[.int .i64 rm, .int .i64 ((tot fs : Int) + ((f.da ++ s.data.toList.take n).length : Int) - f.da.length), .map m, .int .i64 cl, .int .i64 cb] 107 (0, 0))
        have e : (tot fs : Int) + ((f.da ++ s.data.toList.take n).length : Int) - f.da.length = (tot fs : Int) + n := by rw [el]; omega
        rw [e]
        exact heap_set hd'
      · show tot fs + (f.da ++ s.data.toList.take n).length ≤ rm + f.da.length
        rw [el]
        omega
    have hd' : ∀ w', Ch (FS f) w w' → w'.heap[d]? = some (.cells #[.int .i64 rm, .int .i64 (tot fs), .map m, .int .i64 cl, .int .i64 cb] 107 (0, 0)) := fun w' h2 => (h2.block d (lt_of_heap h.blk) (by rintro (e | e); exact h.d_bk hfm e.symm; exact h.d_row hfm e rfl)).trans h.blk
    have HB2 := Hid.mk hB
    have HD := Hid.mk hd'
    have hLy : ∀ (t : ByteArray) (k : Nat), t.data.toList = s.data.toList.take n → Calls Try.prog 71 #[.pointer (some ⟨f.bk, 0, none⟩), .string t] (w.drewN k) fun e w' => e = .returned (.tuple #[]) ∧ ∃ v, FA w' { f with sl := v, da := f.da ++ s.data.toList.take n } ∧ Ch (FS f) w w' ∧ (v.ownBlock = f.sl.ownBlock ∨ v.ownBlock = some w.heap.size) := by
      intro t k ht
      have hF' : FA (w.drewN k) f := hF
      refine (lay_any f t (w.drewN k) hF' (by rw [Lib.size_eq, ht, hsub]; omega)).mono ?_
      rintro e w' ⟨he, v, h1, h2, h3⟩
      rw [ht] at h1
      exact ⟨he, v, h1, ((Ch.refl (FS f) w).drewN k).trans h2, h3⟩
    have HL := Hid.mk hLy
    obtain ⟨X, hX⟩ : ∃ X : Nat, (rm : Int) - (tot fs : Int) = X := ⟨rm - tot fs, by omega⟩
    obtain ⟨Y, hY⟩ : ∃ Y : Nat, (1073741824 : Int) - (f.da.length : Int) = Y := ⟨1073741824 - f.da.length, by omega⟩
    have hn2 : n = min (min s.size X) Y := by omega
    have hY2 : Y ≤ 1073741824 := by omega
    have hXi : (tot fs : Int) + n ≤ 1099511627776 := by omega
    have hX2 : X ≤ 1099511627776 := by omega
    have HEr : Hid (((if n < s.size then 2 else 0 : Nat) : Int) = if n < s.size then 2 else 0) := by show _ = _; split <;> rfl
    have hE : apE (some (f.da, f.sy)) rm (tot fs) s = if n < s.size then 2 else 0 := by unfold apE; rw [hN]
    rw [hE]
    have hns : n ≤ s.size := by omega
    have ew : IntKind.i64.wrap ((tot fs : Int) + n) = (tot fs : Int) + n := by simp only [IntKind.wrap, IntKind.bits, IntKind.signed, Bool.true_and]; split <;> rename_i h <;> simp at h <;> omega
    have HNE := Hid.mk hn2
    have wr : ∀ z : Int, -9223372036854775808 ≤ z → z ≤ 9223372036854775807 → IntKind.i64.wrap z = z := fun z h1 h2 => by simp only [IntKind.wrap, IntKind.bits, IntKind.signed, Bool.true_and]; split <;> rename_i h <;> simp at h <;> omega
    have eX : IntKind.i64.wrap ((rm : Int) - (tot fs : Int)) = X := by rw [wr _ (by omega) (by omega), hX]
    have eY : IntKind.i64.wrap ((1073741824 : Int) - (f.da.length : Int)) = Y := by rw [wr _ (by omega) (by omega), hY]
    clear wr hX hY hY2 hX2 hXi hn2
    clear h hl hF hL hfm hB hd' HB hN hsub hNe hE hR hLy
    generalize tot fs = T at *
    have fin : (X < s.size ∧ Y < X ∧ n = Y) ∨ (X < s.size ∧ ¬ Y < X ∧ n = X) ∨ (¬ X < s.size ∧ Y < s.size ∧ n = Y) ∨ (¬ X < s.size ∧ ¬ Y < s.size ∧ n = s.size) := by have := HNE.out; omega
    rcases fin with ⟨k1, k2, rfl⟩ | ⟨k1, k2, rfl⟩ | ⟨k1, k2, rfl⟩ | ⟨k1, k2, rfl⟩
    · have k1' : (X : Int) < s.size := by omega
      have k2' : (n : Int) < X := by omega
      have k3 : n < s.size := by omega
      have k3' : (n : Int) < s.size := by omega
      simp only [k3, if_true]
      go_enter Try.func30, Try.ntmps30
      go_wp2_with (go_at_call 66; refine HF.out.mono ?_; rintro e w' ⟨rfl, rfl⟩)
      go_quiet ((go_at_call 70; exact Calls.quiet_of_same (fsize_any f _ HS.out)))
      go_wp2_with (go_at_call 71; refine (HL.out _ _ ?_).mono ?_; (first | exact ext_ba _ _ | exact ext_all _ _ (by omega)); rintro e w1 ⟨rfl, v, hf1, hc1, hv1⟩; have hd1 := HD.out _ hc1; have q1 : w1.cell? ⟨d, 1, none⟩ = some (.int .i64 T) := (cell_of hd1).trans rfl; have q2 := froz_of (i := 1) hd1; have HV := Hid.mk hv1; have HF1 := Hid.mk hf1; have HC1 := Hid.mk hc1; clear hd1 hv1 hf1 hc1)
      go_ret2
      exact ⟨rfl, HB2.out _ _ HF1.out HC1.out HV.out⟩
    · have k1' : (n : Int) < s.size := by omega
      have k2' : ¬ (Y : Int) < n := by omega
      have k3 : n < s.size := by omega
      have k3' : (n : Int) < s.size := by omega
      simp only [k3, if_true]
      go_enter Try.func30, Try.ntmps30
      go_wp2_with (go_at_call 66; refine HF.out.mono ?_; rintro e w' ⟨rfl, rfl⟩)
      go_quiet ((go_at_call 70; exact Calls.quiet_of_same (fsize_any f _ HS.out)))
      go_wp2_with (go_at_call 71; refine (HL.out _ _ ?_).mono ?_; (first | exact ext_ba _ _ | exact ext_all _ _ (by omega)); rintro e w1 ⟨rfl, v, hf1, hc1, hv1⟩; have hd1 := HD.out _ hc1; have q1 : w1.cell? ⟨d, 1, none⟩ = some (.int .i64 T) := (cell_of hd1).trans rfl; have q2 := froz_of (i := 1) hd1; have HV := Hid.mk hv1; have HF1 := Hid.mk hf1; have HC1 := Hid.mk hc1; clear hd1 hv1 hf1 hc1)
      go_ret2
      exact ⟨rfl, HB2.out _ _ HF1.out HC1.out HV.out⟩
    · have k1' : ¬ (X : Int) < s.size := by omega
      have k2' : (n : Int) < s.size := by omega
      have k3 : n < s.size := by omega
      have k3' : (n : Int) < s.size := by omega
      simp only [k3, if_true]
      go_enter Try.func30, Try.ntmps30
      go_wp2_with (go_at_call 66; refine HF.out.mono ?_; rintro e w' ⟨rfl, rfl⟩)
      go_quiet ((go_at_call 70; exact Calls.quiet_of_same (fsize_any f _ HS.out)))
      go_wp2_with (go_at_call 71; refine (HL.out _ _ ?_).mono ?_; (first | exact ext_ba _ _ | exact ext_all _ _ (by omega)); rintro e w1 ⟨rfl, v, hf1, hc1, hv1⟩; have hd1 := HD.out _ hc1; have q1 : w1.cell? ⟨d, 1, none⟩ = some (.int .i64 T) := (cell_of hd1).trans rfl; have q2 := froz_of (i := 1) hd1; have HV := Hid.mk hv1; have HF1 := Hid.mk hf1; have HC1 := Hid.mk hc1; clear hd1 hv1 hf1 hc1)
      go_ret2
      exact ⟨rfl, HB2.out _ _ HF1.out HC1.out HV.out⟩
    · have k1' : ¬ (X : Int) < s.size := by omega
      have k2' : ¬ (Y : Int) < s.size := by omega
      simp only [Nat.lt_irrefl, if_false]
      go_enter Try.func30, Try.ntmps30
      go_wp2_with (go_at_call 66; refine HF.out.mono ?_; rintro e w' ⟨rfl, rfl⟩)
      go_quiet ((go_at_call 70; exact Calls.quiet_of_same (fsize_any f _ HS.out)))
      go_wp2_with (go_at_call 71; refine (HL.out _ _ ?_).mono ?_; (first | exact ext_ba _ _ | exact ext_all _ _ (by omega)); rintro e w1 ⟨rfl, v, hf1, hc1, hv1⟩; have hd1 := HD.out _ hc1; have q1 : w1.cell? ⟨d, 1, none⟩ = some (.int .i64 T) := (cell_of hd1).trans rfl; have q2 := froz_of (i := 1) hd1; have HV := Hid.mk hv1; have HF1 := Hid.mk hf1; have HC1 := Hid.mk hc1; clear hd1 hv1 hf1 hc1)
      go_ret2
      exact ⟨rfl, HB2.out _ _ HF1.out HC1.out HV.out⟩
end Go.Proofs.Ythjbhfhdepepmaa
