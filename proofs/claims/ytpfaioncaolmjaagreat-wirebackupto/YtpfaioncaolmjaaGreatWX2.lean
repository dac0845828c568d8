/- The document's writer: texts, and texts that may be null. -/
import Derived.Test.YtpfaioncaolmjaaGreatWX
namespace Go.Proofs.YtpfaioncaolmjaaGreat
open Go.RowKit
theorem bs_app (l m : List Nat) : bs (l ++ m) = bs l ++ bs m := by
  unfold bs
  apply ByteArray.ext
  rw [ByteArray.data_append]
  simp
theorem bs_tx (t : ByteArray) : bs (tx t) = bs (M.form t.size) ++ t := by unfold tx; rw [bs_app, bs_bl]
theorem bs_ol (t : ByteArray) : bs (ol true t) = bs (M.form (2 * t.size)) ++ t := by unfold ol; rw [if_pos rfl, bs_app, bs_bl]
set_option maxHeartbeats 1000000 in
set_option maxRecDepth 20000 in
theorem xwtx_any (p : Nat) (s t : ByteArray) (w : World) (h : WX w p s) (hl : s.size + t.size ≤ 9223372036854775000) :
    Calls Tryz.prog 45 #[.pointer (some ⟨p, 0, none⟩), .string t] w (LaysX p (s ++ bs (tx t)) w) := by
  rw [bs_tx, ← ByteArray.append_assoc]
  have hfl := M.form_le t.size
  have hz : (s ++ bs (M.form t.size)).size = s.size + (M.form t.size).length := by rw [ByteArray.size_append, bs_size]
  have hw : IntKind.u64.wrap (t.size : Int) = t.size := by rw [IntKind.wrap_u64]; omega
  have C1 := hid (xwuvarint_any p s t.size w h (by omega) (by omega))
  have C2 := hid (fun x h => xwraw_any p (s ++ bs (M.form t.size)) t x h (by omega))
  clear h hl hz hfl
  generalize s ++ bs (M.form t.size) = S1 at *
  go_enter Tryz.func45, Tryz.ntmps45
  go_wp2_with fail
  refine C1.out.mono ?_
  rintro e w1 ⟨rfl, h1, hc1⟩
  go_wp2_with fail
  refine (C2.out _ h1).mono ?_
  rintro e w2 ⟨rfl, h2, hc2⟩
  go_wp2_with fail
  go_end0
  exact ⟨rfl, h2, hc1.trans hc2⟩
set_option maxHeartbeats 1000000 in
set_option maxRecDepth 20000 in
theorem xwol_any (p : Nat) (s : ByteArray) (b : Bool) (t : ByteArray) (w : World) (h : WX w p s) (hl : s.size + t.size ≤ 9223372036854775000) (hl2 : t.size ≤ 1000000000000000000) :
    Calls Tryz.prog 47 #[.pointer (some ⟨p, 0, none⟩), .agg #[.bool b, .string t]] w (LaysX p (s ++ bs (ol b t)) w) := by
  have hlp := h.lt
  cases b with
  | false =>
    have C1 := hid (fun x h => xwvarint_any p s (-1) x h ⟨by omega, by omega⟩ (by omega))
    have H := hid h
    clear h hl hl2
    go_enter Tryz.func47, Tryz.ntmps47
    go_wp2_with fail
    refine (C1.out _ (heap_alloc_at H.out)).mono ?_
    rintro e w1 ⟨rfl, h1, hc1⟩
    go_wp2_with fail
    first | go_end0 | refine bodyPost_ret (results_none rfl _ _ _) rfl ?_
    exact ⟨rfl, h1, ((Ch.refl _ _).alloc _).trans hc1⟩
  | true =>
    rw [bs_ol, ← ByteArray.append_assoc]
    have hfl := M.form_le (2 * t.size)
    have hz : (s ++ bs (M.form (2 * t.size))).size = s.size + (M.form (2 * t.size)).length := by rw [ByteArray.size_append, bs_size]
    have c1 := fun x h => xwvarint_any p s (t.size : Int) x h ⟨by omega, by omega⟩ (by omega)
    rw [zz_nat] at c1
    have C1 := hid c1
    have C2 := hid (fun x h => xwraw_any p (s ++ bs (M.form (2 * t.size))) t x h (by omega))
    have H := hid h
    clear h hl hl2 hz hfl c1
    generalize s ++ bs (M.form (2 * t.size)) = S1 at *
    go_enter Tryz.func47, Tryz.ntmps47
    go_wp2_with fail
    refine (C1.out _ (heap_alloc_at H.out)).mono ?_
    rintro e w1 ⟨rfl, h1, hc1⟩
    have gv : w1.heap[w.heap.size]? = some (.cells #[.bool true, .string t] 76 (0, 0)) := (hc1.block _ (by simp) (by omega)).trans (heap_new _ _)
    have c8 : w1.cell? ⟨w.heap.size, 1, none⟩ = some (.string t) := (cell_of gv).trans rfl
    have HC1 := hid hc1
    have H1 := hid h1
    clear gv hc1 h1
    go_wp2_with fail
    refine (C2.out _ H1.out).mono ?_
    rintro e w2 ⟨rfl, h2, hc2⟩
    go_wp2_with fail
    go_end0
    exact ⟨rfl, h2, (((Ch.refl _ _).alloc _).trans HC1.out).trans hc2⟩
end Go.Proofs.YtpfaioncaolmjaaGreat
