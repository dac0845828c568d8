/- The document's writer: what its calls write behind what is written. -/
import Derived.Test.YtpfaioncaolmjaaGreatSz
import Derived.Test.YtpfaioncaolmjaaGreatVref
namespace Go.Proofs.YtpfaioncaolmjaaGreat
open Go.RowKit
/-- The document's writer: what is written. -/
def WX (w : World) (p : Nat) (s : ByteArray) : Prop := w.heap[p]? = some (.cells #[.string s] 70 (0, 0))
def LaysX (p : Nat) (s : ByteArray) (w : World) (e : Ending) (w' : World) : Prop := e = .returned (.tuple #[]) ∧ WX w' p s ∧ Ch (fun i => i = p) w w'
theorem WX.c0 {w : World} {p : Nat} {s : ByteArray} (h : WX w p s) : w.cell? ⟨p, 0, none⟩ = some (.string s) := (cell_of h).trans rfl
theorem WX.lt {w : World} {p : Nat} {s : ByteArray} (h : WX w p s) : p < w.heap.size := lt_of_heap h
theorem WX.below {w w' : World} {p : Nat} {s : ByteArray} (h : WX w p s) (hb : Below w.heap.size w w') : WX w' p s := (hb.block p h.lt).trans h
theorem xnewwriter_any (w : World) :
    Calls Tryz.prog 8 #[] w fun e w' => e = .returned (.pointer (some ⟨w.heap.size, 0, none⟩)) ∧ w' = w.alloc (.cells #[.string ⟨#[]⟩] 70) := by
  go_enter Tryz.func8, Tryz.ntmps8
  go_wp2
  go_ret
  exact ⟨rfl, rfl⟩
theorem xwbytes_any (p : Nat) (s : ByteArray) (w : World) (h : WX w p s) :
    Calls Tryz.prog 20 #[.pointer (some ⟨p, 0, none⟩)] w fun e w' => e = .returned (.string s) ∧ w' = w := by
  have c0 := h.c0
  go_enter Tryz.func20, Tryz.ntmps20
  go_wp2
  go_ret
  exact ⟨rfl, rfl⟩
theorem xwraw_any (p : Nat) (s t : ByteArray) (w : World) (h : WX w p s) (hl : s.size + t.size ≤ 9223372036854775807) :
    Calls Tryz.prog 43 #[.pointer (some ⟨p, 0, none⟩), .string t] w (LaysX p (s ++ t) w) := by
  have c0 := h.c0
  have f0 := froz_of (i := 0) h
  have hc : ¬ 9223372036854775807 < s.size + t.size := by omega
  have H := hid h
  clear h hl
  go_enter Tryz.func43, Tryz.ntmps43
  go_wp2
  go_end0
  exact ⟨rfl, heap_set H.out, (Ch.refl _ _).setCell _ _ (fun _ => rfl)⟩
theorem rput1 (z : Nat) (w0 w : World) (h1 : z < 18446744073709551616) (hb : Below w0.heap.size w0 w) :
    Calls Tryz.prog 83 #[.slice (some ⟨w.heap.size, 0, none⟩) 1 1] (w.alloc (.cells #[.int .u64 z] 30)) fun e w' => e = .returned (.string (bs (M.form z))) ∧ Below w0.heap.size w0 w' := by
  have h := rput_any (some ⟨w.heap.size, 0, none⟩) 1 [(z : Int)] (w.alloc (.cells #[.int .u64 z] 30)) (by intro y hy; rw [List.mem_singleton] at hy; subst hy; exact ⟨by omega, by omega⟩) (by simp) (by rw [forms_one]; have := M.form_le (z : Int).toNat; omega) (vals_one .u64 z 30 w)
  rw [forms_one, Int.toNat_natCast] at h
  exact h.mono fun e w' ⟨h1, h2⟩ => ⟨h1, since_alloc hb h2⟩
theorem rsput1 (v : Int) (w0 w : World) (hv : I64 v) (hb : Below w0.heap.size w0 w) :
    Calls Tryz.prog 84 #[.slice (some ⟨w.heap.size, 0, none⟩) 1 1] (w.alloc (.cells #[.int .i64 v] 2)) fun e w' => e = .returned (.string (bs (M.form (M.zz v).toNat))) ∧ Below w0.heap.size w0 w' := by
  have h := rsput_any (some ⟨w.heap.size, 0, none⟩) 1 [v] (w.alloc (.cells #[.int .i64 v] 2)) (by intro y hy; rw [List.mem_singleton] at hy; subst hy; exact hv) (by simp) (by show (forms [M.zz v]).length ≤ _; rw [forms_one]; have := M.form_le (M.zz v).toNat; omega) (vals_one .i64 v 2 w)
  have e : forms (zzs [v]) = M.form (M.zz v).toNat := forms_one _
  rw [e] at h
  exact h.mono fun e w' ⟨h1, h2⟩ => ⟨h1, since_alloc hb h2⟩
set_option maxHeartbeats 1000000 in
set_option maxRecDepth 20000 in
theorem xwuvarint_any (p : Nat) (s : ByteArray) (v : Nat) (w : World) (h : WX w p s) (hv : v < 18446744073709551616) (hl : s.size ≤ 9223372036854775000) :
    Calls Tryz.prog 40 #[.pointer (some ⟨p, 0, none⟩), .int .u64 v] w (LaysX p (s ++ bs (M.form v)) w) := by
  have hfl := M.form_le v
  have hz : (bs (M.form v)).size = (M.form v).length := bs_size _
  have hc : ¬ 9223372036854775807 < s.size + (bs (M.form v)).size := by omega
  have C := hid (rput1 v w w hv (Below.refl _ _))
  have H := hid h
  clear h hl hz hfl
  generalize bs (M.form v) = F at *
  go_enter Tryz.func40, Tryz.ntmps40
  go_wp2_with fail
  refine C.out.mono ?_
  rintro e w1 ⟨rfl, hb1⟩
  have h1 := H.out.below hb1
  have c0 := h1.c0
  have f0 := froz_of (i := 0) h1
  have H1 := hid h1
  have HB := hid hb1
  clear h1 hb1
  go_wp2_with fail
  go_end0
  exact ⟨rfl, heap_set H1.out, (Ch.of_below HB.out).setCell _ _ (fun _ => rfl)⟩
set_option maxHeartbeats 1000000 in
set_option maxRecDepth 20000 in
theorem xwvarint_any (p : Nat) (s : ByteArray) (v : Int) (w : World) (h : WX w p s) (hv : I64 v) (hl : s.size ≤ 9223372036854775000) :
    Calls Tryz.prog 41 #[.pointer (some ⟨p, 0, none⟩), .int .i64 v] w (LaysX p (s ++ bs (M.form (M.zz v).toNat)) w) := by
  have hfl := M.form_le (M.zz v).toNat
  have hz : (bs (M.form (M.zz v).toNat)).size = (M.form (M.zz v).toNat).length := bs_size _
  have hc : ¬ 9223372036854775807 < s.size + (bs (M.form (M.zz v).toNat)).size := by omega
  have C := hid (rsput1 v w w hv (Below.refl _ _))
  have H := hid h
  clear h hl hz hfl hv
  generalize bs (M.form (M.zz v).toNat) = F at *
  go_enter Tryz.func41, Tryz.ntmps41
  go_wp2_with fail
  refine C.out.mono ?_
  rintro e w1 ⟨rfl, hb1⟩
  have h1 := H.out.below hb1
  have c0 := h1.c0
  have f0 := froz_of (i := 0) h1
  have H1 := hid h1
  have HB := hid hb1
  clear h1 hb1
  go_wp2_with fail
  go_end0
  exact ⟨rfl, heap_set H1.out, (Ch.of_below HB.out).setCell _ _ (fun _ => rfl)⟩
end Go.Proofs.YtpfaioncaolmjaaGreat
