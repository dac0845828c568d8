/- Texts of the proof, put together: WX, WX2, WX3, WX4, RBy, RBz. -/
import Derived.Test.YtihokphamgkkcaaGreatSz
import Derived.Test.YtihokphamgkkcaaGreatVref
import Derived.Deep.OwnRows
import Derived.Deep.RegionLaw
import Derived.Test.YtihokphamgkkcaaGreatMR
namespace Go.Proofs.YtihokphamgkkcaaGreat
open Go.RowKit
/-- The document's writer: what is written. -/
def WX (w : World) (p : Nat) (s : ByteArray) : Prop := w.heap[p]? = some (.cells #[.string s] 140 (0, 0))
def LaysX (p : Nat) (s : ByteArray) (w : World) (e : Ending) (w' : World) : Prop := e = .returned (.tuple #[]) ∧ WX w' p s ∧ Ch (fun i => i = p) w w'
theorem WX.c0 {w : World} {p : Nat} {s : ByteArray} (h : WX w p s) : w.cell? ⟨p, 0, none⟩ = some (.string s) := (cell_of h).trans rfl
theorem WX.lt {w : World} {p : Nat} {s : ByteArray} (h : WX w p s) : p < w.heap.size := lt_of_heap h
theorem WX.below {w w' : World} {p : Nat} {s : ByteArray} (h : WX w p s) (hb : Below w.heap.size w w') : WX w' p s := (hb.block p h.lt).trans h
theorem xnewwriter_any (w : World) :
    Calls Tryz.prog 54 #[] w fun e w' => e = .returned (.pointer (some ⟨w.heap.size, 0, none⟩)) ∧ w' = w.alloc (.cells #[.string ⟨#[]⟩] 140) := by
  go_enter Tryz.func54, Tryz.ntmps54
  go_wp2
  go_ret
  exact ⟨rfl, rfl⟩
theorem xwat_any (p : Nat) (s : ByteArray) (w : World) (h : WX w p s) :
    Calls Tryz.prog 61 #[.pointer (some ⟨p, 0, none⟩)] w fun e w' => e = .returned (.int .i64 s.size) ∧ w' = w := by
  have c0 := h.c0
  go_enter Tryz.func61, Tryz.ntmps61
  go_wp2
  go_ret
  exact ⟨rfl, rfl⟩
theorem xwbytes_any (p : Nat) (s : ByteArray) (w : World) (h : WX w p s) :
    Calls Tryz.prog 60 #[.pointer (some ⟨p, 0, none⟩)] w fun e w' => e = .returned (.string s) ∧ w' = w := by
  have c0 := h.c0
  go_enter Tryz.func60, Tryz.ntmps60
  go_wp2
  go_ret
  exact ⟨rfl, rfl⟩
theorem xwraw_any (p : Nat) (s t : ByteArray) (w : World) (h : WX w p s) (hl : s.size + t.size ≤ 9223372036854775807) :
    Calls Tryz.prog 98 #[.pointer (some ⟨p, 0, none⟩), .string t] w (LaysX p (s ++ t) w) := by
  have c0 := h.c0
  have f0 := froz_of (i := 0) h
  have hc : ¬ 9223372036854775807 < s.size + t.size := by omega
  have H := hid h
  clear h hl
  go_enter Tryz.func98, Tryz.ntmps98
  go_wp2
  go_end0
  exact ⟨rfl, heap_set H.out, (Ch.refl _ _).setCell _ _ (fun _ => rfl)⟩
theorem rput1 (z : Nat) (w0 w : World) (h1 : z < 18446744073709551616) (hb : Below w0.heap.size w0 w) :
    Calls Tryz.prog 97 #[.slice (some ⟨w.heap.size, 0, none⟩) 1 1] (w.alloc (.cells #[.int .u64 z] 65)) fun e w' => e = .returned (.string (bs (M.form z))) ∧ Below w0.heap.size w0 w' := by
  have h := rput_any (some ⟨w.heap.size, 0, none⟩) 1 [(z : Int)] (w.alloc (.cells #[.int .u64 z] 65)) (by intro y hy; rw [List.mem_singleton] at hy; subst hy; exact ⟨by omega, by omega⟩) (by simp) (by rw [forms_one]; have := M.form_le (z : Int).toNat; omega) (vals_one .u64 z 65 w)
  rw [forms_one, Int.toNat_natCast] at h
  exact h.mono fun e w' ⟨h1, h2⟩ => ⟨h1, since_alloc hb h2⟩
theorem rsput1 (v : Int) (w0 w : World) (hv : I64 v) (hb : Below w0.heap.size w0 w) :
    Calls Tryz.prog 96 #[.slice (some ⟨w.heap.size, 0, none⟩) 1 1] (w.alloc (.cells #[.int .i64 v] 2)) fun e w' => e = .returned (.string (bs (M.form (M.zz v).toNat))) ∧ Below w0.heap.size w0 w' := by
  have h := rsput_any (some ⟨w.heap.size, 0, none⟩) 1 [v] (w.alloc (.cells #[.int .i64 v] 2)) (by intro y hy; rw [List.mem_singleton] at hy; subst hy; exact hv) (by simp) (by show (forms [M.zz v]).length ≤ _; rw [forms_one]; have := M.form_le (M.zz v).toNat; omega) (vals_one .i64 v 2 w)
  have e : forms (zzs [v]) = M.form (M.zz v).toNat := forms_one _
  rw [e] at h
  exact h.mono fun e w' ⟨h1, h2⟩ => ⟨h1, since_alloc hb h2⟩
set_option maxHeartbeats 1000000 in
set_option maxRecDepth 20000 in
theorem xwuvarint_any (p : Nat) (s : ByteArray) (v : Nat) (w : World) (h : WX w p s) (hv : v < 18446744073709551616) (hl : s.size ≤ 9223372036854775000) :
    Calls Tryz.prog 57 #[.pointer (some ⟨p, 0, none⟩), .int .u64 v] w (LaysX p (s ++ bs (M.form v)) w) := by
  have hfl := M.form_le v
  have hz : (bs (M.form v)).size = (M.form v).length := bs_size _
  have hc : ¬ 9223372036854775807 < s.size + (bs (M.form v)).size := by omega
  have C := hid (rput1 v w w hv (Below.refl _ _))
  have H := hid h
  clear h hl hz hfl
  generalize bs (M.form v) = F at *
  go_enter Tryz.func57, Tryz.ntmps57
  go_wp2_with fail
  refine C.out.mono ?_
  rintro e w1 ⟨rfl, hb1⟩
  have h1 := H.out.below hb1
  have c0 := h1.c0
  have f0 := froz_of (i := 0) h1
  have H1 := hid h1
  have HB := hid hb1
  clear h1 hb1
  go_wp2_with fail
  go_end0
  exact ⟨rfl, heap_set H1.out, (Ch.of_below HB.out).setCell _ _ (fun _ => rfl)⟩
set_option maxHeartbeats 1000000 in
set_option maxRecDepth 20000 in
theorem xwvarint_any (p : Nat) (s : ByteArray) (v : Int) (w : World) (h : WX w p s) (hv : I64 v) (hl : s.size ≤ 9223372036854775000) :
    Calls Tryz.prog 56 #[.pointer (some ⟨p, 0, none⟩), .int .i64 v] w (LaysX p (s ++ bs (M.form (M.zz v).toNat)) w) := by
  have hfl := M.form_le (M.zz v).toNat
  have hz : (bs (M.form (M.zz v).toNat)).size = (M.form (M.zz v).toNat).length := bs_size _
  have hc : ¬ 9223372036854775807 < s.size + (bs (M.form (M.zz v).toNat)).size := by omega
  have C := hid (rsput1 v w w hv (Below.refl _ _))
  have H := hid h
  clear h hl hz hfl hv
  generalize bs (M.form (M.zz v).toNat) = F at *
  go_enter Tryz.func56, Tryz.ntmps56
  go_wp2_with fail
  refine C.out.mono ?_
  rintro e w1 ⟨rfl, hb1⟩
  have h1 := H.out.below hb1
  have c0 := h1.c0
  have f0 := froz_of (i := 0) h1
  have H1 := hid h1
  have HB := hid hb1
  clear h1 hb1
  go_wp2_with fail
  go_end0
  exact ⟨rfl, heap_set H1.out, (Ch.of_below HB.out).setCell _ _ (fun _ => rfl)⟩
end Go.Proofs.YtihokphamgkkcaaGreat
namespace Go.Proofs.YtihokphamgkkcaaGreat
open Go.RowKit
theorem bs_app (l m : List Nat) : bs (l ++ m) = bs l ++ bs m := by
  unfold bs
  apply ByteArray.ext
  rw [ByteArray.data_append]
  simp
theorem bs_tx (t : ByteArray) : bs (tx t) = bs (M.form t.size) ++ t := by unfold tx; rw [bs_app, bs_bl]
theorem bs_ol (t : ByteArray) : bs (ol true t) = bs (M.form (2 * t.size)) ++ t := by unfold ol; rw [if_pos rfl, bs_app, bs_bl]
set_option maxHeartbeats 1000000 in
set_option maxRecDepth 20000 in
theorem xwtx_any (p : Nat) (s t : ByteArray) (w : World) (h : WX w p s) (hl : s.size + t.size ≤ 9223372036854775000) :
    Calls Tryz.prog 59 #[.pointer (some ⟨p, 0, none⟩), .string t] w (LaysX p (s ++ bs (tx t)) w) := by
  rw [bs_tx, ← ByteArray.append_assoc]
  have hfl := M.form_le t.size
  have hz : (s ++ bs (M.form t.size)).size = s.size + (M.form t.size).length := by rw [ByteArray.size_append, bs_size]
  have hw : IntKind.u64.wrap (t.size : Int) = t.size := by rw [IntKind.wrap_u64]; omega
  have C1 := hid (xwuvarint_any p s t.size w h (by omega) (by omega))
  have C2 := hid (fun x h => xwraw_any p (s ++ bs (M.form t.size)) t x h (by omega))
  clear h hl hz hfl
  generalize s ++ bs (M.form t.size) = S1 at *
  go_enter Tryz.func59, Tryz.ntmps59
  go_wp2_with fail
  refine C1.out.mono ?_
  rintro e w1 ⟨rfl, h1, hc1⟩
  go_wp2_with fail
  refine (C2.out _ h1).mono ?_
  rintro e w2 ⟨rfl, h2, hc2⟩
  go_wp2_with fail
  go_end0
  exact ⟨rfl, h2, hc1.trans hc2⟩
set_option maxHeartbeats 1000000 in
set_option maxRecDepth 20000 in
theorem xwol_any (p : Nat) (s : ByteArray) (b : Bool) (t : ByteArray) (w : World) (h : WX w p s) (hl : s.size + t.size ≤ 9223372036854775000) (hl2 : t.size ≤ 1000000000000000000) :
    Calls Tryz.prog 58 #[.pointer (some ⟨p, 0, none⟩), .agg #[.bool b, .string t]] w (LaysX p (s ++ bs (ol b t)) w) := by
  have hlp := h.lt
  cases b with
  | false =>
    have C1 := hid (fun x h => xwvarint_any p s (-1) x h ⟨by omega, by omega⟩ (by omega))
    have H := hid h
    clear h hl hl2
    go_enter Tryz.func58, Tryz.ntmps58
    go_wp2_with fail
    refine (C1.out _ (heap_alloc_at H.out)).mono ?_
    rintro e w1 ⟨rfl, h1, hc1⟩
    go_wp2_with fail
    first | go_end0 | refine bodyPost_ret (results_none rfl _ _ _) rfl ?_
    exact ⟨rfl, h1, ((Ch.refl _ _).alloc _).trans hc1⟩
  | true =>
    rw [bs_ol, ← ByteArray.append_assoc]
    have hfl := M.form_le (2 * t.size)
    have hz : (s ++ bs (M.form (2 * t.size))).size = s.size + (M.form (2 * t.size)).length := by rw [ByteArray.size_append, bs_size]
    have c1 := fun x h => xwvarint_any p s (t.size : Int) x h ⟨by omega, by omega⟩ (by omega)
    rw [zz_nat] at c1
    have C1 := hid c1
    have C2 := hid (fun x h => xwraw_any p (s ++ bs (M.form (2 * t.size))) t x h (by omega))
    have H := hid h
    clear h hl hl2 hz hfl c1
    generalize s ++ bs (M.form (2 * t.size)) = S1 at *
    go_enter Tryz.func58, Tryz.ntmps58
    go_wp2_with fail
    refine (C1.out _ (heap_alloc_at H.out)).mono ?_
    rintro e w1 ⟨rfl, h1, hc1⟩
    have gv : w1.heap[w.heap.size]? = some (.cells #[.bool true, .string t] 46 (0, 0)) := (hc1.block _ (by simp) (by omega)).trans (heap_new _ _)
    have c8 : w1.cell? ⟨w.heap.size, 1, none⟩ = some (.string t) := (cell_of gv).trans rfl
    have HC1 := hid hc1
    have H1 := hid h1
    clear gv hc1 h1
    go_wp2_with fail
    refine (C2.out _ H1.out).mono ?_
    rintro e w2 ⟨rfl, h2, hc2⟩
    go_wp2_with fail
    go_end0
    exact ⟨rfl, h2, (((Ch.refl _ _).alloc _).trans HC1.out).trans hc2⟩
end Go.Proofs.YtihokphamgkkcaaGreat
namespace Go.Proofs.YtihokphamgkkcaaGreat
open Go.RowKit
theorem one_row {w : World} {g V : Nat} (h : w.heap[g]? = some (.cells #[.int .u8 V] 5 (0, 0))) : w.ownsRow g 5 1 (.slice (some ⟨g, 0, none⟩) 1 1) 1 (bc [V]) :=
  ⟨rfl, Or.inr ⟨g, 1, _, rfl, Nat.le_refl _, h, Nat.le_refl _, by unfold maxLen; omega, rfl, rfl⟩⟩
set_option maxHeartbeats 1000000 in
set_option maxRecDepth 20000 in
theorem xnumber1_any (V : Nat) (w : World) (hV : V < 256) :
    Calls Tryz.prog 95 #[.int .u64 V, .int .i64 1] w fun e w' => e = .returned (.string (bs [V])) ∧ Below w.heap.size w w' := by
  have e0 : madeCells #[Value.int .u8 0] 1 = #[Value.int .u8 0] := by kernel_rfl
  have hmk : (Instr.makeSlice 63 (.int .i64 1) (.int .i64 1)).run Tryz.prog w = .ok (.slice (some ⟨w.heap.size, 0, none⟩) 1 1) (w.alloc (.cells #[.int .u8 0] 5)) := by
    rw [← e0]
    exact Go.run_make_row' (P := Tryz.prog) 63 5 (.int .u8 0) 1 Tryz.underBytes Tryz.info5 rfl .i64 .i64 1 (by omega) (by omega) w
  clear e0
  have hw : IntKind.u8.wrap ((V : Int) % 256) = V := by rw [IntKind.wrap_u8]; omega
  have hm : (V : Int) % 256 = V := by omega
  go_enter Tryz.func95, Tryz.ntmps95
  go_wp2_with fail
  have g0 : (w.alloc (.cells #[.int .u8 0] 5)).heap[w.heap.size]? = some (.cells #[.int .u8 0] 5 (0, 0)) := heap_new _ _
  have b0 : Below w.heap.size w (w.alloc (.cells #[.int .u8 0] 5)) := (Below.refl _ w).alloc (Nat.le_refl _) _
  clear hmk
  generalize w.alloc (.cells #[.int .u8 0] 5) = W at *
  go_loopg [0, 6] 1 (fun k x i wr => (k = 1 ∧ i = .int .i64 0 ∧ x = .int .u64 V ∧ wr.heap[w.heap.size]? = some (.cells #[.int .u8 0] 5 (0, 0)) ∧ Below w.heap.size w wr) ∨ (k = 0 ∧ i = .int .i64 (-1) ∧ x = .int .u64 ((V : Int) / 256) ∧ wr.heap[w.heap.size]? = some (.cells #[.int .u8 V] 5 (0, 0)) ∧ Below w.heap.size w wr))
  case atStart => exact Or.inl ⟨rfl, by first | rfl | go_num, rfl, g0, b0⟩
  case round =>
    clear g0 b0
    rcases hrel with ⟨rfl, rfl, rfl, hg, hb⟩ | ⟨rfl, rfl, rfl, hg, hb⟩
    · have c0 : wr.cell? ⟨w.heap.size, 0, none⟩ = some (.int .u8 0) := (cell_of hg).trans rfl
      have f0 := froz_of (i := 0) hg
      have HG := hid hg
      have HB := hid hb
      clear hg hb
      go_wp2_with fail
      go_roundg 0
      case measure => omega
      case rel => exact Or.inr ⟨rfl, by first | rfl | go_num, by first | rfl | go_num, heap_set HG.out, HB.out.setCell (Nat.le_refl _) _⟩
    · have hcv := conv_own (l := [V]) (by intro b hb; rw [List.mem_singleton] at hb; omega) (one_row hg)
      have HB := hid hb
      clear hg hb
      go_wp2_with fail
      go_ret
      exact ⟨rfl, HB.out⟩
end Go.Proofs.YtihokphamgkkcaaGreat
namespace Go.Proofs.YtihokphamgkkcaaGreat
open Go.RowKit
set_option maxHeartbeats 400000 in
set_option maxRecDepth 20000 in
theorem xwu8_any (p : Nat) (s : ByteArray) (V : Nat) (w : World) (h : WX w p s) (hV : V < 256) (hl : s.size ≤ 9223372036854775000) :
    Calls Tryz.prog 55 #[.pointer (some ⟨p, 0, none⟩), .int .u8 V] w (LaysX p (s ++ bs [V]) w) := by
  have hz : (bs [V]).size = 1 := bs_size _
  have hc : ¬ 9223372036854775807 < s.size + (bs [V]).size := by omega
  have C := hid (fun x => xnumber1_any V x hV)
  have H := hid h
  have c0 := h.c0
  have f0 := froz_of (i := 0) h
  have hlt := h.lt
  have hw : IntKind.u64.wrap (V : Int) = V := by rw [IntKind.wrap_u64]; omega
  clear h hl hz
  generalize bs [V] = F at *
  have C1 : Hid (∀ x, Below w.heap.size w x → Calls Tryz.prog 95 #[.int .u64 V, .int .i64 1] x fun e w' => e = .returned (.string F) ∧ Hid (Below w.heap.size w w') ∧ Hid (WX w' p s) ∧ w'.cell? ⟨p, 0, none⟩ = some (.string s) ∧ w'.frozen? ⟨p, 0, none⟩ = false) := by
    intro x hx
    refine (C.out x).mono ?_
    rintro e w' ⟨rfl, hb⟩
    have hb' := bel_next hx (Nat.le_refl _) hb
    have h' := H.out.below hb'
    exact ⟨rfl, hb', h', h'.c0, froz_of h'⟩
  have b1 : Below w.heap.size w w.drew := (Below.refl _ _).drew
  clear C
  go_enter Tryz.func55, Tryz.ntmps55
  go_wp2_with fail
  go_region_with ((go_at_call 95; refine (C1.out w.drew b1).mono ?_; rintro e w' ⟨rfl, hb', hx', cc', ff'⟩))
  all_goals
    go_wp2_with fail
    go_end0
    exact ⟨rfl, heap_set hx'.out, (Ch.of_below hb'.out).setCell _ _ (fun _ => rfl)⟩
end Go.Proofs.YtihokphamgkkcaaGreat
namespace Go.Proofs.YtihokphamgkkcaaGreat
open Go.RowKit
theorem less_ok (t f : Int) (w : World) (h : I64 (t - f)) : Calls Tryz.prog 53 #[.int .i64 t, .int .i64 f] w fun e w' => e = .returned (.tuple #[.int .i64 (t - f), .bool true]) ∧ w' = w := by
  have hx : IntKind.i64.wrap (t - f) = t - f := wrap_in h.1 h.2
  obtain ⟨h1, h2⟩ := h
  by_cases h : f < 0
  · have e1 : t < t - f := by omega
    go_enter Tryz.func53, Tryz.ntmps53
    go_wp2
    go_ret2
    exact ⟨rfl, rfl⟩
  · have e1 : ¬ t < t - f := by omega
    go_enter Tryz.func53, Tryz.ntmps53
    go_wp2
    go_ret2
    exact ⟨rfl, rfl⟩
theorem less_no (t f : Int) (w : World) (ht : I64 t) (hf : I64 f) (h : ¬ I64 (t - f)) : Calls Tryz.prog 53 #[.int .i64 t, .int .i64 f] w fun e w' => e = .returned (.tuple #[.int .i64 (wrap64 (t - f)), .bool false]) ∧ w' = w := by
  unfold I64 at *
  by_cases h0 : f < 0
  · have e1 : ¬ t < wrap64 (t - f) := by unfold wrap64; omega
    have e2 : (f == 0) = false := by rw [beq_eq_false_iff_ne]; omega
    go_enter Tryz.func53, Tryz.ntmps53
    go_wp2
    go_ret2
    exact ⟨rfl, rfl⟩
  · have e1 : t < wrap64 (t - f) := by unfold wrap64; omega
    have e2 : (f == 0) = false := by rw [beq_eq_false_iff_ne]; omega
    go_enter Tryz.func53, Tryz.ntmps53
    go_wp2
    go_ret2
    exact ⟨rfl, rfl⟩
structure XK (p Q : Nat) (c : Array Value) (T : TypeId) (w x : World) (s : ByteArray) : Prop where
  wr : WX x p s
  ch : Ch (fun i => i = p) w x
  q : x.heap[Q]? = some (.cells c T (0, 0))
theorem XK.next {p Q : Nat} {c : Array Value} {T : TypeId} {w x x' : World} {s s' : ByteArray} {e : Ending} (h : XK p Q c T w x s) (hQ : Q ≠ p) (k : LaysX p s' x e x') : XK p Q c T w x' s' := ⟨k.2.1, h.ch.trans k.2.2, (k.2.2.block Q (lt_of_heap h.q) hQ).trans h.q⟩
set_option maxHeartbeats 1000000 in
set_option maxRecDepth 20000 in
theorem rbytes_range (r : Rec) (a : Option Addr) (cap : Nat) (first n : Int) (w : World) (hn : ¬ (0 ≤ n ∧ n < 65536)) :
    Calls Tryz.prog 29 #[recV r a cap, .int .i64 first, .int .i64 n] w fun e w' => e = .returned (.tuple #[.string ⟨#[]⟩, .int .i64 1]) ∧ Below w.heap.size w w' := by
  unfold recV
  by_cases h0 : n < 0
  · go_enter Tryz.func29, Tryz.ntmps29
    go_wp2_with fail
    go_ret2
    exact ⟨rfl, (Below.refl _ w).alloc (Nat.le_refl _) _⟩
  · have h1 : ¬ n < 65536 := by omega
    go_enter Tryz.func29, Tryz.ntmps29
    go_wp2_with fail
    go_ret2
    exact ⟨rfl, (Below.refl _ w).alloc (Nat.le_refl _) _⟩
set_option maxHeartbeats 1000000 in
set_option maxRecDepth 20000 in
theorem rbytes_far (r : Rec) (a : Option Addr) (cap : Nat) (first : Int) (N : Nat) (w : World) (ht : I64 r.t) (hf : I64 first) (hN : N < 65536) (hi : ¬ I64 (r.t - first)) :
    Calls Tryz.prog 29 #[recV r a cap, .int .i64 first, .int .i64 N] w fun e w' => e = .returned (.tuple #[.string ⟨#[]⟩, .int .i64 27]) ∧ Below w.heap.size w w' := by
  have CL := hid (fun x => less_no r.t first x ht hf hi)
  have h0 : decide ((N : Int) < 0) = false := decide_eq_false (by omega)
  have h1 : decide ((65536 : Int) ≤ (N : Int)) = false := decide_eq_false (by omega)
  clear hi ht hf
  unfold recV
  go_enter Tryz.func29, Tryz.ntmps29
  go_wp2_with (go_at_call 53; refine (CL.out _).mono ?_; rintro e w' ⟨rfl, rfl⟩)
  go_ret2
  exact ⟨rfl, (Below.refl _ w).alloc (Nat.le_refl _) _⟩
set_option maxHeartbeats 1000000 in
set_option maxRecDepth 20000 in
theorem rbytes_most (r : Rec) (a : Option Addr) (cap : Nat) (first : Int) (N : Nat) (w : World) (hN : N < 65536) (hi : I64 (r.t - first)) (hh : 1024 < r.hs.length) :
    Calls Tryz.prog 29 #[recV r a cap, .int .i64 first, .int .i64 N] w fun e w' => e = .returned (.tuple #[.string ⟨#[]⟩, .int .i64 5]) ∧ Below w.heap.size w w' := by
  have CL := hid (fun x => less_ok r.t first x hi)
  have h0 : decide ((N : Int) < 0) = false := decide_eq_false (by omega)
  have h1 : decide ((65536 : Int) ≤ (N : Int)) = false := decide_eq_false (by omega)
  have h2 : decide ((1024 : Int) < (r.hs.length : Int)) = true := decide_eq_true (by omega)
  clear hi hh
  unfold recV
  go_enter Tryz.func29, Tryz.ntmps29
  go_wp2_with (go_at_call 53; refine (CL.out _).mono ?_; rintro e w' ⟨rfl, rfl⟩)
  go_ret2
  exact ⟨rfl, (Below.refl _ w).alloc (Nat.le_refl _) _⟩
end Go.Proofs.YtihokphamgkkcaaGreat
namespace Go.Proofs.YtihokphamgkkcaaGreat
open Go.RowKit
theorem hz0 : (⟨#[]⟩ : ByteArray).size = 0 := rfl
theorem nil_app (s : ByteArray) : (⟨#[]⟩ : ByteArray) ++ s = s := by
  apply ByteArray.ext
  rw [ByteArray.data_append]
  simp
set_option maxHeartbeats 2000000 in
set_option maxRecDepth 20000 in
theorem rbytes_yes (r : Rec) (a : Option Addr) (cap : Nat) (first : Int) (N : Nat) (w : World) (V : Hds w a r.hs) (hN : N < 65536) (hi : I64 (r.t - first)) (hh : r.hs.length ≤ 1024) (hm : Mod r) (E : Int) (R : ByteArray) (hE1 : 16777216 < (fm (r.t - first) N r).length → E = 66 ∧ R = ⟨#[]⟩) (hE2 : ¬ 16777216 < (fm (r.t - first) N r).length → E = 0 ∧ R = bs (fm (r.t - first) N r)) :
    Calls Tryz.prog 29 #[recV r a cap, .int .i64 first, .int .i64 N] w fun e w' => e = .returned (.tuple #[.string R, .int .i64 E]) ∧ Below w.heap.size w w' := by
  have ho : (own (r.t - first) N r).length ≤ 100000000000000000 := own_le _ _ _ hm
  have hby : ∀ b ∈ own (r.t - first) N r, b < 256 := own_byte _ _ _ hi (by omega) (by omega) hm
  have HF : Hid (bs (fm (r.t - first) N r) = ⟨#[]⟩ ++ bs (tx (bs (own (r.t - first) N r)))) := by
    unfold Hid tx fm
    rw [bs_size, bl_bs _ hby, nil_app]
  have hfs : (fm (r.t - first) N r).length = (⟨#[]⟩ ++ bs (tx (bs (own (r.t - first) N r)))).size := by rw [← HF.out, bs_size]
  have HOW : Hid (bs (own (r.t - first) N r) = ⟨#[]⟩ ++ bs [0] ++ bs (M.form (M.zz (r.t - first)).toNat) ++ bs (M.form N) ++ bs (ol r.kh r.kd) ++ bs (ol r.vh r.vd) ++ bs (M.form r.hs.length) ++ bs (hl r.hs)) := by
    unfold Hid own
    simp only [bs_app, ByteArray.append_assoc, nil_app]
  have hlen : 1 + (M.form (M.zz (r.t - first)).toNat).length + (M.form N).length + (ol r.kh r.kd).length + (ol r.vh r.vd).length + (M.form r.hs.length).length + (hl r.hs).length ≤ 100000000000000000 := by
    simp only [own, List.length_append, List.length_cons, List.length_nil] at ho
    omega
  have hows : (bs (own (r.t - first) N r)).size ≤ 100000000000000000 := by rw [bs_size]; exact ho
  have hk1 := hm.k
  have hv1 := hm.v
  have HHm := hid hm.h
  rw [hfs] at hE1 hE2
  rw [HF.out] at hE2
  have HE1 := hid hE1
  have HE2 := hid hE2
  clear hE1 hE2
  generalize bs (own (r.t - first) N r) = O at *
  have CL := hid (fun x => less_ok r.t first x hi)
  have HVV := hid V
  have HHS := hid hows
  have hi' := hid hi
  obtain ⟨t, kh, kd, vh, vd, hs⟩ := r
  simp only [recV] at *
  have HL := hid hlen
  have HKV := hid (And.intro hk1 hv1)
  have h0 : decide ((N : Int) < 0) = false := decide_eq_false (by omega)
  have h1 : decide ((65536 : Int) ≤ (N : Int)) = false := decide_eq_false (by omega)
  have h2 : decide ((1024 : Int) < (hs.length : Int)) = false := decide_eq_false (by omega)
  have hw1 : IntKind.u64.wrap (N : Int) = N := by rw [IntKind.wrap_u64]; omega
  have hw2 : IntKind.u64.wrap (hs.length : Int) = hs.length := by rw [IntKind.wrap_u64]; omega
  clear V hm ho hby hfs HF hows hi hlen hk1 hv1
  go_enter Tryz.func29, Tryz.ntmps29
  go_wp2_with (go_at_call 53; refine (CL.out _).mono ?_; rintro e w' ⟨rfl, rfl⟩)
  have hb0 : Below w.heap.size w (w.alloc (.cells #[.int .i64 t, .bool kh, .string kd, .bool vh, .string vd, .slice a hs.length cap] 49)) := (Below.refl _ w).alloc (Nat.le_refl _) _
  have g0 : (w.alloc (.cells #[.int .i64 t, .bool kh, .string kd, .bool vh, .string vd, .slice a hs.length cap] 49)).heap[w.heap.size]? = some (.cells #[.int .i64 t, .bool kh, .string kd, .bool vh, .string vd, .slice a hs.length cap] 49 (0, 0)) := heap_new _ _
  generalize w.alloc (.cells #[.int .i64 t, .bool kh, .string kd, .bool vh, .string vd, .slice a hs.length cap] 49) = w2 at *
  refine (xnewwriter_any w2).mono ?_
  rintro e w3 ⟨rfl, rfl⟩
  have k0 : XK w2.heap.size w.heap.size #[.int .i64 t, .bool kh, .string kd, .bool vh, .string vd, .slice a hs.length cap] 49 (w2.alloc (.cells #[.string ⟨#[]⟩] 140)) (w2.alloc (.cells #[.string ⟨#[]⟩] 140)) ⟨#[]⟩ := ⟨heap_new _ _, Ch.refl _ _, heap_alloc_at g0⟩
  have HB3 : Hid (Below w.heap.size w (w2.alloc (.cells #[.string ⟨#[]⟩] 140))) := hb0.alloc hb0.size _
  have hQl := lt_of_heap g0
  have hQ : w.heap.size ≠ w2.heap.size := by omega
  have hle : w.heap.size ≤ w2.heap.size := by omega
  generalize w2.alloc (.cells #[.string ⟨#[]⟩] 140) = W at *
  generalize hp : w2.heap.size = p at *
  clear g0 hb0
  obtain ⟨c0, c1, c2, c3, c4, c5⟩ := cells6 k0.q
  have K0 := hid k0
  clear k0
  go_wp2_with fail
  refine (xwu8_any p _ 0 _ K0.out.wr (by omega) (by simp only [hz0]; omega)).mono ?_
  rintro e x1 he
  have k1 := K0.out.next hQ he
  obtain ⟨rfl, _, _⟩ := he
  clear c0 c1 c2 c3 c4 c5 K0
  obtain ⟨c0, c1, c2, c3, c4, c5⟩ := cells6 k1.q
  have K1 := hid k1
  clear k1
  go_wp2_with fail
  refine (xwvarint_any p _ (t - first) _ K1.out.wr hi'.out (by have := HL.out; simp only [ByteArray.size_append, bs_size, hz0, List.length_cons, List.length_nil]; omega)).mono ?_
  rintro e x2 he
  have k2 := K1.out.next hQ he
  obtain ⟨rfl, _, _⟩ := he
  clear c0 c1 c2 c3 c4 c5 K1
  obtain ⟨c0, c1, c2, c3, c4, c5⟩ := cells6 k2.q
  have K2 := hid k2
  clear k2
  go_wp2_with fail
  refine (xwuvarint_any p _ N _ K2.out.wr (by omega) (by have := HL.out; simp only [ByteArray.size_append, bs_size, hz0, List.length_cons, List.length_nil]; omega)).mono ?_
  rintro e x3 he
  have k3 := K2.out.next hQ he
  obtain ⟨rfl, _, _⟩ := he
  clear c0 c1 c2 c3 c4 c5 K2
  obtain ⟨c0, c1, c2, c3, c4, c5⟩ := cells6 k3.q
  have K3 := hid k3
  clear k3
  go_wp2_with fail
  refine (xwol_any p _ kh kd _ K3.out.wr (by have := HL.out; have := HKV.out; simp only [ByteArray.size_append, bs_size, hz0, List.length_cons, List.length_nil]; omega) HKV.out.1).mono ?_
  rintro e x4 he
  have k4 := K3.out.next hQ he
  obtain ⟨rfl, _, _⟩ := he
  clear c0 c1 c2 c3 c4 c5 K3
  obtain ⟨c0, c1, c2, c3, c4, c5⟩ := cells6 k4.q
  have K4 := hid k4
  clear k4
  go_wp2_with fail
  refine (xwol_any p _ vh vd _ K4.out.wr (by have := HL.out; have := HKV.out; simp only [ByteArray.size_append, bs_size, hz0, List.length_cons, List.length_nil]; omega) HKV.out.2).mono ?_
  rintro e x5 he
  have k5 := K4.out.next hQ he
  obtain ⟨rfl, _, _⟩ := he
  clear c0 c1 c2 c3 c4 c5 K4
  obtain ⟨c0, c1, c2, c3, c4, c5⟩ := cells6 k5.q
  have K5 := hid k5
  clear k5
  go_wp2_with fail
  refine (xwuvarint_any p _ hs.length _ K5.out.wr (by omega) (by have := HL.out; simp only [ByteArray.size_append, bs_size, hz0, List.length_cons, List.length_nil]; omega)).mono ?_
  rintro e x6 he
  have k6 := K5.out.next hQ he
  obtain ⟨rfl, _, _⟩ := he
  clear c0 c1 c2 c3 c4 c5 K5
  obtain ⟨c0, c1, c2, c3, c4, c5⟩ := cells6 k6.q
  have K6 := hid k6
  clear k6
  obtain ⟨S7, e7⟩ : ∃ S7, S7 = ⟨#[]⟩ ++ bs [0] ++ bs (M.form (M.zz (t - first)).toNat) ++ bs (M.form N) ++ bs (ol kh kd) ++ bs (ol vh vd) ++ bs (M.form hs.length) := ⟨_, rfl⟩
  rw [← e7] at K6
  have hS7 : S7.size + (hl hs).length ≤ 100000000000000000 := by have := HL.out; rw [e7]; simp only [ByteArray.size_append, bs_size, hz0, List.length_cons, List.length_nil]; omega
  have E7 : Hid (O = S7 ++ bs (hl hs)) := by show O = _; rw [e7]; exact HOW.out
  clear e7 HOW HL
  go_wp2_with fail
  clear c0 c1 c2 c3 c4 c5
  go_loopg [11] hs.length (fun k i wr => ∃ j : Nat, j + k = hs.length ∧ i = .int .i64 j ∧ XK p w.heap.size #[.int .i64 t, .bool kh, .string kd, .bool vh, .string vd, .slice a hs.length cap] 49 W wr (S7 ++ bs (hl (hs.take j))))
  case atStart => exact ⟨0, by omega, rfl, by simp only [List.take_zero]; have e : S7 ++ bs (hl []) = S7 := by { show S7 ++ (⟨#[]⟩ : ByteArray) = S7; apply ByteArray.ext; rw [ByteArray.data_append]; simp }; rw [e]; exact K6.out⟩
  case round =>
    obtain ⟨j, hk, rfl, hxk⟩ := hrel
    have HXK := hid hxk
    obtain ⟨c0, c1, c2, c3, c4, c5⟩ := cells6 hxk.q
    have HBW := hid (HB3.out.trans (hxk.ch.below HB3.out.size (fun i hi h => by omega)))
    clear hxk
    by_cases hlt : j < hs.length
    · obtain ⟨k, rfl⟩ : ∃ k, gk = k + 1 := ⟨gk - 1, by omega⟩
      have HTK := hid (hl_take hs j hlt)
      have htl2 := hl_take_le hs (j + 1)
      rcases HVV.out with h | ⟨b, off, rfl, hbl, hc⟩
      · rw [h] at hlt; simp at hlt
      have hmem : hs.getD j df ∈ hs := by rw [List.getD_eq_getElem?_getD, List.getElem?_eq_getElem hlt, Option.getD_some]; exact List.getElem_mem hlt
      have hxz := HHm.out _ hmem
      obtain ⟨o0, o1, o2⟩ := hc j hlt
      rw [HTK.out, List.length_append, hl1, List.length_append] at htl2
      generalize hs.getD j df = x at *
      obtain ⟨xk, xh, xd⟩ := x
      simp only at o0 o1 o2 htl2 hxz
      have q0 := (HBW.out.cell (p := ⟨b, off + j * 3, none⟩) hbl).trans o0
      have q1 := (HBW.out.cell (p := ⟨b, off + j * 3 + 1, none⟩) hbl).trans o1
      have q2 := (HBW.out.cell (p := ⟨b, off + j * 3 + 2, none⟩) hbl).trans o2
      have HO := hid (And.intro o0 (And.intro o1 o2))
      clear o0 o1 o2
      have htx := (tx_ge xk).2
      have b1 : (0 : Int) ≤ (j : Int) := by omega
      have b2 : (j : Int) < hs.length := by omega
      have HXZ := hid (And.intro hxz htx)
      have HTL := hid htl2
      clear hc hmem hxz htl2 htx
      go_wp2_with fail
      refine (xwtx_any p _ xk _ HXK.out.wr (by have := HTL.out; have := HXZ.out; rw [ByteArray.size_append, bs_size]; omega)).mono ?_
      rintro e y1 he
      have kk2 := HXK.out.next hQ he
      have hb2 := HB3.out.trans (kk2.ch.below HB3.out.size (fun i hi h => by omega))
      obtain ⟨rfl, _, _⟩ := he
      have d0 := (hb2.cell (p := ⟨b, off + j * 3, none⟩) hbl).trans HO.out.1
      have d1 := (hb2.cell (p := ⟨b, off + j * 3 + 1, none⟩) hbl).trans HO.out.2.1
      have d2 := (hb2.cell (p := ⟨b, off + j * 3 + 2, none⟩) hbl).trans HO.out.2.2
      clear c0 c1 c2 c3 c4 c5 q0 q1 q2
      obtain ⟨c0, c1, c2, c3, c4, c5⟩ := cells6 kk2.q
      have KK2 := hid kk2
      clear kk2 HXK hb2
      go_wp2_with fail
      refine (xwol_any p _ xh xd _ KK2.out.wr (by have := HTL.out; have := HXZ.out; rw [ByteArray.size_append, ByteArray.size_append, bs_size, bs_size]; omega) HXZ.out.1).mono ?_
      rintro e y2 he
      have kk3 := KK2.out.next hQ he
      obtain ⟨rfl, _, _⟩ := he
      have K3 := hid kk3
      clear kk3 KK2 d0 d1 d2 c0 c1 c2 c3 c4 c5
      go_wp2_with fail
      go_roundg k
      case measure => omega
      case rel =>
        refine ⟨j + 1, by omega, by go_num, ?_⟩
        rw [HTK.out, hl1, bs_app, bs_app, ← ByteArray.append_assoc, ← ByteArray.append_assoc]
        exact K3.out
    · have hj : j = hs.length := by omega
      subst hj
      rw [List.take_length, ← E7.out] at HXK
      go_wp2_with fail
      refine (xnewwriter_any wr).mono ?_
      rintro e y3 ⟨rfl, rfl⟩
      have hw3 : WX (wr.alloc (.cells #[.string ⟨#[]⟩] 140)) p O := heap_alloc_at HXK.out.wr
      have hv3 : WX (wr.alloc (.cells #[.string ⟨#[]⟩] 140)) wr.heap.size ⟨#[]⟩ := heap_new _ _
      have HB5 := hid (HBW.out.alloc HBW.out.size (.cells #[.string ⟨#[]⟩] 140))
      have hsz := HBW.out.size
      go_wp2_with fail
      generalize wr.alloc (.cells #[.string ⟨#[]⟩] 140) = y4 at *
      refine (xwbytes_any p O y4 hw3).mono ?_
      rintro e y4 ⟨rfl, rfl⟩
      have HT := hid (xwtx_any wr.heap.size ⟨#[]⟩ O y4 hv3 (by have := HHS.out; simp only [hz0]; omega))
      clear hw3 hv3
      go_wp2_with fail
      refine HT.out.mono ?_
      rintro e y5 ⟨rfl, hv5, hc5⟩
      have HB6 := hid (HB5.out.trans (hc5.below HB5.out.size (fun i hi hs => by omega)))
      have CY := hid (xwbytes_any _ _ _ hv5)
      have CA := hid (xwat_any _ _ _ hv5)
      clear hv5 hc5 HT
      obtain ⟨T, hT⟩ : ∃ T, T = (⟨#[]⟩ : ByteArray) ++ bs (tx O) := ⟨_, rfl⟩
      rw [← hT] at CY CA HE1 HE2
      clear hT
      by_cases hbig : 16777216 < T.size
      · have hbig' : decide ((16777216 : Int) < (T.size : Int)) = true := decide_eq_true (by omega)
        obtain ⟨rfl, rfl⟩ := HE1.out hbig
        clear hbig
        go_wp2_with (go_at_call 61; refine CA.out.mono ?_; rintro e y6 ⟨rfl, rfl⟩)
        go_ret2
        exact ⟨rfl, HB6.out⟩
      · have hbig' : decide ((16777216 : Int) < (T.size : Int)) = false := decide_eq_false (by omega)
        obtain ⟨rfl, rfl⟩ := HE2.out hbig
        clear hbig
        go_wp2_with (first | (go_at_call 61; refine CA.out.mono ?_; rintro e y6 ⟨rfl, rfl⟩) | (go_at_call 60; refine CY.out.mono ?_; rintro e y6 ⟨rfl, rfl⟩))
        go_ret2
        exact ⟨rfl, HB6.out⟩
theorem rbytes_any (r : Rec) (a : Option Addr) (cap : Nat) (first n : Int) (w : World) (V : Hds w a r.hs) (ht : I64 r.t) (hf : I64 first) (hm : Mod r) :
    Calls Tryz.prog 29 #[recV r a cap, .int .i64 first, .int .i64 n] w fun e w' => e = .returned (.tuple #[.string (bym r first n), .int .i64 (sze r first n)]) ∧ Below w.heap.size w w' := by
  unfold bym
  by_cases h1 : 0 ≤ n ∧ n < 65536
  · obtain ⟨N, rfl⟩ : ∃ N : Nat, n = (N : Int) := ⟨n.toNat, by omega⟩
    by_cases h2 : I64 (r.t - first)
    · by_cases h3 : 1024 < r.hs.length
      · have e : sze r first N = 5 := by unfold sze; rw [if_neg (by omega), if_neg (by simpa using h2), if_pos h3]
        rw [e, if_neg (by decide)]
        exact rbytes_most r a cap first N w (by omega) h2 h3
      · have e : sze r first N = if 16777216 < (fm (r.t - first) N r).length then 66 else 0 := by unfold sze; rw [if_neg (by omega), if_neg (by simpa using h2), if_neg h3, Int.toNat_natCast]
        have C := rbytes_yes r a cap first N w V (by omega) h2 (by omega) hm
        rw [e, Int.toNat_natCast]
        by_cases h4 : 16777216 < (fm (r.t - first) N r).length
        · rw [if_pos h4, if_neg (by decide)]
          exact C 66 ⟨#[]⟩ (fun _ => ⟨rfl, rfl⟩) (fun h => absurd h4 h)
        · rw [if_neg h4, if_pos rfl]
          exact C 0 _ (fun h => absurd h h4) (fun _ => ⟨rfl, rfl⟩)
    · have e : sze r first N = 27 := by unfold sze; rw [if_neg (by omega), if_pos h2]
      rw [e, if_neg (by decide)]
      exact rbytes_far r a cap first N w ht hf (by omega) h2
  · have e : sze r first n = 1 := by unfold sze; rw [if_pos h1]
    rw [e, if_neg (by decide)]
    exact rbytes_range r a cap first n w h1
end Go.Proofs.YtihokphamgkkcaaGreat
