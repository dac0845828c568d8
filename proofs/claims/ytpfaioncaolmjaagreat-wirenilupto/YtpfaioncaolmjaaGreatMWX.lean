/- Texts of the proof, put together: Osz2, Sz, WX, WX2, WX3, WX4, WX5, WX6. -/
import Derived.Test.YtpfaioncaolmjaaGreatOsz
import Derived.Test.YtpfaioncaolmjaaGreatVref
import Derived.Deep.OwnRows
import Derived.Deep.RegionLaw
namespace Go.Proofs.YtpfaioncaolmjaaGreat
open Go.RowKit
def df : Hdr := (⟨#[]⟩, false, ⟨#[]⟩)
/-- Headers where they lie. -/
def Hds (w : World) (a : Option Addr) (hs : List Hdr) : Prop := hs = [] ∨ ∃ b off, a = some ⟨b, off, none⟩ ∧ b < w.heap.size ∧ ∀ j, j < hs.length → w.cell? ⟨b, off + j * 3, none⟩ = some (.string (hs.getD j df).1) ∧ w.cell? ⟨b, off + j * 3 + 1, none⟩ = some (.bool (hs.getD j df).2.1) ∧ w.cell? ⟨b, off + j * 3 + 2, none⟩ = some (.string (hs.getD j df).2.2)
theorem Hds.belowB {w w' : World} {B : Nat} {a : Option Addr} {hs : List Hdr} (h : Hds w a hs) (hB : w.heap.size ≤ B) (hb : Below B w w') : Hds w' a hs := by
  rcases h with h | ⟨b, off, ha, hlt, hc⟩
  · exact Or.inl h
  · refine Or.inr ⟨b, off, ha, Nat.lt_of_lt_of_le hlt hb.size, fun j hj => ?_⟩
    obtain ⟨h0, h1, h2⟩ := hc j hj
    exact ⟨(hb.cell (p := ⟨b, _, none⟩) (by show b < B; omega)).trans h0, (hb.cell (p := ⟨b, _, none⟩) (by show b < B; omega)).trans h1, (hb.cell (p := ⟨b, _, none⟩) (by show b < B; omega)).trans h2⟩
theorem Hds.below {w w' : World} {a : Option Addr} {hs : List Hdr} (h : Hds w a hs) (hb : Below w.heap.size w w') : Hds w' a hs := h.belowB (Nat.le_refl _) hb
/-- A record's value. -/
def recV (r : Rec) (a : Option Addr) (cap : Nat) : Value := .agg #[.int .i64 r.t, .bool r.kh, .string r.kd, .bool r.vh, .string r.vd, .slice a r.hs.length cap]
theorem hl_snoc (l : List Hdr) (x : Hdr) : hl (l ++ [x]) = hl l ++ hl1 x := by simp [hl]
theorem hl_take (hs : List Hdr) (j : Nat) (h : j < hs.length) : hl (hs.take (j + 1)) = hl (hs.take j) ++ hl1 (hs.getD j df) := by
  have e : hs.take (j + 1) = hs.take j ++ [hs.getD j df] := by
    rw [List.take_succ_eq_append_getElem h, List.getD_eq_getElem?_getD, List.getElem?_eq_getElem h]; rfl
  rw [e, hl_snoc]
theorem hl_app (l m : List Hdr) : hl (l ++ m) = hl l ++ hl m := by simp [hl]
theorem hl_take_le (hs : List Hdr) (j : Nat) : (hl (hs.take j)).length ≤ (hl hs).length := by
  have e := hl_app (hs.take j) (hs.drop j)
  rw [List.take_append_drop] at e
  rw [e, List.length_append]
  omega
theorem bel_next {B : Nat} {w0 w w' : World} (h : Below B w0 w) (hB : B ≤ w0.heap.size) (h' : Below w.heap.size w w') : Below B w0 w' :=
  ⟨h'.os.trans h.os, h'.tape.trans h.tape, h'.output.trans h.output, Nat.le_trans h.size h'.size, fun i hi => (h'.block i (by have := h.size; omega)).trans (h.block i hi)⟩
/-- A block of cells that stays. -/
theorem held_at {w0 x : World} {B P i : Nat} {c : Array Value} {T : TypeId} {v : Value} (h : w0.heap[P]? = some (.cells c T (0, 0))) (hP : P < B) (hv : c[i]? = some v) (hb : Below B w0 x) : x.cell? ⟨P, i, none⟩ = some v :=
  (cell_of ((hb.block P hP).trans h)).trans hv
theorem held5 {w0 x : World} {B P : Nat} {T : TypeId} {v0 v1 v2 v3 v4 v5 : Value} (h : w0.heap[P]? = some (.cells #[v0, v1, v2, v3, v4, v5] T (0, 0))) (hP : P < B) (hb : Below B w0 x) :
    (x.cell? ⟨P, 1, none⟩ = some v1 ∧ x.cell? ⟨P, 2, none⟩ = some v2 ∧ x.cell? ⟨P, 3, none⟩ = some v3 ∧ x.cell? ⟨P, 4, none⟩ = some v4 ∧ x.cell? ⟨P, 5, none⟩ = some v5) ∧ Below B w0 x :=
  ⟨⟨held_at h hP rfl hb, held_at h hP rfl hb, held_at h hP rfl hb, held_at h hP rfl hb, held_at h hP rfl hb⟩, hb⟩
theorem held3 {w0 x : World} {B P : Nat} {T : TypeId} {v0 v1 v2 : Value} (h : w0.heap[P]? = some (.cells #[v0, v1, v2] T (0, 0))) (hP : P < B) (hb : Below B w0 x) :
    (x.cell? ⟨P, 0, none⟩ = some v0 ∧ x.cell? ⟨P, 1, none⟩ = some v1 ∧ x.cell? ⟨P, 2, none⟩ = some v2) ∧ Below B w0 x :=
  ⟨⟨held_at h hP rfl hb, held_at h hP rfl hb, held_at h hP rfl hb⟩, hb⟩
theorem ol_ge (h : Bool) (d : ByteArray) : 1 ≤ (ol h d).length ∧ (h = true → d.size ≤ (ol h d).length) := by
  unfold ol
  split
  · rw [List.length_append, bl_len]; have := M.form_pos (2 * d.size); exact ⟨by omega, fun _ => by omega⟩
  · rename_i h'; exact ⟨by simp, fun h2 => absurd h2 h'⟩
theorem tx_ge (d : ByteArray) : 1 ≤ (tx d).length ∧ d.size ≤ (tx d).length := by
  unfold tx
  rw [List.length_append, bl_len]; have := M.form_pos d.size; exact ⟨by omega, by omega⟩
/-- Texts that can be counted, those of nulls too. -/
def Small (hs : List Hdr) : Prop := ∀ x ∈ hs, x.2.2.size ≤ 1000000000000000000
end Go.Proofs.YtpfaioncaolmjaaGreat
namespace Go.Proofs.YtpfaioncaolmjaaGreat
open Go.RowKit
theorem bel_al {w w' : World} {o : Obj} (h : Below (w.alloc o).heap.size (w.alloc o) w') : Below w.heap.size w w' := ((Below.refl _ w).alloc (Nat.le_refl _) o).trans (h.mono (by simp))
/-- Why a record has no form, or 0. -/
def sze (r : Rec) (first n : Int) : Nat := if ¬ (0 ≤ n ∧ n < 65536) then 1 else if ¬ I64 (r.t - first) then 27 else if 1024 < r.hs.length then 5 else if 16777216 < (fm (r.t - first) n.toNat r).length then 66 else 0
/-- How many bytes its form has. -/
def szn (r : Rec) (first n : Int) : Nat := if sze r first n = 0 then (fm (r.t - first) n.toNat r).length else 0
theorem sze_ok {r : Rec} {first n : Int} (h : sze r first n = 0) : (0 ≤ n ∧ n < 65536) ∧ I64 (r.t - first) ∧ r.hs.length ≤ 1024 ∧ (fm (r.t - first) n.toNat r).length ≤ 16777216 := by
  unfold sze at h
  split at h
  · cases h
  · split at h
    · cases h
    · split at h
      · cases h
      · split at h
        · cases h
        · rename_i h1 h2 h3 h4
          exact ⟨by omega, by simpa using h2, by omega, by omega⟩
/-- What the program's counting asks: nothing too great for any machine. -/
structure Mod (r : Rec) : Prop where
  k : r.kd.size ≤ 1000000000000000000
  v : r.vd.size ≤ 1000000000000000000
  h : Small r.hs
  n : r.hs.length ≤ 9223372036854775807
  all : 100 + (ol r.kh r.kd).length + (ol r.vh r.vd).length + (hl r.hs).length ≤ 100000000000000000
theorem own_le (d : Int) (n : Nat) (r : Rec) (hm : Mod r) : (own d n r).length ≤ 100000000000000000 := by
  have := hm.all
  have h1 := M.form_le (M.zz d).toNat
  have h2 := M.form_le n
  have h3 := M.form_le r.hs.length
  simp only [own, List.length_append, List.length_cons, List.length_nil]
  omega
end Go.Proofs.YtpfaioncaolmjaaGreat
namespace Go.Proofs.YtpfaioncaolmjaaGreat
open Go.RowKit
/-- The document's writer: what is written. -/
def WX (w : World) (p : Nat) (s : ByteArray) : Prop := w.heap[p]? = some (.cells #[.string s] 70 (0, 0))
def LaysX (p : Nat) (s : ByteArray) (w : World) (e : Ending) (w' : World) : Prop := e = .returned (.tuple #[]) ∧ WX w' p s ∧ Ch (fun i => i = p) w w'
theorem WX.c0 {w : World} {p : Nat} {s : ByteArray} (h : WX w p s) : w.cell? ⟨p, 0, none⟩ = some (.string s) := (cell_of h).trans rfl
theorem WX.lt {w : World} {p : Nat} {s : ByteArray} (h : WX w p s) : p < w.heap.size := lt_of_heap h
theorem WX.below {w w' : World} {p : Nat} {s : ByteArray} (h : WX w p s) (hb : Below w.heap.size w w') : WX w' p s := (hb.block p h.lt).trans h
theorem xnewwriter_any (w : World) :
    Calls Tryz.prog 8 #[] w fun e w' => e = .returned (.pointer (some ⟨w.heap.size, 0, none⟩)) ∧ w' = w.alloc (.cells #[.string ⟨#[]⟩] 70) := by
  go_enter Tryz.func8, Tryz.ntmps8
  go_wp2
  go_ret
  exact ⟨rfl, rfl⟩
theorem xwbytes_any (p : Nat) (s : ByteArray) (w : World) (h : WX w p s) :
    Calls Tryz.prog 20 #[.pointer (some ⟨p, 0, none⟩)] w fun e w' => e = .returned (.string s) ∧ w' = w := by
  have c0 := h.c0
  go_enter Tryz.func20, Tryz.ntmps20
  go_wp2
  go_ret
  exact ⟨rfl, rfl⟩
theorem xwraw_any (p : Nat) (s t : ByteArray) (w : World) (h : WX w p s) (hl : s.size + t.size ≤ 9223372036854775807) :
    Calls Tryz.prog 43 #[.pointer (some ⟨p, 0, none⟩), .string t] w (LaysX p (s ++ t) w) := by
  have c0 := h.c0
  have f0 := froz_of (i := 0) h
  have hc : ¬ 9223372036854775807 < s.size + t.size := by omega
  have H := hid h
  clear h hl
  go_enter Tryz.func43, Tryz.ntmps43
  go_wp2
  go_end0
  exact ⟨rfl, heap_set H.out, (Ch.refl _ _).setCell _ _ (fun _ => rfl)⟩
theorem rput1 (z : Nat) (w0 w : World) (h1 : z < 18446744073709551616) (hb : Below w0.heap.size w0 w) :
    Calls Tryz.prog 83 #[.slice (some ⟨w.heap.size, 0, none⟩) 1 1] (w.alloc (.cells #[.int .u64 z] 30)) fun e w' => e = .returned (.string (bs (M.form z))) ∧ Below w0.heap.size w0 w' := by
  have h := rput_any (some ⟨w.heap.size, 0, none⟩) 1 [(z : Int)] (w.alloc (.cells #[.int .u64 z] 30)) (by intro y hy; rw [List.mem_singleton] at hy; subst hy; exact ⟨by omega, by omega⟩) (by simp) (by rw [forms_one]; have := M.form_le (z : Int).toNat; omega) (vals_one .u64 z 30 w)
  rw [forms_one, Int.toNat_natCast] at h
  exact h.mono fun e w' ⟨h1, h2⟩ => ⟨h1, since_alloc hb h2⟩
theorem rsput1 (v : Int) (w0 w : World) (hv : I64 v) (hb : Below w0.heap.size w0 w) :
    Calls Tryz.prog 84 #[.slice (some ⟨w.heap.size, 0, none⟩) 1 1] (w.alloc (.cells #[.int .i64 v] 2)) fun e w' => e = .returned (.string (bs (M.form (M.zz v).toNat))) ∧ Below w0.heap.size w0 w' := by
  have h := rsput_any (some ⟨w.heap.size, 0, none⟩) 1 [v] (w.alloc (.cells #[.int .i64 v] 2)) (by intro y hy; rw [List.mem_singleton] at hy; subst hy; exact hv) (by simp) (by show (forms [M.zz v]).length ≤ _; rw [forms_one]; have := M.form_le (M.zz v).toNat; omega) (vals_one .i64 v 2 w)
  have e : forms (zzs [v]) = M.form (M.zz v).toNat := forms_one _
  rw [e] at h
  exact h.mono fun e w' ⟨h1, h2⟩ => ⟨h1, since_alloc hb h2⟩
set_option maxHeartbeats 1000000 in
set_option maxRecDepth 20000 in
theorem xwuvarint_any (p : Nat) (s : ByteArray) (v : Nat) (w : World) (h : WX w p s) (hv : v < 18446744073709551616) (hl : s.size ≤ 9223372036854775000) :
    Calls Tryz.prog 40 #[.pointer (some ⟨p, 0, none⟩), .int .u64 v] w (LaysX p (s ++ bs (M.form v)) w) := by
  have hfl := M.form_le v
  have hz : (bs (M.form v)).size = (M.form v).length := bs_size _
  have hc : ¬ 9223372036854775807 < s.size + (bs (M.form v)).size := by omega
  have C := hid (rput1 v w w hv (Below.refl _ _))
  have H := hid h
  clear h hl hz hfl
  generalize bs (M.form v) = F at *
  go_enter Tryz.func40, Tryz.ntmps40
  go_wp2_with fail
  refine C.out.mono ?_
  rintro e w1 ⟨rfl, hb1⟩
  have h1 := H.out.below hb1
  have c0 := h1.c0
  have f0 := froz_of (i := 0) h1
  have H1 := hid h1
  have HB := hid hb1
  clear h1 hb1
  go_wp2_with fail
  go_end0
  exact ⟨rfl, heap_set H1.out, (Ch.of_below HB.out).setCell _ _ (fun _ => rfl)⟩
set_option maxHeartbeats 1000000 in
set_option maxRecDepth 20000 in
theorem xwvarint_any (p : Nat) (s : ByteArray) (v : Int) (w : World) (h : WX w p s) (hv : I64 v) (hl : s.size ≤ 9223372036854775000) :
    Calls Tryz.prog 41 #[.pointer (some ⟨p, 0, none⟩), .int .i64 v] w (LaysX p (s ++ bs (M.form (M.zz v).toNat)) w) := by
  have hfl := M.form_le (M.zz v).toNat
  have hz : (bs (M.form (M.zz v).toNat)).size = (M.form (M.zz v).toNat).length := bs_size _
  have hc : ¬ 9223372036854775807 < s.size + (bs (M.form (M.zz v).toNat)).size := by omega
  have C := hid (rsput1 v w w hv (Below.refl _ _))
  have H := hid h
  clear h hl hz hfl hv
  generalize bs (M.form (M.zz v).toNat) = F at *
  go_enter Tryz.func41, Tryz.ntmps41
  go_wp2_with fail
  refine C.out.mono ?_
  rintro e w1 ⟨rfl, hb1⟩
  have h1 := H.out.below hb1
  have c0 := h1.c0
  have f0 := froz_of (i := 0) h1
  have H1 := hid h1
  have HB := hid hb1
  clear h1 hb1
  go_wp2_with fail
  go_end0
  exact ⟨rfl, heap_set H1.out, (Ch.of_below HB.out).setCell _ _ (fun _ => rfl)⟩
end Go.Proofs.YtpfaioncaolmjaaGreat
namespace Go.Proofs.YtpfaioncaolmjaaGreat
open Go.RowKit
theorem bs_app (l m : List Nat) : bs (l ++ m) = bs l ++ bs m := by
  unfold bs
  apply ByteArray.ext
  rw [ByteArray.data_append]
  simp
theorem bs_tx (t : ByteArray) : bs (tx t) = bs (M.form t.size) ++ t := by unfold tx; rw [bs_app, bs_bl]
theorem bs_ol (t : ByteArray) : bs (ol true t) = bs (M.form (2 * t.size)) ++ t := by unfold ol; rw [if_pos rfl, bs_app, bs_bl]
set_option maxHeartbeats 1000000 in
set_option maxRecDepth 20000 in
theorem xwtx_any (p : Nat) (s t : ByteArray) (w : World) (h : WX w p s) (hl : s.size + t.size ≤ 9223372036854775000) :
    Calls Tryz.prog 45 #[.pointer (some ⟨p, 0, none⟩), .string t] w (LaysX p (s ++ bs (tx t)) w) := by
  rw [bs_tx, ← ByteArray.append_assoc]
  have hfl := M.form_le t.size
  have hz : (s ++ bs (M.form t.size)).size = s.size + (M.form t.size).length := by rw [ByteArray.size_append, bs_size]
  have hw : IntKind.u64.wrap (t.size : Int) = t.size := by rw [IntKind.wrap_u64]; omega
  have C1 := hid (xwuvarint_any p s t.size w h (by omega) (by omega))
  have C2 := hid (fun x h => xwraw_any p (s ++ bs (M.form t.size)) t x h (by omega))
  clear h hl hz hfl
  generalize s ++ bs (M.form t.size) = S1 at *
  go_enter Tryz.func45, Tryz.ntmps45
  go_wp2_with fail
  refine C1.out.mono ?_
  rintro e w1 ⟨rfl, h1, hc1⟩
  go_wp2_with fail
  refine (C2.out _ h1).mono ?_
  rintro e w2 ⟨rfl, h2, hc2⟩
  go_wp2_with fail
  go_end0
  exact ⟨rfl, h2, hc1.trans hc2⟩
set_option maxHeartbeats 1000000 in
set_option maxRecDepth 20000 in
theorem xwol_any (p : Nat) (s : ByteArray) (b : Bool) (t : ByteArray) (w : World) (h : WX w p s) (hl : s.size + t.size ≤ 9223372036854775000) (hl2 : t.size ≤ 1000000000000000000) :
    Calls Tryz.prog 47 #[.pointer (some ⟨p, 0, none⟩), .agg #[.bool b, .string t]] w (LaysX p (s ++ bs (ol b t)) w) := by
  have hlp := h.lt
  cases b with
  | false =>
    have C1 := hid (fun x h => xwvarint_any p s (-1) x h ⟨by omega, by omega⟩ (by omega))
    have H := hid h
    clear h hl hl2
    go_enter Tryz.func47, Tryz.ntmps47
    go_wp2_with fail
    refine (C1.out _ (heap_alloc_at H.out)).mono ?_
    rintro e w1 ⟨rfl, h1, hc1⟩
    go_wp2_with fail
    first | go_end0 | refine bodyPost_ret (results_none rfl _ _ _) rfl ?_
    exact ⟨rfl, h1, ((Ch.refl _ _).alloc _).trans hc1⟩
  | true =>
    rw [bs_ol, ← ByteArray.append_assoc]
    have hfl := M.form_le (2 * t.size)
    have hz : (s ++ bs (M.form (2 * t.size))).size = s.size + (M.form (2 * t.size)).length := by rw [ByteArray.size_append, bs_size]
    have c1 := fun x h => xwvarint_any p s (t.size : Int) x h ⟨by omega, by omega⟩ (by omega)
    rw [zz_nat] at c1
    have C1 := hid c1
    have C2 := hid (fun x h => xwraw_any p (s ++ bs (M.form (2 * t.size))) t x h (by omega))
    have H := hid h
    clear h hl hl2 hz hfl c1
    generalize s ++ bs (M.form (2 * t.size)) = S1 at *
    go_enter Tryz.func47, Tryz.ntmps47
    go_wp2_with fail
    refine (C1.out _ (heap_alloc_at H.out)).mono ?_
    rintro e w1 ⟨rfl, h1, hc1⟩
    have gv : w1.heap[w.heap.size]? = some (.cells #[.bool true, .string t] 76 (0, 0)) := (hc1.block _ (by simp) (by omega)).trans (heap_new _ _)
    have c8 : w1.cell? ⟨w.heap.size, 1, none⟩ = some (.string t) := (cell_of gv).trans rfl
    have HC1 := hid hc1
    have H1 := hid h1
    clear gv hc1 h1
    go_wp2_with fail
    refine (C2.out _ H1.out).mono ?_
    rintro e w2 ⟨rfl, h2, hc2⟩
    go_wp2_with fail
    go_end0
    exact ⟨rfl, h2, (((Ch.refl _ _).alloc _).trans HC1.out).trans hc2⟩
end Go.Proofs.YtpfaioncaolmjaaGreat
namespace Go.Proofs.YtpfaioncaolmjaaGreat
open Go.RowKit
theorem one_row {w : World} {g V : Nat} (h : w.heap[g]? = some (.cells #[.int .u8 V] 5 (0, 0))) : w.ownsRow g 5 1 (.slice (some ⟨g, 0, none⟩) 1 1) 1 (bc [V]) :=
  ⟨rfl, Or.inr ⟨g, 1, _, rfl, Nat.le_refl _, h, Nat.le_refl _, by unfold maxLen; omega, rfl, rfl⟩⟩
set_option maxHeartbeats 1000000 in
set_option maxRecDepth 20000 in
theorem xnumber1_any (V : Nat) (w : World) (hV : V < 256) :
    Calls Tryz.prog 82 #[.int .u64 V, .int .i64 1] w fun e w' => e = .returned (.string (bs [V])) ∧ Below w.heap.size w w' := by
  have e0 : madeCells #[Value.int .u8 0] 1 = #[Value.int .u8 0] := by kernel_rfl
  have hmk : (Instr.makeSlice 48 (.int .i64 1) (.int .i64 1)).run Tryz.prog w = .ok (.slice (some ⟨w.heap.size, 0, none⟩) 1 1) (w.alloc (.cells #[.int .u8 0] 5)) := by
    rw [← e0]
    exact Go.run_make_row' (P := Tryz.prog) 48 5 (.int .u8 0) 1 Tryz.underBytes Tryz.info5 rfl .i64 .i64 1 (by omega) (by omega) w
  clear e0
  have hw : IntKind.u8.wrap ((V : Int) % 256) = V := by rw [IntKind.wrap_u8]; omega
  have hm : (V : Int) % 256 = V := by omega
  go_enter Tryz.func82, Tryz.ntmps82
  go_wp2_with fail
  have g0 : (w.alloc (.cells #[.int .u8 0] 5)).heap[w.heap.size]? = some (.cells #[.int .u8 0] 5 (0, 0)) := heap_new _ _
  have b0 : Below w.heap.size w (w.alloc (.cells #[.int .u8 0] 5)) := (Below.refl _ w).alloc (Nat.le_refl _) _
  clear hmk
  generalize w.alloc (.cells #[.int .u8 0] 5) = W at *
  go_loopg [0, 6] 1 (fun k x i wr => (k = 1 ∧ i = .int .i64 0 ∧ x = .int .u64 V ∧ wr.heap[w.heap.size]? = some (.cells #[.int .u8 0] 5 (0, 0)) ∧ Below w.heap.size w wr) ∨ (k = 0 ∧ i = .int .i64 (-1) ∧ x = .int .u64 ((V : Int) / 256) ∧ wr.heap[w.heap.size]? = some (.cells #[.int .u8 V] 5 (0, 0)) ∧ Below w.heap.size w wr))
  case atStart => exact Or.inl ⟨rfl, by first | rfl | go_num, rfl, g0, b0⟩
  case round =>
    clear g0 b0
    rcases hrel with ⟨rfl, rfl, rfl, hg, hb⟩ | ⟨rfl, rfl, rfl, hg, hb⟩
    · have c0 : wr.cell? ⟨w.heap.size, 0, none⟩ = some (.int .u8 0) := (cell_of hg).trans rfl
      have f0 := froz_of (i := 0) hg
      have HG := hid hg
      have HB := hid hb
      clear hg hb
      go_wp2_with fail
      go_roundg 0
      case measure => omega
      case rel => exact Or.inr ⟨rfl, by first | rfl | go_num, by first | rfl | go_num, heap_set HG.out, HB.out.setCell (Nat.le_refl _) _⟩
    · have hcv := conv_own (l := [V]) (by intro b hb; rw [List.mem_singleton] at hb; omega) (one_row hg)
      have HB := hid hb
      clear hg hb
      go_wp2_with fail
      go_ret
      exact ⟨rfl, HB.out⟩
end Go.Proofs.YtpfaioncaolmjaaGreat
namespace Go.Proofs.YtpfaioncaolmjaaGreat
open Go.RowKit
set_option maxHeartbeats 400000 in
set_option maxRecDepth 20000 in
theorem xwu8_any (p : Nat) (s : ByteArray) (V : Nat) (w : World) (h : WX w p s) (hV : V < 256) (hl : s.size ≤ 9223372036854775000) :
    Calls Tryz.prog 31 #[.pointer (some ⟨p, 0, none⟩), .int .u8 V] w (LaysX p (s ++ bs [V]) w) := by
  have hz : (bs [V]).size = 1 := bs_size _
  have hc : ¬ 9223372036854775807 < s.size + (bs [V]).size := by omega
  have C := hid (fun x => xnumber1_any V x hV)
  have H := hid h
  have c0 := h.c0
  have f0 := froz_of (i := 0) h
  have hlt := h.lt
  have hw : IntKind.u64.wrap (V : Int) = V := by rw [IntKind.wrap_u64]; omega
  clear h hl hz
  generalize bs [V] = F at *
  have C1 : Hid (∀ x, Below w.heap.size w x → Calls Tryz.prog 82 #[.int .u64 V, .int .i64 1] x fun e w' => e = .returned (.string F) ∧ Hid (Below w.heap.size w w') ∧ Hid (WX w' p s) ∧ w'.cell? ⟨p, 0, none⟩ = some (.string s) ∧ w'.frozen? ⟨p, 0, none⟩ = false) := by
    intro x hx
    refine (C.out x).mono ?_
    rintro e w' ⟨rfl, hb⟩
    have hb' := bel_next hx (Nat.le_refl _) hb
    have h' := H.out.below hb'
    exact ⟨rfl, hb', h', h'.c0, froz_of h'⟩
  have b1 : Below w.heap.size w w.drew := (Below.refl _ _).drew
  clear C
  go_enter Tryz.func31, Tryz.ntmps31
  go_wp2_with fail
  go_region_with ((go_at_call 82; refine (C1.out w.drew b1).mono ?_; rintro e w' ⟨rfl, hb', hx', cc', ff'⟩))
  all_goals
    go_wp2_with fail
    go_end0
    exact ⟨rfl, heap_set hx'.out, (Ch.of_below hb'.out).setCell _ _ (fun _ => rfl)⟩
end Go.Proofs.YtpfaioncaolmjaaGreat
namespace Go.Proofs.YtpfaioncaolmjaaGreat
open Go.RowKit
theorem nb_cons : ∀ (m V : Nat), nb (m + 1) V = (V / 256 ^ m % 256) :: nb m V
  | 0, V => by simp [nb]
  | m + 1, V => by
    show nb (m + 1) (V / 256) ++ [V % 256] = _
    rw [nb_cons m (V / 256)]
    show (V / 256 / 256 ^ m % 256) :: (nb m (V / 256) ++ [V % 256]) = _ :: (nb m (V / 256) ++ [V % 256])
    rw [Nat.div_div_eq_div_mul, ← Nat.pow_succ']
theorem made1 (x : Value) (n : Nat) : (madeCells #[x] n).toList = List.replicate n x := by
  apply List.ext_getElem
  · simp [madeCells]
  · intro i h1 h2
    simp [madeCells, Nat.mod_one]
theorem set_rep (j : Nat) (L : List Nat) (b : Nat) : (List.replicate (j + 1) 0 ++ L).set j b = List.replicate j 0 ++ (b :: L) := by
  rw [List.replicate_succ', List.append_assoc, List.set_append_right _ _ (by simp)]
  simp
theorem bc_set (l : List Nat) (j b : Nat) : (bc l).set j (.int .u8 b) = bc (l.set j b) := by
  unfold bc
  rw [List.map_set]
set_option maxHeartbeats 1000000 in
set_option maxRecDepth 20000 in
theorem xnumber_any (V n : Nat) (w : World) (hV : V < 18446744073709551616) (hn : n ≤ 8) :
    Calls Tryz.prog 82 #[.int .u64 V, .int .i64 n] w fun e w' => e = .returned (.string (bs (nb n V))) ∧ Below w.heap.size w w' := by
  have hmk : (Instr.makeSlice 48 (.int .i64 n) (.int .i64 n)).run Tryz.prog w = .ok (.slice (some ⟨w.heap.size, 0, none⟩) n n) (w.alloc (.cells (madeCells #[.int .u8 0] n) 5)) :=
    Go.run_make_row' (P := Tryz.prog) 48 5 (.int .u8 0) 1 Tryz.underBytes Tryz.info5 rfl .i64 .i64 n (by omega) (by omega) w
  have g0 : (w.alloc (.cells (madeCells #[.int .u8 0] n) 5)).heap[w.heap.size]? = some (.cells (madeCells #[.int .u8 0] n) 5 (0, 0)) := heap_new _ _
  have b0 : Below w.heap.size w (w.alloc (.cells (madeCells #[.int .u8 0] n) 5)) := (Below.refl _ w).alloc (Nat.le_refl _) _
  have o0 : (w.alloc (.cells (madeCells #[.int .u8 0] n) 5)).ownsRow w.heap.size 5 1 (.slice (some ⟨w.heap.size, 0, none⟩) n n) n (bc (List.replicate n 0 ++ nb 0 V)) :=
    ⟨by rw [bc_len]; simp [nb], Or.inr ⟨w.heap.size, n, _, rfl, Nat.le_refl _, g0, Nat.le_refl _, by unfold maxLen; omega, by simp [madeCells], by
      rw [List.take_of_length_le (by simp [madeCells]), made1]
      simp [nb, bc]⟩⟩
  have HO0 := hid o0
  have HB0 := hid b0
  clear g0 o0 b0
  go_enter Tryz.func82, Tryz.ntmps82
  go_wp2_with fail
  clear hmk
  generalize w.alloc (.cells (madeCells #[.int .u8 0] n) 5) = W at *
  go_loopg [0, 6] n (fun k x i wr => k ≤ n ∧ i = .int .i64 ((k : Int) - 1) ∧ x = .int .u64 (V / 256 ^ (n - k) : Nat) ∧ Hid (wr.ownsRow w.heap.size 5 1 (.slice (some ⟨w.heap.size, 0, none⟩) n n) n (bc (List.replicate k 0 ++ nb (n - k) V))) ∧ Hid (Below w.heap.size w wr))
  case atStart => exact ⟨Nat.le_refl _, by first | rfl | go_num, by rw [Nat.sub_self, Nat.pow_zero, Nat.div_one], by show World.ownsRow _ _ _ _ _ _ _; rw [Nat.sub_self]; exact HO0.out, HB0⟩
  case round =>
    clear HO0 HB0
    obtain ⟨hk, rfl, rfl, HO, HB⟩ := hrel
    by_cases hlt : 0 < gk
    · obtain ⟨j, rfl⟩ : ∃ j, gk = j + 1 := ⟨gk - 1, by omega⟩
      have e1 : ((j + 1 : Nat) : Int) - 1 = j := by omega
      rw [e1]
      clear e1
      obtain ⟨X, hX⟩ : ∃ X, V / 256 ^ (n - (j + 1)) = X := ⟨_, rfl⟩
      have hX2 : V / 256 ^ (n - j) = X / 256 := by
        rw [← hX, Nat.div_div_eq_div_mul, ← Nat.pow_succ, show (n - (j + 1)).succ = n - j by omega]
      rw [hX]
      have hst := HO.out.stored j (.int .u8 (X % 256 : Nat))
      have hO2 : Hid ((wr.setCell ⟨w.heap.size, j, none⟩ (.int .u8 (X % 256 : Nat))).ownsRow w.heap.size 5 1 (.slice (some ⟨w.heap.size, 0, none⟩) n n) n (bc (List.replicate j 0 ++ nb (n - j) V))) := by
        have h := hst.1
        rw [bc_set, set_rep, ← hX, ← nb_cons, show n - (j + 1) + 1 = n - j by omega, hX] at h
        exact h
      have HB2 : Hid (Below w.heap.size w (wr.setCell ⟨w.heap.size, j, none⟩ (.int .u8 (X % 256 : Nat)))) := HB.out.setCell (Nat.le_refl _) _
      have hl : (bc (List.replicate (j + 1) 0 ++ nb (n - (j + 1)) V)).length = n := by rw [bc_len]; simp [nb_len]; omega
      obtain ⟨y, hy⟩ : ∃ y, (bc (List.replicate (j + 1) 0 ++ nb (n - (j + 1)) V))[j]? = some y := ⟨_, List.getElem?_eq_getElem (by omega)⟩
      have hc : wr.cell? ⟨w.heap.size, j, none⟩ = some y := by rw [HO.out.cellAt j (by omega)]; exact hy
      have hf := HO.out.frozenAt j
      have hw : IntKind.u8.wrap ((X : Int) % 256) = ((X % 256 : Nat) : Int) := by rw [IntKind.wrap_u8]; omega
      have hwd : (X : Int) / 256 = ((X / 256 : Nat) : Int) := by omega
      have hXV : X ≤ V := by rw [← hX]; exact Nat.div_le_self _ _
      have hwr : IntKind.u64.wrap ((X / 256 : Nat) : Int) = ((X / 256 : Nat) : Int) := by rw [IntKind.wrap_u64]; omega
      have j0 : (0 : Int) ≤ (j : Int) := by omega
      have j1 : (j : Int) < (n : Int) := by omega
      have HX2 := hid hX2
      generalize hQ : X % 256 = Q at *
      generalize hR : X / 256 = R at *
      clear hst hl hy hX hX2 hQ hR HO HB hXV
      go_wp2_with fail
      go_roundg j
      case measure => omega
      case rel => exact ⟨by omega, by first | rfl | go_num, by rw [HX2.out], hO2, HB2⟩
    · have hm0 : gk = 0 := by omega
      subst hm0
      have ho := HO.out
      rw [Nat.sub_zero, List.replicate_zero, List.nil_append] at ho
      have hcv := conv_own (l := nb n V) (nb_byte n V) ho
      have hneg : ¬ (0 : Int) ≤ ((0 : Nat) : Int) - 1 := by omega
      clear ho
      go_wp2_with fail
      go_ret
      exact ⟨rfl, HB.out⟩
end Go.Proofs.YtpfaioncaolmjaaGreat
namespace Go.Proofs.YtpfaioncaolmjaaGreat
open Go.RowKit
set_option maxHeartbeats 400000 in
set_option maxRecDepth 20000 in
theorem xwu16_any (p : Nat) (s : ByteArray) (V : Nat) (w : World) (h : WX w p s) (hV : V < 65536) (hl : s.size ≤ 9223372036854775000) :
    Calls Tryz.prog 32 #[.pointer (some ⟨p, 0, none⟩), .int .u16 V] w (LaysX p (s ++ bs (nb 2 V)) w) := by
  have hz : (bs (nb 2 V)).size = 2 := by rw [bs_size]; exact nb_len _ _
  have hc : ¬ 9223372036854775807 < s.size + (bs (nb 2 V)).size := by omega
  have C := hid (fun x => xnumber_any V 2 x (by omega) (by omega))
  have H := hid h
  have c0 := h.c0
  have f0 := froz_of (i := 0) h
  have hlt := h.lt
  have hw : IntKind.u64.wrap (V : Int) = V := by rw [IntKind.wrap_u64]; omega
  clear h hl hz
  generalize bs (nb 2 V) = F at *
  have C1 : Hid (∀ x, Below w.heap.size w x → Calls Tryz.prog 82 #[.int .u64 V, .int .i64 2] x fun e w' => e = .returned (.string F) ∧ Hid (Below w.heap.size w w') ∧ Hid (WX w' p s) ∧ w'.cell? ⟨p, 0, none⟩ = some (.string s) ∧ w'.frozen? ⟨p, 0, none⟩ = false) := by
    intro x hx
    refine (C.out x).mono ?_
    rintro e w' ⟨rfl, hb⟩
    have hb' := bel_next hx (Nat.le_refl _) hb
    have h' := H.out.below hb'
    exact ⟨rfl, hb', h', h'.c0, froz_of h'⟩
  have b1 : Below w.heap.size w w.drew := (Below.refl _ _).drew
  clear C
  go_enter Tryz.func32, Tryz.ntmps32
  go_wp2_with fail
  go_region_with ((go_at_call 82; refine (C1.out w.drew b1).mono ?_; rintro e w' ⟨rfl, hb', hx', cc', ff'⟩))
  all_goals
    go_wp2_with fail
    go_end0
    exact ⟨rfl, heap_set hx'.out, (Ch.of_below hb'.out).setCell _ _ (fun _ => rfl)⟩
set_option maxHeartbeats 400000 in
set_option maxRecDepth 20000 in
theorem xwu32_any (p : Nat) (s : ByteArray) (V : Nat) (w : World) (h : WX w p s) (hV : V < 4294967296) (hl : s.size ≤ 9223372036854775000) :
    Calls Tryz.prog 34 #[.pointer (some ⟨p, 0, none⟩), .int .u32 V] w (LaysX p (s ++ bs (nb 4 V)) w) := by
  have hz : (bs (nb 4 V)).size = 4 := by rw [bs_size]; exact nb_len _ _
  have hc : ¬ 9223372036854775807 < s.size + (bs (nb 4 V)).size := by omega
  have C := hid (fun x => xnumber_any V 4 x (by omega) (by omega))
  have H := hid h
  have c0 := h.c0
  have f0 := froz_of (i := 0) h
  have hlt := h.lt
  have hw : IntKind.u64.wrap (V : Int) = V := by rw [IntKind.wrap_u64]; omega
  clear h hl hz
  generalize bs (nb 4 V) = F at *
  have C1 : Hid (∀ x, Below w.heap.size w x → Calls Tryz.prog 82 #[.int .u64 V, .int .i64 4] x fun e w' => e = .returned (.string F) ∧ Hid (Below w.heap.size w w') ∧ Hid (WX w' p s) ∧ w'.cell? ⟨p, 0, none⟩ = some (.string s) ∧ w'.frozen? ⟨p, 0, none⟩ = false) := by
    intro x hx
    refine (C.out x).mono ?_
    rintro e w' ⟨rfl, hb⟩
    have hb' := bel_next hx (Nat.le_refl _) hb
    have h' := H.out.below hb'
    exact ⟨rfl, hb', h', h'.c0, froz_of h'⟩
  have b1 : Below w.heap.size w w.drew := (Below.refl _ _).drew
  clear C
  go_enter Tryz.func34, Tryz.ntmps34
  go_wp2_with fail
  go_region_with ((go_at_call 82; refine (C1.out w.drew b1).mono ?_; rintro e w' ⟨rfl, hb', hx', cc', ff'⟩))
  all_goals
    go_wp2_with fail
    go_end0
    exact ⟨rfl, heap_set hx'.out, (Ch.of_below hb'.out).setCell _ _ (fun _ => rfl)⟩
set_option maxHeartbeats 400000 in
set_option maxRecDepth 20000 in
theorem xwu64_any (p : Nat) (s : ByteArray) (V : Nat) (w : World) (h : WX w p s) (hV : V < 18446744073709551616) (hl : s.size ≤ 9223372036854775000) :
    Calls Tryz.prog 36 #[.pointer (some ⟨p, 0, none⟩), .int .u64 V] w (LaysX p (s ++ bs (nb 8 V)) w) := by
  have hz : (bs (nb 8 V)).size = 8 := by rw [bs_size]; exact nb_len _ _
  have hc : ¬ 9223372036854775807 < s.size + (bs (nb 8 V)).size := by omega
  have C := hid (fun x => xnumber_any V 8 x (by omega) (by omega))
  have H := hid h
  have c0 := h.c0
  have f0 := froz_of (i := 0) h
  have hlt := h.lt
  have hw : IntKind.u64.wrap (V : Int) = V := by rw [IntKind.wrap_u64]; omega
  clear h hl hz
  generalize bs (nb 8 V) = F at *
  have C1 : Hid (∀ x, Below w.heap.size w x → Calls Tryz.prog 82 #[.int .u64 V, .int .i64 8] x fun e w' => e = .returned (.string F) ∧ Hid (Below w.heap.size w w') ∧ Hid (WX w' p s) ∧ w'.cell? ⟨p, 0, none⟩ = some (.string s) ∧ w'.frozen? ⟨p, 0, none⟩ = false) := by
    intro x hx
    refine (C.out x).mono ?_
    rintro e w' ⟨rfl, hb⟩
    have hb' := bel_next hx (Nat.le_refl _) hb
    have h' := H.out.below hb'
    exact ⟨rfl, hb', h', h'.c0, froz_of h'⟩
  have b1 : Below w.heap.size w w.drew := (Below.refl _ _).drew
  clear C
  go_enter Tryz.func36, Tryz.ntmps36
  go_wp2_with fail
  go_region_with ((go_at_call 82; refine (C1.out w.drew b1).mono ?_; rintro e w' ⟨rfl, hb', hx', cc', ff'⟩))
  all_goals
    go_wp2_with fail
    go_end0
    exact ⟨rfl, heap_set hx'.out, (Ch.of_below hb'.out).setCell _ _ (fun _ => rfl)⟩
set_option maxHeartbeats 400000 in
set_option maxRecDepth 20000 in
theorem xwi32_any (p : Nat) (s : ByteArray) (v : Int) (w : World) (h : WX w p s) (hl : s.size ≤ 9223372036854775000) :
    Calls Tryz.prog 37 #[.pointer (some ⟨p, 0, none⟩), .int .i32 v] w (LaysX p (s ++ bs (nb 4 (v % 4294967296).toNat)) w) := by
  have C := hid (xwu32_any p s (v % 4294967296).toNat w h (by omega) hl)
  have hw : IntKind.u32.wrap v = ((v % 4294967296).toNat : Int) := by rw [IntKind.wrap_u32]; omega
  generalize (v % 4294967296).toNat = V at *
  go_enter Tryz.func37, Tryz.ntmps37
  go_wp2_with fail
  refine C.out.mono ?_
  rintro e w' ⟨rfl, hx, hc⟩
  have HX := hid hx
  have HC := hid hc
  clear hx hc
  go_wp2_with fail
  go_end0
  exact ⟨rfl, HX.out, HC.out⟩
set_option maxHeartbeats 400000 in
set_option maxRecDepth 20000 in
theorem xwi64_any (p : Nat) (s : ByteArray) (v : Int) (w : World) (h : WX w p s) (hl : s.size ≤ 9223372036854775000) :
    Calls Tryz.prog 39 #[.pointer (some ⟨p, 0, none⟩), .int .i64 v] w (LaysX p (s ++ bs (nb 8 (v % 18446744073709551616).toNat)) w) := by
  have C := hid (xwu64_any p s (v % 18446744073709551616).toNat w h (by omega) hl)
  have hw : IntKind.u64.wrap v = ((v % 18446744073709551616).toNat : Int) := by rw [IntKind.wrap_u64]; omega
  generalize (v % 18446744073709551616).toNat = V at *
  go_enter Tryz.func39, Tryz.ntmps39
  go_wp2_with fail
  refine C.out.mono ?_
  rintro e w' ⟨rfl, hx, hc⟩
  have HX := hid hx
  have HC := hid hc
  clear hx hc
  go_wp2_with fail
  go_end0
  exact ⟨rfl, HX.out, HC.out⟩
end Go.Proofs.YtpfaioncaolmjaaGreat
