/- The calls of layer 17's writer, and how the fields of each kind are written. -/
import Derived.Test.YtgdaaohlongmlaaGreatPt1
import Derived.Deep.RegionHeld3
namespace Go.Proofs.YtgdaaohlongmlaaGreat
open Go.RowKit
/-- A writer whose fault is kept. -/
def WF (w : World) (p : Nat) : Prop := ∃ a b T, w.heap[p]? = some (.cells #[a, b, .int .i64 21] T (0, 0))
theorem Lays.box {p B : Nat} {l : List Nat} {w : World} {o : Obj} {e : Ending} {w' : World} (h : Lays p B l (w.alloc o) e w') : Lays p B l w e w' :=
  ⟨h.1, h.2.1, (Ch.alloc (Ch.refl _ _) _).tu h.2.2⟩
set_option maxHeartbeats 1000000 in
theorem pkind_any (p B : Nat) (l : List Nat) (k : Nat) (w : World) (h : Wr w p B l) (hk : k < 256) (hl : l.length ≤ 1000) :
    Calls Tryz.prog 20 #[.pointer (some ⟨p, 0, none⟩), .int .i64 k] w (Lays p B (l ++ nb 1 k) w) := by
  have hw : IntKind.u8.wrap (k : Int) = k := by rw [IntKind.wrap_u8]; omega
  have C := hid (wu8_any p B l k w h hk (by omega))
  go_enter Tryz.func20, Tryz.ntmps20
  go_wp2_with (go_at_call 59; refine C.out.mono ?_; rintro e w' ⟨rfl, h1, h2⟩)
  go_end0
  exact ⟨rfl, h1, h2⟩
set_option maxHeartbeats 1000000 in
theorem perr_any (p B : Nat) (l : List Nat) (v : Int) (w : World) (h : Wr w p B l) (h0 : 0 ≤ v) (h1 : v ≤ 2147483647) (hl : l.length ≤ 1000) :
    Calls Tryz.prog 30 #[.pointer (some ⟨p, 0, none⟩), .int .i64 v] w (Lays p B (l ++ nb 4 v.toNat) w) := by
  have hw : IntKind.i32.wrap v = v := by simp only [IntKind.wrap, IntKind.bits, IntKind.signed, Bool.true_and]; split <;> rename_i h <;> simp at h <;> omega
  have C := hid (wi32_any p B l v w h (by omega))
  rw [show v % 4294967296 = v by omega] at C
  go_enter Tryz.func30, Tryz.ntmps30
  go_wp2_with (go_at_call 77; refine C.out.mono ?_; rintro e w' ⟨rfl, h1, h2⟩)
  go_end0
  exact ⟨rfl, h1, h2⟩
set_option maxHeartbeats 1000000 in
theorem ptruth_any (p B : Nat) (l : List Nat) (b : Bool) (w : World) (h : Wr w p B l) (hl : l.length ≤ 1000) :
    Calls Tryz.prog 68 #[.pointer (some ⟨p, 0, none⟩), .bool b] w (Lays p B (l ++ nb 1 (if b then 1 else 0)) w) := by
  cases b with
  | false =>
    have C := hid (wu8_any p B l 0 w h (by omega) (by omega))
    go_enter Tryz.func68, Tryz.ntmps68
    go_wp2_with (go_at_call 59; refine C.out.mono ?_; rintro e w' ⟨rfl, h1, h2⟩)
    go_end0
    exact ⟨rfl, h1, h2⟩
  | true =>
    have C := hid (wu8_any p B l 1 w h (by omega) (by omega))
    go_enter Tryz.func68, Tryz.ntmps68
    go_wp2_with (go_at_call 59; refine C.out.mono ?_; rintro e w' ⟨rfl, h1, h2⟩)
    go_end0
    exact ⟨rfl, h1, h2⟩
set_option maxHeartbeats 1000000 in
theorem pdata_ok (p B : Nat) (l : List Nat) (t : ByteArray) (M : Nat) (w : World) (h : Wr w p B l) (ht : t.size ≤ M) (hM : M ≤ 1073741824) (hl : l.length ≤ 1000) :
    Calls Tryz.prog 48 #[.pointer (some ⟨p, 0, none⟩), .string t, .int .i64 M] w (Lays p B (l ++ (nb 4 t.size ++ bl t)) w) := by
  have hw : IntKind.u32.wrap (t.size : Int) = t.size := by rw [IntKind.wrap_u32]; omega
  have hlt : ¬ (M : Int) < (t.size : Int) := by omega
  have C := hid (wu32_any p B l t.size w h (by omega) (by omega))
  have C2 := hid (fun w1 h1 => wraw_any p B (l ++ nb 4 t.size) t w1 h1 (by rw [List.length_append, nb_len]; omega))
  clear h
  go_enter Tryz.func48, Tryz.ntmps48
  go_wp2_with fail
  refine C.out.mono ?_
  rintro e w1 ⟨rfl, h1, hc1⟩
  go_wp2_with fail
  refine (C2.out w1 h1).mono ?_
  rintro e w2 ⟨rfl, h2, hc2⟩
  go_wp2_with fail
  go_end0
  rw [List.append_assoc] at h2
  exact ⟨rfl, h2, hc1.tu hc2⟩
set_option maxHeartbeats 1000000 in
theorem pdata_long (p B : Nat) (l : List Nat) (t : ByteArray) (M : Nat) (w : World) (h : Wr w p B l) (ht : M < t.size) :
    Calls Tryz.prog 48 #[.pointer (some ⟨p, 0, none⟩), .string t, .int .i64 M] w fun e w' => e = .returned (.tuple #[]) ∧ WF w' p ∧ Ch (WU p B w) w w' := by
  have hlt : (M : Int) < (t.size : Int) := by omega
  obtain ⟨a, n, cap, T, g, _⟩ := h
  have c2 : w.cell? ⟨p, 2, none⟩ = some (.int .i64 0) := (cell_of g).trans rfl
  have f2 := froz_of (i := 2) g
  have G := hid g
  clear g
  go_enter Tryz.func48, Tryz.ntmps48
  go_wp2_with fail
  exact bodyPost_ret (v := .tuple #[]) (by simp [results, Tryz.results48, go_sem]) rfl ⟨rfl, ⟨_, _, _, heap_set G.out⟩, (Ch.refl _ _).setCell _ _ (fun _ => Or.inl rfl)⟩
set_option maxHeartbeats 1000000 in
theorem pwhole_ok (p B : Nat) (l : List Nat) (w : World) (h : Wr w p B l) :
    Calls Tryz.prog 21 #[.pointer (some ⟨p, 0, none⟩)] w fun e w' => e = .returned (.tuple #[.string (bs l), .int .i64 0]) ∧ w' = w := by
  have C := hid (wbytes_any p B l w h)
  obtain ⟨a, n, cap, T, g, _⟩ := h
  have c2 : w.cell? ⟨p, 2, none⟩ = some (.int .i64 0) := (cell_of g).trans rfl
  clear g
  go_enter Tryz.func21, Tryz.ntmps21
  go_wp2_with (go_at_call 60; refine C.out.mono ?_; rintro e w' ⟨rfl, rfl⟩)
  go_ret2
  exact ⟨rfl, rfl⟩
set_option maxHeartbeats 1000000 in
theorem pwhole_bad (p : Nat) (w : World) (h : WF w p) :
    Calls Tryz.prog 21 #[.pointer (some ⟨p, 0, none⟩)] w fun e w' => e = .returned (.tuple #[.string ⟨#[]⟩, .int .i64 21]) ∧ ∃ n, w' = w.drewN n := by
  obtain ⟨a, b, T, g⟩ := h
  have c2 : w.cell? ⟨p, 2, none⟩ = some (.int .i64 21) := (cell_of g).trans rfl
  clear g
  go_enter Tryz.func21, Tryz.ntmps21
  go_wp2_with fail
  go_quiet (fail)
  go_wp2_with fail
  go_ret2
  exact ⟨rfl, _, rfl⟩
end Go.Proofs.YtgdaaohlongmlaaGreat
