/- The document's writer: numbers of two, four and eight bytes. -/
import Derived.Test.YtpfaioncaolmjaaGreatWX5
import Derived.Deep.RegionLaw
namespace Go.Proofs.YtpfaioncaolmjaaGreat
open Go.RowKit
set_option maxHeartbeats 400000 in
set_option maxRecDepth 20000 in
theorem xwu16_any (p : Nat) (s : ByteArray) (V : Nat) (w : World) (h : WX w p s) (hV : V < 65536) (hl : s.size ≤ 9223372036854775000) :
    Calls Tryz.prog 32 #[.pointer (some ⟨p, 0, none⟩), .int .u16 V] w (LaysX p (s ++ bs (nb 2 V)) w) := by
  have hz : (bs (nb 2 V)).size = 2 := by rw [bs_size]; exact nb_len _ _
  have hc : ¬ 9223372036854775807 < s.size + (bs (nb 2 V)).size := by omega
  have C := hid (fun x => xnumber_any V 2 x (by omega) (by omega))
  have H := hid h
  have c0 := h.c0
  have f0 := froz_of (i := 0) h
  have hlt := h.lt
  have hw : IntKind.u64.wrap (V : Int) = V := by rw [IntKind.wrap_u64]; omega
  clear h hl hz
  generalize bs (nb 2 V) = F at *
  have C1 : Hid (∀ x, Below w.heap.size w x → Calls Tryz.prog 82 #[.int .u64 V, .int .i64 2] x fun e w' => e = .returned (.string F) ∧ Hid (Below w.heap.size w w') ∧ Hid (WX w' p s) ∧ w'.cell? ⟨p, 0, none⟩ = some (.string s) ∧ w'.frozen? ⟨p, 0, none⟩ = false) := by
    intro x hx
    refine (C.out x).mono ?_
    rintro e w' ⟨rfl, hb⟩
    have hb' := bel_next hx (Nat.le_refl _) hb
    have h' := H.out.below hb'
    exact ⟨rfl, hb', h', h'.c0, froz_of h'⟩
  have b1 : Below w.heap.size w w.drew := (Below.refl _ _).drew
  clear C
  go_enter Tryz.func32, Tryz.ntmps32
  go_wp2_with fail
  go_region_with ((go_at_call 82; refine (C1.out w.drew b1).mono ?_; rintro e w' ⟨rfl, hb', hx', cc', ff'⟩))
  all_goals
    go_wp2_with fail
    go_end0
    exact ⟨rfl, heap_set hx'.out, (Ch.of_below hb'.out).setCell _ _ (fun _ => rfl)⟩
set_option maxHeartbeats 400000 in
set_option maxRecDepth 20000 in
theorem xwu32_any (p : Nat) (s : ByteArray) (V : Nat) (w : World) (h : WX w p s) (hV : V < 4294967296) (hl : s.size ≤ 9223372036854775000) :
    Calls Tryz.prog 34 #[.pointer (some ⟨p, 0, none⟩), .int .u32 V] w (LaysX p (s ++ bs (nb 4 V)) w) := by
  have hz : (bs (nb 4 V)).size = 4 := by rw [bs_size]; exact nb_len _ _
  have hc : ¬ 9223372036854775807 < s.size + (bs (nb 4 V)).size := by omega
  have C := hid (fun x => xnumber_any V 4 x (by omega) (by omega))
  have H := hid h
  have c0 := h.c0
  have f0 := froz_of (i := 0) h
  have hlt := h.lt
  have hw : IntKind.u64.wrap (V : Int) = V := by rw [IntKind.wrap_u64]; omega
  clear h hl hz
  generalize bs (nb 4 V) = F at *
  have C1 : Hid (∀ x, Below w.heap.size w x → Calls Tryz.prog 82 #[.int .u64 V, .int .i64 4] x fun e w' => e = .returned (.string F) ∧ Hid (Below w.heap.size w w') ∧ Hid (WX w' p s) ∧ w'.cell? ⟨p, 0, none⟩ = some (.string s) ∧ w'.frozen? ⟨p, 0, none⟩ = false) := by
    intro x hx
    refine (C.out x).mono ?_
    rintro e w' ⟨rfl, hb⟩
    have hb' := bel_next hx (Nat.le_refl _) hb
    have h' := H.out.below hb'
    exact ⟨rfl, hb', h', h'.c0, froz_of h'⟩
  have b1 : Below w.heap.size w w.drew := (Below.refl _ _).drew
  clear C
  go_enter Tryz.func34, Tryz.ntmps34
  go_wp2_with fail
  go_region_with ((go_at_call 82; refine (C1.out w.drew b1).mono ?_; rintro e w' ⟨rfl, hb', hx', cc', ff'⟩))
  all_goals
    go_wp2_with fail
    go_end0
    exact ⟨rfl, heap_set hx'.out, (Ch.of_below hb'.out).setCell _ _ (fun _ => rfl)⟩
set_option maxHeartbeats 400000 in
set_option maxRecDepth 20000 in
theorem xwu64_any (p : Nat) (s : ByteArray) (V : Nat) (w : World) (h : WX w p s) (hV : V < 18446744073709551616) (hl : s.size ≤ 9223372036854775000) :
    Calls Tryz.prog 36 #[.pointer (some ⟨p, 0, none⟩), .int .u64 V] w (LaysX p (s ++ bs (nb 8 V)) w) := by
  have hz : (bs (nb 8 V)).size = 8 := by rw [bs_size]; exact nb_len _ _
  have hc : ¬ 9223372036854775807 < s.size + (bs (nb 8 V)).size := by omega
  have C := hid (fun x => xnumber_any V 8 x (by omega) (by omega))
  have H := hid h
  have c0 := h.c0
  have f0 := froz_of (i := 0) h
  have hlt := h.lt
  have hw : IntKind.u64.wrap (V : Int) = V := by rw [IntKind.wrap_u64]; omega
  clear h hl hz
  generalize bs (nb 8 V) = F at *
  have C1 : Hid (∀ x, Below w.heap.size w x → Calls Tryz.prog 82 #[.int .u64 V, .int .i64 8] x fun e w' => e = .returned (.string F) ∧ Hid (Below w.heap.size w w') ∧ Hid (WX w' p s) ∧ w'.cell? ⟨p, 0, none⟩ = some (.string s) ∧ w'.frozen? ⟨p, 0, none⟩ = false) := by
    intro x hx
    refine (C.out x).mono ?_
    rintro e w' ⟨rfl, hb⟩
    have hb' := bel_next hx (Nat.le_refl _) hb
    have h' := H.out.below hb'
    exact ⟨rfl, hb', h', h'.c0, froz_of h'⟩
  have b1 : Below w.heap.size w w.drew := (Below.refl _ _).drew
  clear C
  go_enter Tryz.func36, Tryz.ntmps36
  go_wp2_with fail
  go_region_with ((go_at_call 82; refine (C1.out w.drew b1).mono ?_; rintro e w' ⟨rfl, hb', hx', cc', ff'⟩))
  all_goals
    go_wp2_with fail
    go_end0
    exact ⟨rfl, heap_set hx'.out, (Ch.of_below hb'.out).setCell _ _ (fun _ => rfl)⟩
set_option maxHeartbeats 400000 in
set_option maxRecDepth 20000 in
theorem xwi32_any (p : Nat) (s : ByteArray) (v : Int) (w : World) (h : WX w p s) (hl : s.size ≤ 9223372036854775000) :
    Calls Tryz.prog 37 #[.pointer (some ⟨p, 0, none⟩), .int .i32 v] w (LaysX p (s ++ bs (nb 4 (v % 4294967296).toNat)) w) := by
  have C := hid (xwu32_any p s (v % 4294967296).toNat w h (by omega) hl)
  have hw : IntKind.u32.wrap v = ((v % 4294967296).toNat : Int) := by rw [IntKind.wrap_u32]; omega
  generalize (v % 4294967296).toNat = V at *
  go_enter Tryz.func37, Tryz.ntmps37
  go_wp2_with fail
  refine C.out.mono ?_
  rintro e w' ⟨rfl, hx, hc⟩
  have HX := hid hx
  have HC := hid hc
  clear hx hc
  go_wp2_with fail
  go_end0
  exact ⟨rfl, HX.out, HC.out⟩
set_option maxHeartbeats 400000 in
set_option maxRecDepth 20000 in
theorem xwi64_any (p : Nat) (s : ByteArray) (v : Int) (w : World) (h : WX w p s) (hl : s.size ≤ 9223372036854775000) :
    Calls Tryz.prog 39 #[.pointer (some ⟨p, 0, none⟩), .int .i64 v] w (LaysX p (s ++ bs (nb 8 (v % 18446744073709551616).toNat)) w) := by
  have C := hid (xwu64_any p s (v % 18446744073709551616).toNat w h (by omega) hl)
  have hw : IntKind.u64.wrap v = ((v % 18446744073709551616).toNat : Int) := by rw [IntKind.wrap_u64]; omega
  generalize (v % 18446744073709551616).toNat = V at *
  go_enter Tryz.func39, Tryz.ntmps39
  go_wp2_with fail
  refine C.out.mono ?_
  rintro e w' ⟨rfl, hx, hc⟩
  have HX := hid hx
  have HC := hid hc
  clear hx hc
  go_wp2_with fail
  go_end0
  exact ⟨rfl, HX.out, HC.out⟩
end Go.Proofs.YtpfaioncaolmjaaGreat
