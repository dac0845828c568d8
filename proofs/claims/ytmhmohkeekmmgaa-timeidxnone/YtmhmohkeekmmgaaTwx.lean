/- The document's writer: numbers of eight bytes. -/
import Derived.Test.YtmhmohkeekmmgaaTxh
import Derived.Laws.MakeOwn
import Derived.Deep.OwnRows
import Derived.Deep.RegionLaw
namespace Go.Proofs.Ytmhmohkeekmmgaa
open Go.RowKit
theorem bs_app9 (l m : List Nat) : bs (l ++ m) = bs l ++ bs m := by
  unfold bs
  apply ByteArray.ext
  rw [ByteArray.data_append]
  simp
/-- The document's writer: what is written. -/
def WX (w : World) (p : Nat) (s : ByteArray) : Prop := w.heap[p]? = some (.cells #[.string s] 92 (0, 0))
def LaysX (p : Nat) (s : ByteArray) (w : World) (e : Ending) (w' : World) : Prop := e = .returned (.tuple #[]) ∧ WX w' p s ∧ Ch (fun i => i = p) w w'
theorem WX.c0 {w : World} {p : Nat} {s : ByteArray} (h : WX w p s) : w.cell? ⟨p, 0, none⟩ = some (.string s) := (cell_of h).trans rfl
theorem WX.lt {w : World} {p : Nat} {s : ByteArray} (h : WX w p s) : p < w.heap.size := lt_of_heap h
theorem WX.below {w w' : World} {p : Nat} {s : ByteArray} (h : WX w p s) (hb : Below w.heap.size w w') : WX w' p s := (hb.block p h.lt).trans h
theorem xnewwriter_any (w : World) :
    Calls Try.prog 44 #[] w fun e w' => e = .returned (.pointer (some ⟨w.heap.size, 0, none⟩)) ∧ w' = w.alloc (.cells #[.string ⟨#[]⟩] 92) := by
  go_enter Try.func44, Try.ntmps44
  go_wp2
  go_ret
  exact ⟨rfl, rfl⟩
theorem xwbytes_any (p : Nat) (s : ByteArray) (w : World) (h : WX w p s) :
    Calls Try.prog 46 #[.pointer (some ⟨p, 0, none⟩)] w fun e w' => e = .returned (.string s) ∧ w' = w := by
  have c0 := h.c0
  go_enter Try.func46, Try.ntmps46
  go_wp2
  go_ret
  exact ⟨rfl, rfl⟩
theorem xwraw_any (p : Nat) (s t : ByteArray) (w : World) (h : WX w p s) (hl : s.size + t.size ≤ 9223372036854775807) :
    Calls Try.prog 51 #[.pointer (some ⟨p, 0, none⟩), .string t] w (LaysX p (s ++ t) w) := by
  have c0 := h.c0
  have f0 := froz_of (i := 0) h
  have hc : ¬ 9223372036854775807 < s.size + t.size := by omega
  have H := hid h
  clear h hl
  go_enter Try.func51, Try.ntmps51
  go_wp2
  go_end0
  exact ⟨rfl, heap_set H.out, (Ch.refl _ _).setCell _ _ (fun _ => rfl)⟩
theorem nb_cons : ∀ (m v : Nat), nb (m + 1) v = v / 256 ^ m % 256 :: nb m v
  | 0, v => by simp [nb]
  | m + 1, v => by
    rw [nb, nb_cons m (v / 256), nb, Nat.div_div_eq_div_mul, Nat.pow_succ, Nat.mul_comm (256 ^ m) 256, List.cons_append]
theorem own_set1 {w : World} {B : Nat} {e : TypeId} {size g n cap : Nat} {xs : List Value} (h : w.ownsRow B e size (.slice (some ⟨g, 0, none⟩) n cap) n xs) (i : Nat) (u : Value) : (w.setCell ⟨g, i, none⟩ u).ownsRow B e size (.slice (some ⟨g, 0, none⟩) n cap) n (xs.set i u) := by
  refine ⟨by rw [List.length_set]; exact h.1, ?_⟩
  rcases h.2 with ⟨h1, _⟩ | ⟨g', cap', cur, hv, h3, h4, h5, h6, h7, h8⟩
  · cases h1
  · simp only [Value.slice.injEq, Option.some.injEq, Addr.mk.injEq, and_true, true_and] at hv
    obtain ⟨rfl, rfl⟩ := hv
    refine Or.inr ⟨g, cap, cur.setIfInBounds i u, rfl, h3, heap_set h4, h5, h6, by rw [Array.size_setIfInBounds]; exact h7, ?_⟩
    rw [Array.toList_setIfInBounds, List.take_set, h8]
/-- Under way: the last bytes are laid down. -/
def half (V k : Nat) : List Nat := List.replicate k 0 ++ nb (8 - k) V
theorem half_set (V k : Nat) (hk : k < 8) : (bc (half V (k + 1))).set k (.int .u8 ((V / 256 ^ (8 - (k + 1)) % 256 : Nat) : Int)) = bc (half V k) := by
  unfold half bc
  rw [show List.replicate (k + 1) 0 = List.replicate k 0 ++ [0] from by rw [List.replicate_succ'], List.append_assoc, List.map_append, List.set_append_right _ _ (by simp), List.map_append, List.map_append]
  simp only [List.length_map, List.length_replicate, Nat.sub_self]
  rw [show (8 - k) = (8 - (k + 1)) + 1 from by omega, nb_cons]
  rfl
theorem make8 (w : World) : (Instr.makeSlice 49 (.int .i64 8) (.int .i64 8)).run Try.prog w = .ok (.slice (some ⟨w.heap.size, 0, none⟩) 8 8) (w.alloc (.cells #[.int .u8 0, .int .u8 0, .int .u8 0, .int .u8 0, .int .u8 0, .int .u8 0, .int .u8 0, .int .u8 0] 5)) := by
  obtain ⟨i0, hi, hz0, hz1, hz2⟩ := info_parts Try.info5
  have h := run_make (P := Try.prog) w 49 5 i0 (.int .u8 0) Try.underBytes hi hz0 .i64 .i64 8 8 (by omega) (by omega) (by rw [hz2]; omega) (by omega)
  rw [hz1] at h
  have e : madeCells (Value.int .u8 0).cells (Int.toNat 8 * 1) = #[.int .u8 0, .int .u8 0, .int .u8 0, .int .u8 0, .int .u8 0, .int .u8 0, .int .u8 0, .int .u8 0] := by kernel_rfl
  rw [e] at h
  exact h
set_option maxRecDepth 20000 in
set_option maxHeartbeats 2000000 in
theorem number8_any (V : Nat) (w : World) (hVb : V < 18446744073709551616) : Calls Try.prog 65 #[.int .u64 V, .int .i64 8] w fun e w' => e = .returned (.string (bs (nb 8 V))) ∧ Below w.heap.size w w' := by
  have hmk := make8
  have HST : Hid ((w.alloc (.cells #[.int .u8 0, .int .u8 0, .int .u8 0, .int .u8 0, .int .u8 0, .int .u8 0, .int .u8 0, .int .u8 0] 5)).ownsRow w.heap.size 5 1 (.slice (some ⟨w.heap.size, 0, none⟩) 8 8) 8 (bc (half V 8))) := ⟨rfl, Or.inr ⟨w.heap.size, 8, _, rfl, Nat.le_refl _, heap_new _ _, Nat.le_refl _, by decide, rfl, rfl⟩⟩
  have HSB : Hid (Below w.heap.size w (w.alloc (.cells #[.int .u8 0, .int .u8 0, .int .u8 0, .int .u8 0, .int .u8 0, .int .u8 0, .int .u8 0, .int .u8 0] 5))) := (Below.refl _ _).alloc (Nat.le_refl _) _
  go_enter Try.func65, Try.ntmps65
  go_wp2_with fail
  generalize w.alloc (.cells #[.int .u8 0, .int .u8 0, .int .u8 0, .int .u8 0, .int .u8 0, .int .u8 0, .int .u8 0, .int .u8 0] 5) = ws at *
  go_loopg [0, 6] 8 (fun k vu vi wr => ∃ X : Nat, X = V / 256 ^ (8 - k) ∧ vu = .int .u64 X ∧ vi = .int .i64 ((k : Int) - 1) ∧ k ≤ 8 ∧ Hid (wr.ownsRow w.heap.size 5 1 (.slice (some ⟨w.heap.size, 0, none⟩) 8 8) 8 (bc (half V k))) ∧ Hid (Below w.heap.size w wr))
  case atStart => exact ⟨V, by simp, rfl, by first | rfl | go_num, Nat.le_refl _, HST.out, HSB.out⟩
  case round =>
    clear HST HSB hmk
    obtain ⟨X, hX, rfl, rfl, hk, HR, HB⟩ := hrel
    have hXb : X < 18446744073709551616 := by rw [hX]; exact Nat.lt_of_le_of_lt (Nat.div_le_self _ _) hVb
    by_cases hg : 0 < gk
    · obtain ⟨q, rfl⟩ : ∃ q, gk = q + 1 := ⟨gk - 1, by omega⟩
      have e1 : ((q + 1 : Nat) : Int) - 1 = q := by omega
      rw [e1]
      have HS := hid (half_set V q (by omega))
      rw [show 8 - (q + 1) = 8 - (q + 1) from rfl, ← hX] at HS
      have HX2 : Hid (X / 256 = V / 256 ^ (8 - q)) := by
        show _ = _
        rw [hX, Nat.div_div_eq_div_mul, ← Nat.pow_succ]
        congr 2
        omega
      obtain ⟨Y, hY⟩ : ∃ Y, Y = X / 256 := ⟨_, rfl⟩
      have hYI : (X : Int) / 256 = (Y : Int) := by omega
      obtain ⟨Z, hZ⟩ : ∃ Z, Z = X % 256 := ⟨_, rfl⟩
      have hZI : (X : Int) % 256 = (Z : Int) := by omega
      have hZw : IntKind.u8.wrap (Z : Int) = (Z : Int) := by rw [IntKind.wrap_u8]; omega
      rw [← hZ] at HS
      rw [← hY] at HX2
      have hqI : (0 : Int) ≤ q := by omega
      have hq8 : (q : Int) < 8 := by omega
      have y0 : wr.cell? ⟨w.heap.size, q, none⟩ = (bc (half V (q + 1)))[q]? := HR.out.cellAt q (by omega)
      obtain ⟨old, hold⟩ : ∃ old, (bc (half V (q + 1)))[q]? = some old := ⟨_, List.getElem?_eq_getElem (by rw [bc_len]; unfold half; rw [List.length_append, List.length_replicate, nb_len]; omega)⟩
      rw [hold] at y0
      have y1 : wr.frozen? ⟨w.heap.size, q, none⟩ = false := HR.out.frozenAt q
      clear e1 hX hY hZ hold
      go_wp2_with fail
      go_roundg q
      case measure => omega
      case rel => exact ⟨Y, HX2.out, rfl, by go_num, by omega, by rw [← HS.out]; exact own_set1 HR.out q _, HB.out.setCell (Nat.le_refl _) _⟩
    · have hg0 : gk = 0 := by omega
      subst hg0
      have e1 : ((0 : Nat) : Int) - 1 = -1 := by omega
      rw [e1]
      clear e1 hX
      have HE : Hid (bc (half V 0) = bc (nb 8 V)) := rfl
      rw [HE.out] at HR
      have hcv := conv_own (nb_byte 8 V) HR.out
      go_wp2_with fail
      go_ret
      exact ⟨rfl, HB.out⟩
set_option maxHeartbeats 400000 in
set_option maxRecDepth 20000 in
theorem xwu64_any (p : Nat) (s : ByteArray) (V : Nat) (w : World) (h : WX w p s) (hV : V < 18446744073709551616) (hl : s.size ≤ 9223372036854775000) :
    Calls Try.prog 58 #[.pointer (some ⟨p, 0, none⟩), .int .u64 V] w (LaysX p (s ++ bs (nb 8 V)) w) := by
  have hz : (bs (nb 8 V)).size = 8 := by rw [bs_size, nb_len]
  have hc : ¬ 9223372036854775807 < s.size + (bs (nb 8 V)).size := by omega
  have C := hid (fun x => number8_any V x hV)
  have H := hid h
  have c0 := h.c0
  have f0 := froz_of (i := 0) h
  have hlt := h.lt
  clear h hl hz
  generalize bs (nb 8 V) = F at *
  have C1 : Hid (∀ x, Below w.heap.size w x → Calls Try.prog 65 #[.int .u64 V, .int .i64 8] x fun e w' => e = .returned (.string F) ∧ Hid (Below w.heap.size w w') ∧ Hid (WX w' p s) ∧ w'.cell? ⟨p, 0, none⟩ = some (.string s) ∧ w'.frozen? ⟨p, 0, none⟩ = false) := by
    intro x hx
    refine (C.out x).mono ?_
    rintro e w' ⟨rfl, hb⟩
    have hb' := hx.trans (hb.mono hx.size)
    have h' := H.out.below hb'
    exact ⟨rfl, hb', h', h'.c0, froz_of h'⟩
  have b1 : Below w.heap.size w w.drew := ⟨rfl, rfl, rfl, Nat.le_refl _, fun _ _ => rfl⟩
  clear C
  go_enter Try.func58, Try.ntmps58
  go_wp2_with fail
  go_region_with ((go_at_call 65; refine (C1.out w.drew b1).mono ?_; rintro e w' ⟨rfl, hb', hx', cc', ff'⟩))
  all_goals
    go_wp2_with fail
    go_end0
    exact ⟨rfl, heap_set hx'.out, (Ch.of_below hb'.out).setCell _ _ (fun _ => rfl)⟩
theorem xwi64_any (p : Nat) (s : ByteArray) (v : Int) (w : World) (h : WX w p s) (hl : s.size ≤ 9223372036854775000) :
    Calls Try.prog 45 #[.pointer (some ⟨p, 0, none⟩), .int .i64 v] w (LaysX p (s ++ bs (n8 v)) w) := by
  obtain ⟨V, hV⟩ : ∃ V : Nat, V = (v % 18446744073709551616).toNat := ⟨_, rfl⟩
  have hVI : IntKind.u64.wrap v = (V : Int) := by rw [IntKind.wrap_u64]; omega
  have hVb : V < 18446744073709551616 := by omega
  have HC := hid (xwu64_any p s V w h hVb hl)
  have HN : Hid (n8 v = nb 8 V) := by show _ = _; unfold n8; rw [hV]
  rw [HN.out]
  clear h hl hV hVb HN
  go_enter Try.func45, Try.ntmps45
  go_wp2_with (go_at_call 58; refine HC.out.mono ?_; rintro e w' ⟨rfl, h1, h2⟩)
  go_end0
  exact ⟨rfl, h1, h2⟩
end Go.Proofs.Ytmhmohkeekmmgaa
