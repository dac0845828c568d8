/- The document's writer: one byte written. -/
import Derived.Test.YtpfaioncaolmjaaGreatWX3
import Derived.Deep.RegionLaw
namespace Go.Proofs.YtpfaioncaolmjaaGreat
open Go.RowKit
set_option maxHeartbeats 400000 in
set_option maxRecDepth 20000 in
theorem xwu8_any (p : Nat) (s : ByteArray) (V : Nat) (w : World) (h : WX w p s) (hV : V < 256) (hl : s.size ≤ 9223372036854775000) :
    Calls Tryz.prog 31 #[.pointer (some ⟨p, 0, none⟩), .int .u8 V] w (LaysX p (s ++ bs [V]) w) := by
  have hz : (bs [V]).size = 1 := bs_size _
  have hc : ¬ 9223372036854775807 < s.size + (bs [V]).size := by omega
  have C := hid (fun x => xnumber1_any V x hV)
  have H := hid h
  have c0 := h.c0
  have f0 := froz_of (i := 0) h
  have hlt := h.lt
  have hw : IntKind.u64.wrap (V : Int) = V := by rw [IntKind.wrap_u64]; omega
  clear h hl hz
  generalize bs [V] = F at *
  have C1 : Hid (∀ x, Below w.heap.size w x → Calls Tryz.prog 82 #[.int .u64 V, .int .i64 1] x fun e w' => e = .returned (.string F) ∧ Hid (Below w.heap.size w w') ∧ Hid (WX w' p s) ∧ w'.cell? ⟨p, 0, none⟩ = some (.string s) ∧ w'.frozen? ⟨p, 0, none⟩ = false) := by
    intro x hx
    refine (C.out x).mono ?_
    rintro e w' ⟨rfl, hb⟩
    have hb' := bel_next hx (Nat.le_refl _) hb
    have h' := H.out.below hb'
    exact ⟨rfl, hb', h', h'.c0, froz_of h'⟩
  have b1 : Below w.heap.size w w.drew := (Below.refl _ _).drew
  clear C
  go_enter Tryz.func31, Tryz.ntmps31
  go_wp2_with fail
  go_region_with ((go_at_call 82; refine (C1.out w.drew b1).mono ?_; rintro e w' ⟨rfl, hb', hx', cc', ff'⟩))
  all_goals
    go_wp2_with fail
    go_end0
    exact ⟨rfl, heap_set hx'.out, (Ch.of_below hb'.out).setCell _ _ (fun _ => rfl)⟩
end Go.Proofs.YtpfaioncaolmjaaGreat
