/- Put32 of the document's writer. -/
import Derived.Test.YtpfaioncaolmjaaGreatWpt
import Derived.Deep.RegionLaw
namespace Go.Proofs.YtpfaioncaolmjaaGreat
open Go.RowKit
set_option maxHeartbeats 1000000 in
set_option maxRecDepth 20000 in
theorem xput_no (q : Nat) (s : ByteArray) (at' : Int) (v : Nat) (w : World) (h : WX w q s) (hs : s.size ≤ 9223372036854775000) (hn : ¬ (0 ≤ at' ∧ at' ≤ (s.size : Int) - 4)) :
    Calls Tryz.prog 48 #[.pointer (some ⟨q, 0, none⟩), .int .i64 at', .int .u32 v] w fun e w' => e = .returned (.bool false) ∧ w' = w := by
  have c0 := h.c0
  have hw : IntKind.i64.wrap ((s.size : Int) - 4) = (s.size : Int) - 4 := wrap_in (by omega) (by omega)
  by_cases h0 : at' < 0
  · have d0 : decide (at' < 0) = true := decide_eq_true h0
    go_enter Tryz.func48, Tryz.ntmps48
    go_wp2_with fail
    go_ret
    exact ⟨rfl, rfl⟩
  · have d0 : decide (at' < 0) = false := decide_eq_false h0
    by_cases h4 : s.size < 4
    · have d4 : decide ((s.size : Int) < 4) = true := decide_eq_true (by omega)
      go_enter Tryz.func48, Tryz.ntmps48
      go_wp2_with fail
      go_ret
      exact ⟨rfl, rfl⟩
    · have d4 : decide ((s.size : Int) < 4) = false := decide_eq_false (by omega)
      have h1 : (s.size : Int) - 4 < at' := by omega
      have d1 : decide ((s.size : Int) - 4 < at') = true := decide_eq_true h1
      go_enter Tryz.func48, Tryz.ntmps48
      go_wp2_with fail
      go_ret
      exact ⟨rfl, rfl⟩
set_option maxHeartbeats 1000000 in
set_option maxRecDepth 20000 in
theorem xput_yes (q : Nat) (s : ByteArray) (A v : Nat) (w : World) (h : WX w q s) (hs : s.size ≤ 9223372036854775000) (hA : A + 4 ≤ s.size) (hv : v < 4294967296) :
    Calls Tryz.prog 48 #[.pointer (some ⟨q, 0, none⟩), .int .i64 A, .int .u32 v] w fun e w' => e = .returned (.bool true) ∧ WX w' q (s.extract 0 A ++ bs (nb 4 v) ++ s.extract (A + 4) s.size) ∧ Ch (fun i => i = q) w w' := by
  have hz : (bs (nb 4 v)).size = 4 := by rw [bs_size]; exact nb_len _ _
  obtain ⟨K, hK⟩ : ∃ K, K = A + 4 := ⟨_, rfl⟩
  rw [← hK]
  have hx1 : (s.extract 0 A).size = A := by rw [ByteArray.size_extract]; omega
  have hx2 : (s.extract K s.size).size = s.size - K := by rw [ByteArray.size_extract]; omega
  have hKI : (A : Int) + 4 = (K : Int) := by omega
  have hwK : IntKind.i64.wrap (K : Int) = (K : Int) := wrap_in (by omega) (by omega)
  have hw : IntKind.i64.wrap ((s.size : Int) - 4) = (s.size : Int) - 4 := wrap_in (by omega) (by omega)
  have a0 : (0 : Int) ≤ (A : Int) := by omega
  have a1 : (A : Int) ≤ (s.size : Int) := by omega
  have a2 : (K : Int) ≤ (s.size : Int) := by omega
  have a3 : (0 : Int) ≤ (K : Int) := by omega
  have d0 : decide ((A : Int) < 0) = false := decide_eq_false (by omega)
  have d4 : decide ((s.size : Int) < 4) = false := decide_eq_false (by omega)
  have h1 : ¬ (s.size : Int) - 4 < (A : Int) := by omega
  have d1 : decide ((s.size : Int) - 4 < (A : Int)) = false := decide_eq_false h1
  have hmn : min A s.size = A := by omega
  have C := hid (fun x => xnumber_any v 4 x (by omega) (by omega))
  have H := hid h
  have c0 := h.c0
  have f0 := froz_of (i := 0) h
  have hlt := h.lt
  have hwv : IntKind.u64.wrap (v : Int) = v := by rw [IntKind.wrap_u64]; omega
  generalize bs (nb 4 v) = F at *
  have e1 : ¬ 9223372036854775807 < (s.extract 0 A).size + F.size := by omega
  have e2 : ¬ 9223372036854775807 < (s.extract 0 A ++ F).size + (s.extract K s.size).size := by rw [ByteArray.size_append]; omega
  have e3 : ¬ 9223372036854775807 < A + F.size := by omega
  have e4 : ¬ 9223372036854775807 < A + F.size + (s.size - K) := by omega
  have C1 : Hid (∀ x, Below w.heap.size w x → Calls Tryz.prog 82 #[.int .u64 v, .int .i64 4] x fun e w' => e = .returned (.string F) ∧ Hid (Below w.heap.size w w') ∧ Hid (WX w' q s) ∧ w'.cell? ⟨q, 0, none⟩ = some (.string s) ∧ w'.frozen? ⟨q, 0, none⟩ = false) := by
    intro x hx
    refine (C.out x).mono ?_
    rintro e w' ⟨rfl, hb⟩
    have hb' := bel_next hx (Nat.le_refl _) hb
    have h' := H.out.below hb'
    exact ⟨rfl, hb', h', h'.c0, froz_of h'⟩
  have b1 : Below w.heap.size w w.drew := (Below.refl _ _).drew
  clear C h hs hA hK hv hz hx1 hx2
  go_enter Tryz.func48, Tryz.ntmps48
  go_wp2_with fail
  go_region_with ((go_at_call 82; refine (C1.out w.drew b1).mono ?_; rintro e w' ⟨rfl, hb', hx', cc', ff'⟩))
  all_goals
    go_wp2_with fail
    go_ret
    exact ⟨rfl, heap_set hx'.out, (Ch.of_below hb'.out).setCell _ _ (fun _ => rfl)⟩
end Go.Proofs.YtpfaioncaolmjaaGreat
