/- What a sheet's call for a number lays down: its bytes, great end first. -/
import Derived.Test.YtpfaioncaolmjaaGreatWr
namespace Go.Proofs.YtpfaioncaolmjaaGreat
open Go.RowKit
/-- The last n bytes of a number, great end first. -/
def nb : Nat → Nat → List Nat
  | 0, _ => []
  | n + 1, v => nb n (v / 256) ++ [v % 256]
theorem nb_len : ∀ (n v : Nat), (nb n v).length = n
  | 0, _ => rfl
  | n + 1, v => by rw [nb, List.length_append, nb_len n]; rfl
theorem nb_byte : ∀ (n v : Nat), ∀ b ∈ nb n v, b < 256
  | 0, _, b, hb => by simp [nb] at hb
  | n + 1, v, b, hb => by
    rw [nb] at hb
    rcases List.mem_append.1 hb with h | h
    · exact nb_byte n _ b h
    · simp at h; omega
theorem nb_next (n v j : Nat) : nb (n + 1) (v / 256 ^ j) = nb n (v / 256 ^ (j + 1)) ++ [v / 256 ^ j % 256] := by
  rw [nb, Nat.pow_succ, Nat.div_div_eq_div_mul]
theorem wrap_in {n : Int} (h1 : -9223372036854775808 ≤ n) (h2 : n ≤ 9223372036854775807) : IntKind.i64.wrap n = n := by
  simp only [IntKind.wrap, IntKind.bits, IntKind.signed, Bool.true_and]; split <;> rename_i h <;> simp at h <;> omega
theorem byte_at (v j : Nat) : IntKind.u8.wrap ((v : Int) / 2 ^ (8 * (j : Int)).toNat) = ((v / 256 ^ j % 256 : Nat) : Int) := by
  have e : (8 * (j : Int)).toNat = 8 * j := by omega
  have e2 : (2 : Int) ^ (8 * j) = ((256 ^ j : Nat) : Int) := by rw [Int.pow_mul, Int.natCast_pow]; rfl
  rw [e, e2, IntKind.wrap_u8]
  rfl
theorem p8 (j : Nat) : (2 : Int) ^ (8 * j) = ((256 ^ j : Nat) : Int) := by rw [Int.pow_mul, Int.natCast_pow]; rfl
set_option maxHeartbeats 1000000 in
set_option maxRecDepth 20000 in
theorem snumber_any (p B : Nat) (l : List Nat) (v size : Nat) (w : World) (h : Wr w p B l) (hs : size ≤ 8) (hl : l.length ≤ 140737488355000) :
    Calls Tryz.prog 77 #[.pointer (some ⟨p, 0, none⟩), .int .u64 v, .int .i64 size] w fun e w' => e = .returned (.tuple #[]) ∧ Wr w' p B (l ++ nb size v) ∧ Ch (WU p B w) w w' := by
  obtain ⟨i0, hi, hz0, hz1, hz2⟩ := info_parts Tryz.info5
  obtain ⟨a, n, cap, T, g, ho, hp, hB, hb⟩ := h
  go_enter Tryz.func77, Tryz.ntmps77
  go_wp2
  go_loopw [6] (fun i wr => ∃ (m : Nat) (a : Option Addr) (n cap : Nat), m ≤ size ∧ i = .int .i64 ((m : Int) - 1) ∧ wr.heap[p]? = some (.cells #[.int .i64 l.length, .slice a n cap] T (0, 0)) ∧ wr.ownsRow B 5 1 (.slice a n cap) (l ++ nb (size - m) (v / 256 ^ m)).length (bc (l ++ nb (size - m) (v / 256 ^ m))) ∧ Ch (WU p B w) w wr) (fun i _ => (intOf i + 1).toNat)
  case atStart => exact ⟨size, a, n, cap, Nat.le_refl _, by first | rfl | go_num, g, by rw [Nat.sub_self, nb, List.append_nil]; exact ho, Ch.refl _ _⟩
  case round =>
    obtain ⟨m, a', n', cap', hm, rfl, g', ho', hch⟩ := hrel
    have hsz := hch.size
    have c0 : wr.cell? ⟨p, 0, none⟩ = some (.int .i64 l.length) := (cell_of g').trans rfl
    have c1 : wr.cell? ⟨p, 1, none⟩ = some (.slice a' n' cap') := (cell_of g').trans rfl
    have f0 := froz_of (i := 0) g'
    have f1 := froz_of (i := 1) g'
    by_cases hlt : 0 < m
    · obtain ⟨j, rfl⟩ : ∃ j, m = j + 1 := ⟨m - 1, by omega⟩
      have e1 : ((j + 1 : Nat) : Int) - 1 = j := by omega
      rw [e1]
      clear e1
      have hX : (l ++ nb (size - (j + 1)) (v / 256 ^ (j + 1))).length ≤ 140737488355100 := by rw [List.length_append, nb_len]; omega
      generalize hX' : (l ++ nb (size - (j + 1)) (v / 256 ^ (j + 1))).length = X at hX ho'
      have hp8 := p8 j
      have hpw : p < wr.heap.size := by omega
      have hpw2 : p ≠ wr.heap.size := by omega
      have hw8 : IntKind.i64.wrap (8 * (j : Int)) = 8 * (j : Int) := wrap_in (by omega) (by omega)
      have h80 : ¬ 8 * (j : Int) < 0 := by omega
      go_wp2
      go_region_law (refine step_append_lies _ rfl _ _ 48 rfl B 5 i0 (.int .u8 0) 1 1 Tryz.underBytes hi hz0 hz1 hz2 rfl (by decide) _ _ _ (by simp [Act.eval]) (ho'.alloc _) ⟨wr.heap.size, 0, none⟩ 1 1 [.int .u8 (IntKind.u8.wrap ((v : Int) / 2 ^ (8 * (j : Int)).toNat))] (by simp [Act.eval]) rfl (by intro jj u hu; exact cell_one_new wr _ _ jj u hu) (one_cell _) (by omega) (by unfold maxLen; omega) (by omega) (by show B ≤ (wr.alloc _).heap.size; simp; omega) _ rfl ?_; intro g2 cap2 w1 hown hgrow hat hlt2; have hf := hgrow.block p (by show p < (wr.alloc _).heap.size; simp; omega) (fun e => by have := (ho'.lt p e.symm).1; omega); have gp : w1.heap[p]? = some (.cells #[.int .i64 l.length, .slice a' n' cap'] T (0, 0)) := hf.trans (heap_alloc_at g'); have d0 : w1.cell? ⟨p, 0, none⟩ = some (.int .i64 l.length) := (cell_of gp).trans rfl; have d1 : w1.cell? ⟨p, 1, none⟩ = some (.slice a' n' cap') := (cell_of gp).trans rfl; have y0 := froz_of (i := 0) gp; have y1 := froz_of (i := 1) gp; have HP := Hid.mk gp; have HGr := Hid.mk hgrow; have HOw := Hid.mk hown; clear hf gp hgrow hown hat)
      all_goals
        have HLT := ho'
        go_wp2
        go_roundw
        case rel =>
          have hc1 : Ch (WU p B wr) wr w1 := (Ch.drew (Ch.alloc (Ch.refl _ _) _)).tu (chU HGr.out (show World.ownsRow (World.drew _) _ _ _ _ _ _ from HLT.alloc _))
          refine ⟨j, some ⟨g2, 0, none⟩, X + 1, cap2, by omega, by go_num, heap_set HP.out, ownsRow_setCell_below ?_ hp _, (hch.tu hc1).setCell _ _ (fun _ => Or.inl rfl)⟩
          have e1 : size - j = size - (j + 1) + 1 := by omega
          have e2 : l ++ nb (size - j) (v / 256 ^ j) = l ++ nb (size - (j + 1)) (v / 256 ^ (j + 1)) ++ [v / 256 ^ j % 256] := by rw [e1, nb_next, List.append_assoc]
          rw [e2]
          have := HOw.out
          rw [byte_at] at this
          exact own_snoc hX' this
        case measure => simp [intOf]
    · have hm0 : m = 0 := by omega
      subst hm0
      have e0 : v / 256 ^ 0 = v := by simp
      rw [e0, Nat.sub_zero] at ho'
      have hlen : (l ++ nb size v).length = l.length + size := by rw [List.length_append, nb_len]
      have HL := Hid.mk hlen
      have HO := Hid.mk ho'
      have HG := Hid.mk g'
      have HC := Hid.mk hch
      clear hlen ho' g' hch e0 ho g
      go_wp2_with (go_at_call 115; refine (pass_any p l.length size _ c0 f0 (by omega) (by omega) (by omega)).mono ?_; rintro e w' ⟨rfl, rfl⟩)
      go_end0
      refine ⟨rfl, ⟨a', n', cap', T, ?_, ownsRow_setCell_below HO.out hp _, hp, ?_, ?_⟩, HC.out.setCell _ _ (fun _ => Or.inl rfl)⟩
      · rw [HL.out]; exact heap_set HG.out
      · simp [World.setCell]; omega
      · intro b hb'
        rcases List.mem_append.1 hb' with h | h
        · exact hb b h
        · exact nb_byte _ _ b h
end Go.Proofs.YtpfaioncaolmjaaGreat
