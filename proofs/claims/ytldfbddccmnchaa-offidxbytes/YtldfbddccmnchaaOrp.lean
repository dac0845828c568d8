/- The document's Put and Bytes. -/
import Derived.Test.YtldfbddccmnchaaOput
import Derived.Test.YtldfbddccmnchaaOrh
import Derived.Laws.MakeOwn
namespace Go.Proofs.Ytldfbddccmnchaa
open Go.RowKit
theorem nb_cons : ∀ (m v : Nat), nb (m + 1) v = v / 256 ^ m % 256 :: nb m v
  | 0, v => by simp [nb]
  | m + 1, v => by
    rw [nb, nb_cons m (v / 256), nb, Nat.div_div_eq_div_mul, Nat.pow_succ, Nat.mul_comm (256 ^ m) 256, List.cons_append]
theorem own_set1 {w : World} {B : Nat} {e : TypeId} {size g n cap : Nat} {xs : List Value} (h : w.ownsRow B e size (.slice (some ⟨g, 0, none⟩) n cap) n xs) (i : Nat) (u : Value) : (w.setCell ⟨g, i, none⟩ u).ownsRow B e size (.slice (some ⟨g, 0, none⟩) n cap) n (xs.set i u) := by
  refine ⟨by rw [List.length_set]; exact h.1, ?_⟩
  rcases h.2 with ⟨h1, _⟩ | ⟨g', cap', cur, hv, h3, h4, h5, h6, h7, h8⟩
  · cases h1
  · simp only [Value.slice.injEq, Option.some.injEq, Addr.mk.injEq, and_true, true_and] at hv
    obtain ⟨rfl, rfl⟩ := hv
    refine Or.inr ⟨g, cap, cur.setIfInBounds i u, rfl, h3, heap_set h4, h5, h6, by rw [Array.size_setIfInBounds]; exact h7, ?_⟩
    rw [Array.toList_setIfInBounds, List.take_set, h8]
/-- Under way: the last bytes are laid down. -/
def half (V k : Nat) : List Nat := List.replicate k 0 ++ nb (8 - k) V
theorem half_set (V k : Nat) (hk : k < 8) : (bc (half V (k + 1))).set k (.int .u8 ((V / 256 ^ (8 - (k + 1)) % 256 : Nat) : Int)) = bc (half V k) := by
  unfold half bc
  rw [show List.replicate (k + 1) 0 = List.replicate k 0 ++ [0] from by rw [List.replicate_succ'], List.append_assoc, List.map_append, List.set_append_right _ _ (by simp), List.map_append, List.map_append]
  simp only [List.length_map, List.length_replicate, Nat.sub_self]
  rw [show (8 - k) = (8 - (k + 1)) + 1 from by omega, nb_cons]
  rfl
theorem make8 (w : World) : (Instr.makeSlice 76 (.int .i64 8) (.int .i64 8)).run Try.prog w = .ok (.slice (some ⟨w.heap.size, 0, none⟩) 8 8) (w.alloc (.cells #[.int .u8 0, .int .u8 0, .int .u8 0, .int .u8 0, .int .u8 0, .int .u8 0, .int .u8 0, .int .u8 0] 5)) := by
  obtain ⟨i0, hi, hz0, hz1, hz2⟩ := info_parts Try.info5
  have h := run_make (P := Try.prog) w 76 5 i0 (.int .u8 0) Try.underBytes hi hz0 .i64 .i64 8 8 (by omega) (by omega) (by rw [hz2]; omega) (by omega)
  rw [hz1] at h
  have e : madeCells (Value.int .u8 0).cells (Int.toNat 8 * 1) = #[.int .u8 0, .int .u8 0, .int .u8 0, .int .u8 0, .int .u8 0, .int .u8 0, .int .u8 0, .int .u8 0] := by kernel_rfl
  rw [e] at h
  exact h
set_option maxRecDepth 20000 in
set_option maxHeartbeats 2000000 in
theorem number_any (v : Int) (w : World) : Calls Try.prog 45 #[.int .i64 v] w fun e w' => e = .returned (.slice (some ⟨w.heap.size, 0, none⟩) 8 8) ∧ w'.ownsRow w.heap.size 5 1 (.slice (some ⟨w.heap.size, 0, none⟩) 8 8) 8 (bc (n8 v)) ∧ Below w.heap.size w w' := by
  obtain ⟨V, hV⟩ : ∃ V : Nat, V = (v % 18446744073709551616).toNat := ⟨_, rfl⟩
  have hVI : IntKind.u64.wrap v = (V : Int) := by rw [IntKind.wrap_u64]; omega
  have hVb : V < 18446744073709551616 := by omega
  have hmk := make8
  have HST : Hid ((w.alloc (.cells #[.int .u8 0, .int .u8 0, .int .u8 0, .int .u8 0, .int .u8 0, .int .u8 0, .int .u8 0, .int .u8 0] 5)).ownsRow w.heap.size 5 1 (.slice (some ⟨w.heap.size, 0, none⟩) 8 8) 8 (bc (half V 8))) := ⟨rfl, Or.inr ⟨w.heap.size, 8, _, rfl, Nat.le_refl _, heap_new _ _, Nat.le_refl _, by decide, rfl, rfl⟩⟩
  have HN8 : Hid (n8 v = nb 8 V) := by show _ = _; unfold n8; rw [hV]
  clear hV
  go_enter Try.func45, Try.ntmps45
  go_wp2_with fail
  go_loopg [4, 5] 8 (fun k vu vi wr => ∃ X : Nat, X = V / 256 ^ (8 - k) ∧ vu = .int .u64 X ∧ vi = .int .i64 ((k : Int) - 1) ∧ k ≤ 8 ∧ Hid (wr.ownsRow w.heap.size 5 1 (.slice (some ⟨w.heap.size, 0, none⟩) 8 8) 8 (bc (half V k))) ∧ Hid (Below w.heap.size w wr))
  case atStart => exact ⟨V, by simp, rfl, rfl, Nat.le_refl _, HST.out, (Below.refl _ _).alloc (Nat.le_refl _) _⟩
  case round =>
    clear HST
    obtain ⟨X, hX, rfl, rfl, hk, HR, HB⟩ := hrel
    have hXb : X < 18446744073709551616 := by rw [hX]; exact Nat.lt_of_le_of_lt (Nat.div_le_self _ _) hVb
    by_cases hg : 0 < gk
    · obtain ⟨q, rfl⟩ : ∃ q, gk = q + 1 := ⟨gk - 1, by omega⟩
      have e1 : ((q + 1 : Nat) : Int) - 1 = q := by omega
      rw [e1]
      have HS := hid (half_set V q (by omega))
      rw [← hX] at HS
      have HX2 : Hid (X / 256 = V / 256 ^ (8 - q)) := by
        show _ = _
        rw [hX, Nat.div_div_eq_div_mul, ← Nat.pow_succ]
        congr 2
        omega
      obtain ⟨Y, hY⟩ : ∃ Y, Y = X / 256 := ⟨_, rfl⟩
      have hYI : (X : Int) / 256 = (Y : Int) := by omega
      obtain ⟨Z, hZ⟩ : ∃ Z, Z = X % 256 := ⟨_, rfl⟩
      have hZI : (X : Int) % 256 = (Z : Int) := by omega
      have hZw : IntKind.u8.wrap (Z : Int) = (Z : Int) := by rw [IntKind.wrap_u8]; omega
      rw [← hZ] at HS
      rw [← hY] at HX2
      have hqI : (0 : Int) ≤ q := by omega
      have hq8 : (q : Int) < 8 := by omega
      have y0 : wr.cell? ⟨w.heap.size, q, none⟩ = (bc (half V (q + 1)))[q]? := HR.out.cellAt q (by omega)
      obtain ⟨old, hold⟩ : ∃ old, (bc (half V (q + 1)))[q]? = some old := ⟨_, List.getElem?_eq_getElem (by rw [bc_len]; unfold half; rw [List.length_append, List.length_replicate, nb_len]; omega)⟩
      rw [hold] at y0
      have y1 : wr.frozen? ⟨w.heap.size, q, none⟩ = false := HR.out.frozenAt q
      clear e1 hX hY hZ hold
      go_wp2_with fail
      go_roundg q
      case measure => omega
      case rel => exact ⟨Y, HX2.out, rfl, by go_num, by omega, by rw [← HS.out]; exact own_set1 HR.out q _, HB.out.setCell (Nat.le_refl _) _⟩
    · have hg0 : gk = 0 := by omega
      subst hg0
      have e1 : ((0 : Nat) : Int) - 1 = -1 := by omega
      rw [e1]
      clear e1 hX
      have HE : Hid (bc (half V 0) = bc (n8 v)) := by show _ = _; rw [HN8.out]; rfl
      rw [HE.out] at HR
      go_wp2_with fail
      go_ret
      exact ⟨rfl, HR.out, HB.out⟩
theorem bc_one (l : List Nat) : ∀ u ∈ bc l, u.oneCell' = true := by
  intro u hu
  obtain ⟨x, _, rfl⟩ := List.mem_map.1 hu
  rfl
set_option maxRecDepth 20000 in
set_option maxHeartbeats 2000000 in
theorem rput_any (l : List En) (a : Option Addr) (cap : Nat) (w : World) (hv : Ens w a l) (hn : l.length ≤ 8796093022000) :
    Calls Try.prog 17 #[.slice a l.length cap] w fun e w' => e = .returned (.string (bs (eby l))) ∧ Below w.heap.size w w' := by
  obtain ⟨i0, hi, hz0, hz1, hz2⟩ := info_parts Try.info5
  have HV := hid hv
  obtain ⟨N, hN⟩ : ∃ N, N = l.length := ⟨_, rfl⟩
  have HN := hid hN
  rw [← hN] at hn ⊢
  clear hv hN
  go_enter Try.func17, Try.ntmps17
  go_wp2_with fail
  go_loopg [3, 4] N (fun k vb vi wr => ∃ j : Nat, j + k = N ∧ vi = .int .i64 j ∧ Hid (wr.ownsRow w.heap.size 5 1 vb (j * 16) (bc (eby (l.take j)))) ∧ Hid (Below w.heap.size w wr))
  case atStart => exact ⟨0, by omega, rfl, World.ownsRow_nil _ _ _ _, Below.refl _ _⟩
  case round =>
    obtain ⟨j, hj, rfl, HR, HB⟩ := hrel
    by_cases hlt : j < N
    · obtain ⟨k', rfl⟩ : ∃ k', gk = k' + 1 := ⟨gk - 1, by omega⟩
      have hltI : (j : Int) < N := by omega
      have hjl : j < l.length := by rw [← HN.out]; exact hlt
      rcases HV.out with e | ⟨b, off, rfl, hb, hc⟩
      · rw [e] at hjl; cases hjl
      obtain ⟨p0, p1⟩ := hc j hjl
      have HT : Hid (eby (l.take (j + 1)) = eby (l.take j) ++ n8 (l.getD j en0).k ++ n8 (l.getD j en0).a) := by
        show _ = _
        rw [List.take_succ_eq_append_getElem hjl, eby_snoc, getD_of hjl, List.append_assoc]
        rfl
      have HCC : Hid (∀ wx, Below w.heap.size w wx → wx.cell? ⟨b, off + j * 2, none⟩ = some (.int .i64 (l.getD j en0).k) ∧ wx.cell? ⟨b, off + j * 2 + 1, none⟩ = some (.int .i64 (l.getD j en0).a)) := fun wx hx => ⟨(hx.cell (p := ⟨b, off + j * 2, none⟩) hb).trans p0, (hx.cell (p := ⟨b, off + j * 2 + 1, none⟩) hb).trans p1⟩
      generalize l.getD j en0 = s at *
      obtain ⟨sk, sa⟩ := s
      simp only at HCC HT
      generalize eby (l.take j) = T at *
      obtain ⟨q0, q1⟩ := HCC.out _ HB.out
      have HJ := hid hj
      have HN1 := hid (fun wx => number_any sk wx)
      have HN2 := hid (fun wx => number_any sa wx)
      clear hc p0 p1 hj hjl hb
      have HRL : Hid (∀ g, u3.ownBlock = some g → w.heap.size ≤ g ∧ g < wr.heap.size) := fun g hg => HR.out.lt g hg
      go_wp2_with (first | (go_at_call 45; with_reducible refine (HN1.out _).mono ?_; rintro e w2 ⟨rfl, h2, hb2⟩; have HK2 := hid h2; have HB2 := hid hb2; have HBw2 := hid (HB.out.trans (hb2.mono HB.out.size)); obtain ⟨y0, y1⟩ := HCC.out _ HBw2.out; clear h2 hb2) | (go_at_call 45; with_reducible refine (HN2.out _).mono ?_; rintro e w3 ⟨rfl, h3, hb3⟩; have HK3 := hid h3; have HB3 := hid hb3; clear h3 hb3) | (at_builtin; refine wpList_append_lies _ rfl _ _ 76 rfl w.heap.size 5 i0 (.int .u8 0) 1 1 Try.underBytes hi hz0 hz1 hz2 rfl (by decide) _ (j * 16) (bc T) rfl ?c0 ⟨wr.heap.size, 0, none⟩ 8 8 (bc (n8 sk)) rfl ?cl ?c1 ?c2 ?c3 ?c4 ?c5 ?c6 _ rfl ?_))
      case c0 => exact own_ch HR.out (Ch.of_below (S := fun _ => False) (HB2.out.trans (HB3.out.mono HB2.out.size))) (fun _ _ h => h)
      case cl => rw [bc_len, n8_len]
      case c1 => exact (own_ch HK2.out (Ch.of_below (S := fun _ => False) HB3.out) (fun _ _ h => h)).cells rfl
      case c2 => exact bc_one _
      case c3 => omega
      case c4 => unfold maxLen; omega
      case c5 => omega
      case c6 => exact Nat.le_trans HBw2.out.size HB3.out.size
      intro g4 cap4 w4 hown4 hgrow4 hat4 hlt4
      have HB23 : Hid (Below wr.heap.size wr w3) := HB2.out.trans (HB3.out.mono HB2.out.size)
      have HBw4 : Hid (Below w.heap.size w w4) := (HB.out.trans (HB23.out.mono HB.out.size)).grown hgrow4 (Nat.le_trans HB.out.size HB23.out.size) (fun k hk => (HRL.out k hk).1)
      have HK4 : Hid (w4.ownsRow w2.heap.size 5 1 (.slice (some ⟨w2.heap.size, 0, none⟩) 8 8) 8 (bc (n8 sa))) := HK3.out.kept hgrow4 (Or.inr (fun e => by have := (HRL.out w2.heap.size e.symm).2; have := HB2.out.size; omega))
      have HO4 := hid hown4
      clear hown4 hgrow4 hat4 hlt4
      go_wp2_with (at_builtin; refine wpList_append_lies _ rfl _ _ 76 rfl w.heap.size 5 i0 (.int .u8 0) 1 1 Try.underBytes hi hz0 hz1 hz2 rfl (by decide) _ (j * 16 + 8) (bc T ++ bc (n8 sk)) rfl HO4.out ⟨w2.heap.size, 0, none⟩ 8 8 (bc (n8 sa)) rfl ?dl ?d1 ?d2 ?d3 ?d4 ?d5 ?d6 _ rfl ?_)
      case dl => rw [bc_len, n8_len]
      case d1 => exact HK4.out.cells rfl
      case d2 => exact bc_one _
      case d3 => omega
      case d4 => unfold maxLen; omega
      case d5 => omega
      case d6 => exact HBw4.out.size
      intro g5 cap5 w5 hown5 hgrow5 hat5 hlt5
      have HBw5 : Hid (Below w.heap.size w w5) := HBw4.out.grown hgrow5 HBw4.out.size (fun k hk => (HO4.out.lt k hk).1)
      have HO5 := hid hown5
      clear hown5 hgrow5 hat5 hlt5
      go_wp2_with fail
      go_roundg k'
      case measure => omega
      case rel => exact ⟨j + 1, by have := HJ.out; omega, congrArg (Value.int .i64) (by omega), by rw [HT.out, bc_app, bc_app, List.append_assoc, show (j + 1) * 16 = j * 16 + 8 + 8 from by omega]; exact HO5.out, HBw5.out⟩
    · have hltI : ¬ (j : Int) < N := by omega
      have hjN : j = N := by omega
      have e : l.take j = l := List.take_of_length_le (by rw [← HN.out]; omega)
      rw [e] at HR
      have hcv := conv_own (eby_byte l) HR.out
      clear e
      go_wp2_with fail
      go_ret
      exact ⟨rfl, HB.out⟩
set_option maxRecDepth 20000 in
theorem rbytes_any {T : TypeId} (x : Nat) (v : Value) (l : List En) (w : World) (h : Ix T w x v l) (hn : l.length ≤ 8796093022000) : Calls Try.prog 33 #[.pointer (some ⟨x, 0, none⟩)] w fun e w' => e = .returned (.string (bs (eby l))) ∧ Below w.heap.size w w' := by
  obtain ⟨a, cap, rfl, hens⟩ := h.row.ens
  have c0 := h.c0
  go_enter Try.func33, Try.ntmps33
  go_wp2_with fail
  refine (rput_any l a cap w hens hn).mono ?_
  rintro e w2 ⟨rfl, hb⟩
  go_wp2
  go_ret
  exact ⟨rfl, hb⟩
end Go.Proofs.Ytldfbddccmnchaa
