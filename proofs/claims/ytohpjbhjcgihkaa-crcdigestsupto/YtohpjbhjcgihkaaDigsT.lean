/- CrcDigests' walk, the zero digest; nothing that was there before is turned. -/
import Derived.Test.YtohpjbhjcgihkaaDigsB
namespace Go.Proofs.Ytohpjbhjcgihkaa
open Go.RowKit
set_option maxHeartbeats 8000000 in
set_option maxRecDepth 20000 in
theorem digs_walkT (a : Option Addr) (cap : Nat) (os : List (Int × ByteArray)) (w : World) (hl : os.length ≤ 9223372036854775807) (ht : tot os ≤ 4611686018427387904) (V : Opsl w a os) :
    Calls Try.prog 7 #[.slice a os.length cap, .bool true] w fun e w' => e = .returned (.bool true) ∧ Below w.heap.size w w' := by
  have HV : Hid (Opsl w a os) := V
  have HT : Hid (tot os ≤ 4611686018427387904) := ht
  clear V ht
  go_enter Try.func7, Try.ntmps7
  go_wp2_with fail
  refine (awake_any w).mono ?_
  rintro e w1 ⟨rfl, hb1⟩
  go_wp2_with fail
  refine (new_any w1).mono ?_
  rintro e w2 ⟨rfl, hD2, k2⟩
  have hb2 := bel_bel hb1 k2 hb1.size
  have h01 := hb1.size
  clear k2
  go_wp2_with fail
  have hS0 : St w w2.heap.size ⟨#[]⟩ (w2.alloc (.cells #[.int .u32 0, .int .i64 0] 38)) := ⟨heap_new _ _, hb2.size, hb2.alloc hb2.size _⟩
  generalize w2.alloc (.cells #[.int .u32 0, .int .i64 0] 38) = X0 at *
  generalize w2.heap.size = b0 at *
  clear hb1 hb2 h01 hD2
  go_loopg [5, 6, 7] os.length (fun k u v i wr => ∃ (b j : Nat) (t : ByteArray), j + k = os.length ∧ u = .pointer (some ⟨b, 0, none⟩) ∧ v = .string t ∧ i = .int .i64 j ∧ t.size ≤ tot (os.take j) ∧ St w b t wr)
  case atStart => exact ⟨b0, 0, ⟨#[]⟩, by omega, rfl, rfl, rfl, Nat.zero_le _, hS0⟩
  case round =>
    clear hS0
    obtain ⟨b, j, t, hk, rfl, rfl, rfl, htj, hS⟩ := hrel
    by_cases hlt : j < os.length
    · obtain ⟨k, rfl⟩ : ∃ k, gk = k + 1 := ⟨gk - 1, by omega⟩
      rcases HV.out with rfl | ⟨q, off, rfl, hq, hcl⟩
      · simp at hlt
      obtain ⟨d0, d1⟩ := hcl j hlt
      have htn := tot_take hlt
      have hta := tot_le os (j + 1)
      have htt := HT.out
      obtain ⟨tn, hTN⟩ : ∃ tn, tn = tot (os.take (j + 1)) := ⟨_, rfl⟩
      rw [← hTN] at htn hta
      have HTN : Hid (tn = tot (os.take (j + 1))) := hTN
      clear hTN
      generalize tot (os.take j) = tj at *
      generalize tot os = ta at *
      generalize (os.getD j (0, ByteArray.empty)).1 = K at *
      generalize (os.getD j (0, ByteArray.empty)).2 = S at *
      have hc0 := (hS.bel.cell (p := ⟨q, off + j * 2, none⟩) hq).trans d0
      have hc1 := (hS.bel.cell (p := ⟨q, off + j * 2 + 1, none⟩) hq).trans d1
      clear hcl d0 d1
      have hSX := hS.alloc (.cells #[.int .i64 K, .string S] 40)
      have hOX : Oq wr.heap.size K S (wr.alloc (.cells #[.int .i64 K, .string S] 40)) := heap_new _ _
      have hbo : wr.heap.size ≠ b := fun e => by have := hS.dg.lt; omega
      have hmt := M.more_lt (sum := 0) t.data.toList (by omega)
      have hts : t.size ≤ 9223372036854775807 := by omega
      have hSs : (t ++ S).size ≤ 9223372036854775807 := by rw [ByteArray.size_append]; omega
      have hSn : (t ++ S).size ≤ tn := by rw [ByteArray.size_append]; omega
      have htnn : t.size ≤ tn := by omega
      have HSS : Hid ((t ++ S).size ≤ 9223372036854775807 ∧ (t ++ S).size ≤ tn ∧ t.size ≤ tn) := ⟨hSs, hSn, htnn⟩
      clear hS hSs hSn htnn
      go_upto_region 11 with fail
      generalize wr.alloc (.cells #[.int .i64 K, .string S] 40) = X at *
      generalize wr.heap.size = o at *
      clear hc0 hc1
      have o0 := hOX.c0
      have o1 := hOX.c1
      have cW := fun x (h : St w b t x) => write_any b _ _ S x h.dg hmt (by omega)
      have CW := hid cW
      clear cW
      by_cases hK1 : K = 1
      · subst hK1
        go_upto_region 13 with fail
        clear o0 o1
        go_region_held (fun x => x.cell? ⟨o, 1, none⟩ = some (.string S) ∧ Oq o 1 S x) (first | exact Oq.eight (by assumption) | exact Oq.eight (Oq.drew (by assumption))) ((go_at_call 23; refine (CW.out _ hSX.drew).mono ?_; rintro e' w' ⟨rfl, hD', hc'⟩; have hO' := hOX.drew.ch hc' hbo; have hS' := hSX.drew.write hD' hc'))
        clear hD' hc' hSX hOX CW
        go_wp2_with fail
        refine (seen_any b (t ++ S) w' HSS.out.1 hS'.dg).mono ?_
        rintro e9 w9 ⟨rfl, rfl⟩
        go_wp2_with fail
        go_roundg k
        case measure => omega
        case rel => exact ⟨b, j + 1, (t ++ S), by omega, rfl, by first | rfl | simp, by first | rfl | simp, by rw [← HTN.out]; exact HSS.out.2.1, hS'⟩
      by_cases hK2 : K = 2
      · subst hK2
        clear CW
        have cR := reset_any b _ _ X hSX.dg
        go_wp2_with fail
        refine cR.mono ?_
        rintro e' w' ⟨rfl, hD', hc'⟩
        have hS' := hSX.reset hD' hc'
        clear hD' hc' cR hSX hOX o0 o1
        go_wp2_with fail
        refine (seen_any b ⟨#[]⟩ w' (Nat.zero_le _) hS'.dg).mono ?_
        rintro e9 w9 ⟨rfl, rfl⟩
        go_wp2_with fail
        go_roundg k
        case measure => omega
        case rel => exact ⟨b, j + 1, ⟨#[]⟩, by omega, rfl, by first | rfl | simp, by first | rfl | simp, by rw [← HTN.out]; exact Nat.zero_le _, hS'⟩
      by_cases hK3 : K = 3
      · subst hK3
        have cC := clone_any b _ _ X hSX.dg
        go_wp2_with fail
        refine cC.mono ?_
        rintro e' Y ⟨rfl, hDc, kY⟩
        have hSc : St w X.heap.size t Y := ⟨hDc, hSX.bel.size, bel_bel hSX.bel kY hSX.bel.size⟩
        have hSY := hSX.next kY
        have hOY := hOX.below kY
        have hcb : X.heap.size ≠ b := fun e => by have := hSX.dg.lt; omega
        have hb0 := hSX.at0
        generalize X.heap.size = c at *
        clear cC hDc kY hSX hOX o0 o1
        go_upto_region 22 with fail
        have g1 : Sn w c t Y.drew := ⟨hSc.drew, hts⟩
        have hcc : ¬ 9223372036854775807 < t.size + S.size := by omega
        go_region_held3 (fun x => x.cell? ⟨o, 1, none⟩ = some (.string S) ∧ Oq o 3 S x) (first | exact Oq.eight (by assumption) | exact Oq.eight (Oq.drew (by assumption))) ((first | (go_at_call 23; refine (CW.out _ hSY.drew).mono ?_; rintro e' w' ⟨rfl, hD', hc'⟩; have hO' := hOY.drew.ch hc' hbo; have hS' := hSY.drew.write hD' hc'; have hSc' := hSc.drew.other hc' hcb hb0; have g2 : Sn w b (t ++ S) w' := ⟨hS', HSS.out.1⟩) | (go_at_call 26; refine (seenG (w := w) _ _ _ ?_).mono ?_; assumption; rintro e8 w8 ⟨rfl, rfl⟩)))
        clear hD' hc' hO' hS' g1 g2 hSc hSY hOY CW
        go_wp2_with fail
        refine (seen_any c t _ hts hSc'.dg).mono ?_
        rintro e9 w9 ⟨rfl, rfl⟩
        go_wp2_with fail
        go_roundg k
        case measure => omega
        case rel => exact ⟨c, j + 1, t, by omega, rfl, by first | rfl | simp, by first | rfl | simp, by rw [← HTN.out]; exact HSS.out.2.2, hSc'⟩
      have k1 : (K == 1) = false := by rw [beq_eq_false_iff_ne]; exact hK1
      have k2 : (K == 2) = false := by rw [beq_eq_false_iff_ne]; exact hK2
      have k3 : (K == 3) = false := by rw [beq_eq_false_iff_ne]; exact hK3
      · clear CW hK1 hK2 hK3
        go_wp2_with fail
        refine (seen_any b t X hts hSX.dg).mono ?_
        rintro e9 w9 ⟨rfl, rfl⟩
        go_wp2_with fail
        go_roundg k
        case measure => omega
        case rel => exact ⟨b, j + 1, t, by omega, rfl, by first | rfl | simp, by first | rfl | simp, by rw [← HTN.out]; exact HSS.out.2.2, hSX⟩
    · have hbel := hS.bel
      clear hS HV
      go_wp2_with fail
      refine (reset_nil wr).mono ?_
      rintro e1 v1 ⟨rfl, rfl⟩
      go_wp2_with fail
      refine (write_nil _ _).mono ?_
      rintro e1 v1 ⟨rfl, rfl⟩
      go_wp2_with fail
      refine (dsum_nil _).mono ?_
      rintro e1 v1 ⟨rfl, rfl⟩
      go_wp2_with fail
      refine (dlen_nil _).mono ?_
      rintro e1 v1 ⟨rfl, rfl⟩
      go_wp2_with fail
      refine (clone_nil _).mono ?_
      rintro e1 v1 ⟨rfl, rfl⟩
      go_wp2_with fail
      go_ret
      exact ⟨rfl, hbel⟩
end Go.Proofs.Ytohpjbhjcgihkaa
