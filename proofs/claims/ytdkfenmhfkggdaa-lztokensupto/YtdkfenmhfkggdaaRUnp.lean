/- The reference's Unpack answers as the document asks. -/
import Derived.Test.YtdkfenmhfkggdaaRFst
import Derived.Test.YtdkfenmhfkggdaaUnp
namespace Go.Proofs.Ytdkfenmhfkggdaa
open Go.RowKit
theorem Own.slice {w : World} {B : Nat} {v : Value} {l : List UInt8} (h : Own w B v l) : ∃ a cap, v = .slice a l.length cap := by
  obtain ⟨hl, h⟩ := h
  rcases h with ⟨rfl, h1⟩ | ⟨g, cap, cur, rfl, _⟩
  · rw [h1]; exact ⟨_, _, rfl⟩
  · exact ⟨_, _, rfl⟩
def unV (R : Except Nat (List UInt8)) : Value :=
  match R with
    | .error k => .tuple #[.string ⟨#[]⟩, .int .i64 (k : Nat)]
    | .ok F => .tuple #[.string (ba F), .int .i64 0]
set_option maxHeartbeats 4000000 in
set_option maxRecDepth 20000 in
theorem runpack_in (p : ByteArray) (len : Nat) (m : Int) (w : World) (hs : p.size ≤ 1048576) (hl : len ≤ 9223372036854775807) (hm : (len : Int) ≤ m) :
    Calls Try.prog 17 #[.string p, .int .i64 len, .int .i64 m] w fun e w' => e = .returned (unV (M.un len p.data.toList [])) ∧ Below w.heap.size w w' := by
  obtain ⟨i0, hi, hz0, hz1, hz2⟩ := info_parts Try.info5
  have hmz : ¬ m < (len : Int) := by omega
  obtain ⟨R, hR⟩ : ∃ R, R = M.un len p.data.toList [] := ⟨_, rfl⟩
  rw [← hR]
  have HR := hid hR.symm
  have hpl := len_ p
  have HEX := hid (fun n => ext_drop p n)
  generalize p.data.toList = l at *
  have HL := hid hpl
  clear hR hpl
  go_enter Try.func17, Try.ntmps17
  go_wp2_with fail
  go_loopg [8, 9, 10, 11, 12, 13, 14] p.size (fun k o a x1 x2 x3 x4 x5 wr => ∃ (q : Nat) (out : List UInt8), q + k = p.size ∧ a = .int .i64 q ∧ Hid (out.length ≤ 131 * q) ∧ Hid (out.length ≤ len) ∧ Hid (M.un len (l.drop q) out = R) ∧ Hid (Own wr w.heap.size o out) ∧ Hid (Below w.heap.size w wr) ∧ Hid (w.heap.size ≤ wr.heap.size))
  case atStart => exact ⟨0, [], by omega, rfl, Nat.zero_le _, Nat.zero_le _, HR, World.ownsRow_nil _ _ _ _, Below.refl _ _, Nat.le_refl _⟩
  case round =>
    clear HR
    obtain ⟨q, out, hk, rfl, HU, HU2, HP, HO, HB, HS⟩ := hrel
    have hU := HU.out
    have hU2 := HU2.out
    obtain ⟨oa, ocap, ho⟩ := Own.slice HO.out
    by_cases h0 : q < p.size
    · have hp := HP.out
      rw [M.un_step (by rw [List.length_drop, HL.out]; omega)] at hp
      obtain ⟨S, hS⟩ : ∃ S, S = p.extract q p.size := ⟨_, rfl⟩
      have hSl : S.data.toList = l.drop q := by rw [hS]; exact HEX.out q
      have hSs : S.size = p.size - q := by rw [← len_, hSl, List.length_drop, HL.out]
      rw [← hSl] at hp
      cases hf : M.fst' S.data.toList with
      | error k =>
        rw [hf] at hp
        simp only at hp
        have HC : Hid (unV R = .tuple #[.string ⟨#[]⟩, .int .i64 (k : Nat)]) := by rw [← hp]; rfl
        have cf := fun w => rfirst_err S k w (by omega) hf
        have hkk := fst_bad hf
        have CF := hid cf
        have HSS := hid hS
        generalize out.length = OL at *
        clear hp cf hf HP hS hSl hSs
        subst ho
        go_wp2_with fail
        rw [← HSS.out]
        refine (CF.out _).mono ?_
        rintro e w1 ⟨rfl, hb1⟩
        have HB1 := hid (HB.out.trans (hb1.mono HS.out))
        have HS1 := hid (HB1.out.size)
        clear hb1
        go_wp2_with fail
        go_ret2
        exact ⟨by rw [HC.out]; rfl, HB1.out.alloc HS1.out _⟩
      | ok tn =>
        obtain ⟨t, n⟩ := tn
        rw [hf] at hp
        simp only at hp
        have hok := M.fst_ok (by rw [len_]; omega) hf
        have hsm := tok_small hok.1
        have hdi := tok_dist hok.1
        have hn := hok.2.2.1
        have hn2 := hok.2.1
        rw [len_] at hn
        have cf := fun w => rfirst_ok S t n w (by omega) hf
        have hba := ba_size t.lits
        have hal := M.app_len out t
        have hap : M.cpy t.dist t.len (out ++ (ba t.lits).data.toList) = M.app out t := rfl
        rw [hsm.2.2.2] at hp hal
        rw [hSl, List.drop_drop] at hp
        have h128 := hsm.1
        have h131 := hsm.2.1
        have hsum : t.lits.length + t.len ≤ 131 := by
          cases t with
          | lit s => have := hok.1.2; simp only [M.Tok.lits, M.Tok.len]; omega
          | mat a b => have := hok.1.2.1; simp only [M.Tok.lits, M.Tok.len, List.length_nil]; omega
        rw [← hba] at hp hal h128 hsum
        generalize M.app out t = out2 at *
        generalize ba t.lits = TS at *
        generalize t.len = TN at *
        generalize t.dist = TD at *
        have CF := hid cf
        have HSS := hid hS
        have hnq : q + n ≤ p.size := by omega
        clear hok hsm hf cf HP hba hS hSl hSs
        by_cases hd : out.length < TD
        · rw [if_pos hd] at hp
          have HC : Hid (unV R = .tuple #[.string ⟨#[]⟩, .int .i64 25]) := by rw [← hp]; rfl
          clear hp hal hap
          generalize out.length = OL at *
          subst ho
          go_wp2_with fail
          rw [← HSS.out]
          refine (CF.out _).mono ?_
          rintro e w1 ⟨rfl, hb1⟩
          have HB1 := hid (HB.out.trans (hb1.mono HS.out))
          have HS1 := hid (HB1.out.size)
          clear hb1
          go_wp2_with fail
          go_ret2
          exact ⟨by rw [HC.out]; rfl, HB1.out.alloc HS1.out _⟩
        · rw [if_neg hd] at hp
          by_cases hc : len - out.length < TS.size + TN
          · rw [if_pos hc] at hp
            have HC : Hid (unV R = .tuple #[.string ⟨#[]⟩, .int .i64 22]) := by rw [← hp]; rfl
            clear hp hal hap
            generalize out.length = OL at *
            subst ho
            go_wp2_with fail
            rw [← HSS.out]
            refine (CF.out _).mono ?_
            rintro e w1 ⟨rfl, hb1⟩
            have HB1 := hid (HB.out.trans (hb1.mono HS.out))
            have HS1 := hid (HB1.out.size)
            clear hb1
            go_wp2_with fail
            go_ret2
            exact ⟨by rw [HC.out]; rfl, HB1.out.alloc HS1.out _⟩
          · rw [if_neg hc] at hp
            have HP2 := hid hp
            have HAP := hid hap
            have HAL := hid hal
            have HD : Hid (1 ≤ TN → 1 ≤ TD ∧ TD ≤ out.length) := fun h => ⟨hdi h, by omega⟩
            have hc' : ¬ (len : Int) - out.length < TS.size + TN := by omega
            clear hp hap hal hdi
            have hoo := HO.out
            unfold Own at hoo
            generalize hX : out.length = OL at *
            have HX := hid hX
            clear hX
            subst ho
            go_wp2_with fail
            rw [← HSS.out]
            refine (CF.out _).mono ?_
            rintro e w1 ⟨rfl, hb1⟩
            have HB1 := hid (HB.out.trans (hb1.mono HS.out))
            have HS1 := hid (HB1.out.size)
            have ho1 : w1.ownsRow w.heap.size 5 1 (.slice oa OL ocap) OL (bc out) := own_apart hoo (fun g hg => hb1.block g (World.ownsRow.lt hoo g hg).2)
            have hsz1 := HS1.out
            clear hb1 hoo HO
            go_wp2_with (at_builtin; refine Lib.wpList_append_own_string _ rfl _ _ 57 9 rfl w.heap.size 5 i0 Try.underBytes Try.under9 hi hz0 hz1 hz2 _ _ _ rfl (ho1.alloc _) TS rfl ?d1 ?d2 ?d3 ?_)
            case d1 => unfold maxLen; omega
            case d2 => omega
            case d3 => simp; omega
            intro v2 w2 hown2 hgrow2 _
            have HB2 := hid (bel_step HB1.out ho1 hsz1 hgrow2)
            have HO2 : Hid (Own w2 w.heap.size v2 (out ++ TS.data.toList)) := own_mk hown2 HX.out (len_ TS) (bc_str TS)
            have gT : w2.heap[w1.heap.size]? = some (.cells #[.string TS, .int .i64 TN, .int .i64 TD] 46 (0, 0)) := (hgrow2.block _ (by simp) (fun e => own_ne (ho1.alloc (.cells #[.string TS, .int .i64 TN, .int .i64 TD] 46)) (heap_new w1 _) (by decide) e.symm)).trans (heap_new w1 _)
            have HT2 := hid gT
            have HS2 : Hid (w.heap.size ≤ w2.heap.size) := by have := HB2.out.size; show _ ≤ _; omega
            clear hown2 hgrow2 ho1 gT
            go_wp2_with fail
            go_loopg [8, 13, 14] TN (fun k o i c wr => ∃ (j : Nat) (cur : List UInt8), j + k = TN ∧ i = .int .i64 j ∧ Hid (cur.length = OL + TS.size + j) ∧ Hid (Own wr w.heap.size o cur) ∧ Hid (M.cpy TD k cur = out2) ∧ Hid (Below w.heap.size w wr) ∧ Hid (w.heap.size ≤ wr.heap.size) ∧ Hid (wr.heap[w1.heap.size]? = some (.cells #[.string TS, .int .i64 TN, .int .i64 TD] 46 (0, 0))))
            case atStart => exact ⟨0, _, by omega, rfl, by rw [List.length_append, HX.out, len_]; rfl, HO2, HAP, HB2, HS2, HT2⟩
            case round =>
              clear HO2 HAP HB2 HS2 HT2
              obtain ⟨j, cur, hj, rfl, HC, HO, HF, HB, HS, HT⟩ := hrel
              obtain ⟨k0, k1, k2⟩ := cells3 HT.out
              clear k0
              by_cases hlt : j < TN
              · obtain ⟨k, rfl⟩ : ∃ k, gk = k + 1 := ⟨gk - 1, by omega⟩
                have hD' := HD.out (by omega)
                have hcl := HC.out
                obtain ⟨g, cap, rfl, hcell⟩ := Own.form HO.out (by omega)
                obtain ⟨i, hi2⟩ : ∃ i, i = cur.length - TD := ⟨_, rfl⟩
                have kc := hcell i (by omega)
                have HF2 := HF.out
                unfold M.cpy at HF2
                rw [← hi2] at HF2
                have ho := HO.out
                unfold Own at ho
                generalize M.by_ cur i = b at *
                have e0 : ((cur.length : Nat) : Int) - (TD : Int) = (i : Int) := by omega
                have hi3 : i < cur.length := by omega
                generalize hY : cur.length = Y at *
                have HF3 := hid HF2
                have HY := hid hY
                have HCL := hid hcl
                have hYb : Y ≤ 140737488350000 := by omega
                have q1 := b.toNat_lt
                have hsz := HS.out
                clear HF2 hcell hY hi2 hcl HF HO HC
                go_wp2_with (at_builtin; refine wpList_append_own _ rfl _ _ 57 rfl w.heap.size 5 i0 (.int .u8 0) 1 1 Try.underBytes hi hz0 hz1 hz2 rfl (by decide) _ _ _ rfl (ho.alloc _) ⟨wr.heap.size, 0, none⟩ 1 1 (bc [b]) rfl rfl ?c1 ?c2 ?c3 ?c4 ?c5 ?_)
                case c1 => exact cells_new wr (bc [b]) 5
                case c2 => exact bc_one _
                case c3 => unfold maxLen; omega
                case c4 => omega
                case c5 => simp; omega
                intro v' w3 hown3 hgrow3 _
                have HB3 := hid (bel_step HB.out ho (by omega) hgrow3)
                have HO3 : Hid (Own w3 w.heap.size v' (cur ++ [b])) := own_mk (r := [b]) hown3 HY.out rfl rfl
                have HS3 : Hid (w.heap.size ≤ w3.heap.size) := by have := hgrow3.size; simp at this; show _ ≤ _; omega
                have HT3 : Hid (w3.heap[w1.heap.size]? = some (.cells #[.string TS, .int .i64 TN, .int .i64 TD] 46 (0, 0))) := (hgrow3.block _ (by have := lt_of_heap HT.out; simp; omega) (fun e => own_ne ho HT.out (by decide) e.symm)).trans (heap_alloc_at HT.out)
                clear hown3 hgrow3 ho HB HS HT
                go_wp2_with fail
                go_roundg k
                case measure => omega
                case rel => exact ⟨j + 1, cur ++ [b], by omega, by go_num, by show _ = _; rw [List.length_append, HY.out, HCL.out]; rfl, HO3, HF3, HB3, HS3, HT3⟩
              · obtain rfl : gk = 0 := by omega
                have HFF : Hid (cur = out2) := HF.out
                go_wp2_with fail
                go_roundg (p.size - (q + n))
                case measure => omega
                case rel => exact ⟨q + n, out2, by omega, by go_num, by show _ ≤ _; rw [HAL.out]; omega, by show _ ≤ _; rw [HAL.out]; omega, HP2, by rw [← HFF.out]; exact HO, HB, HS⟩
    · have hp := HP.out
      rw [List.drop_eq_nil_of_le (by rw [HL.out]; omega), M.un_nil] at hp
      by_cases hlt : out.length < len
      · rw [if_pos hlt] at hp
        have HC : Hid (unV R = .tuple #[.string ⟨#[]⟩, .int .i64 20]) := by rw [← hp]; rfl
        generalize out.length = OL at *
        subst ho
        clear hp
        go_wp2_with fail
        go_ret2
        exact ⟨by rw [HC.out]; rfl, HB.out⟩
      · rw [if_neg hlt] at hp
        have HC : Hid (unV R = .tuple #[.string (ba out), .int .i64 0]) := by rw [← hp]; rfl
        have hcv := conv_own HO.out
        generalize out.length = OL at *
        subst ho
        clear hp
        go_wp2_with fail
        go_ret2
        exact ⟨by rw [HC.out]; rfl, HB.out⟩
end Go.Proofs.Ytdkfenmhfkggdaa
