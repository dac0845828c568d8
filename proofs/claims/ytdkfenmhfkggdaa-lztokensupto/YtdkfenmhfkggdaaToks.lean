/- LzTokens' walk: every Tokens and Form is the document's. -/
import Derived.Test.YtdkfenmhfkggdaaRTk
namespace Go.Proofs.Ytdkfenmhfkggdaa
open Go.RowKit
theorem Try.rtokStruct : Try.prog.underlying 46 = some (.struct (Try.prog.fieldsOf 46)) := by kernel_rfl
theorem Try.rtokHeld : Try.prog.stoodInHeld 46 = false := by kernel_rfl
theorem Try.rtokGuard : Try.prog.eqGuardType Try.prog.depth 46 = false := by kernel_rfl
theorem neq_rtok (S : ByteArray) (n d : Int) (w : World) : (binOp .neq 46 (.agg #[.string S, .int .i64 n, .int .i64 d]) (.agg #[.string S, .int .i64 n, .int .i64 d])).run Try.prog w = .ok (.bool false) w := by
  rw [run_neq_struct, run_equalIn_agg w 9999 _ _ _ Try.rtokStruct Try.rtokHeld]
  have hf : (Try.prog.fieldsOf 46) = (match Try.prog.underlying 46 with | some (.struct fs) => fs | _ => #[]) := rfl
  rw [hf, Try.underlying46]
  simp [go_sem, Op.eqFields, Try.underlying9, Try.underlying3]
theorem Trip.left {w : World} {a : Option Addr} {xs ys : List (ByteArray × Int × Int)} (h : Trip w a (xs ++ ys)) : Trip w a xs := by
  rcases h with h | ⟨b, off, rfl, hlt, hc⟩
  · left
    cases xs with
    | nil => rfl
    | cons x l => simp at h
  · refine Or.inr ⟨b, off, rfl, hlt, fun j hj => ?_⟩
    have h1 := hc j (by rw [List.length_append]; omega)
    have e : (xs ++ ys).getD j (ByteArray.empty, 0, 0) = xs.getD j (ByteArray.empty, 0, 0) := by
      simp only [List.getD_eq_getElem?_getD]
      rw [List.getElem?_append_left hj]
    rw [e] at h1
    exact h1
/-- Both tell the same. -/
theorem both_toks (p : ByteArray) (hp : p.size ≤ 1048576) : ∃ (rs : List (ByteArray × Int × Int)) (N E : Int), rs.length ≤ 1048576 ∧
    (∀ w : World, Calls Try.prog 18 #[.string p] w fun e w' => (∃ a cap, e = .returned (.tuple #[.slice a rs.length cap, .int .i64 N, .int .i64 E]) ∧ Trip w' a rs) ∧ Below w.heap.size w w') ∧
    (∀ w : World, Calls Try.prog 19 #[.string p] w fun e w' => (∃ a cap, e = .returned (.tuple #[.slice a rs.length cap, .int .i64 N, .int .i64 E]) ∧ Trip w' a rs) ∧ Below w.heap.size w w') := by
  have h1 := fun w => toks_any p w (by omega)
  have h2 := fun w => rtoks_any p w (by omega)
  have hcount : ∀ ts, M.tks 0 p.data.toList = .ok ts → ts.length ≤ 1048576 := by
    intro ts hts
    have key : ∀ (n q : Nat) (l : List UInt8) (ts : List M.Tok), l.length = n → M.tks q l = .ok ts → ts.length ≤ l.length := by
      intro n
      induction n using Nat.strongRecOn with
      | ind n ih =>
        intro q l ts hn h
        by_cases h0 : l.length = 0
        · rw [List.eq_nil_of_length_eq_zero h0, M.tks_nil] at h
          injection h with h
          rw [← h]; simp
        · cases hf : M.fst' l with
          | error k => rw [M.tks_err h0 hf] at h; cases h
          | ok tn =>
            obtain ⟨t, m⟩ := tn
            have hok := M.fst_ok h0 hf
            have hh := M.tks_ok (q := q) h0 hf []
            rw [M.pre_nil, h] at hh
            cases hr : M.tks (q + m) (l.drop m) with
            | error e => rw [hr] at hh; cases hh
            | ok us =>
              rw [hr] at hh
              simp only [M.pre, List.nil_append] at hh
              injection hh with hh
              have := ih (l.drop m).length (by simp; omega) _ _ _ rfl hr
              rw [List.length_drop] at this
              rw [hh]
              simp
              omega
    have := key _ _ _ _ rfl hts
    rw [len_] at this
    omega
  cases hR : M.tks 0 p.data.toList with
  | ok ts =>
    rw [hR] at h1 h2
    refine ⟨ts.map rt, p.size, 0, by rw [List.length_map]; exact hcount ts hR, fun w => (h1 w).mono fun e w' ⟨⟨v, he, ho⟩, hb⟩ => ?_, fun w => (h2 w).mono fun e w' ⟨⟨v, he, ho⟩, hb⟩ => ?_⟩
    · obtain ⟨a, cap, rfl, _, hT⟩ := OwnT.slice ho
      exact ⟨⟨a, cap, he, hT⟩, hb⟩
    · obtain ⟨a, cap, rfl, _, hT⟩ := OwnT.slice ho
      exact ⟨⟨a, cap, he, hT⟩, hb⟩
  | error qk =>
    rw [hR] at h1 h2
    exact ⟨[], (qk.1 : Nat), (qk.2 : Nat), by simp, fun w => (h1 w).mono fun e w' ⟨he, hb⟩ => ⟨⟨none, 0, he, Or.inl rfl⟩, hb⟩, fun w => (h2 w).mono fun e w' ⟨he, hb⟩ => ⟨⟨none, 0, he, Or.inl rfl⟩, hb⟩⟩
theorem frmV_form (X : Option (List UInt8)) : ∃ Y Z, frmV X = .tuple #[.string Y, .int .i64 Z] := by
  cases X with
  | none => exact ⟨_, _, rfl⟩
  | some b => exact ⟨_, _, rfl⟩
set_option maxHeartbeats 8000000 in
set_option maxRecDepth 20000 in
theorem toks_walk (p : ByteArray) (a : Option Addr) (cap : Nat) (qs : List (ByteArray × Int × Int)) (w : World) (hp : p.size ≤ 1048576) (hl : qs.length ≤ 1048576) (hnil : a = none → cap = 0) (V : Trip w a qs) :
    Calls Try.prog 6 #[.string p, .slice a qs.length cap] w fun e w' => e = .returned (.bool true) ∧ Below w.heap.size w w' := by
  obtain ⟨i0, hi, hz0, hz1, hz2⟩ := info_parts Try.infoTok
  obtain ⟨rs, N, E, hrl, c1, c2⟩ := both_toks p hp
  have C1 := hid c1; have C2 := hid c2
  have HV := hid V
  clear c1 c2 V
  go_enter Try.func6, Try.ntmps6
  go_wp2_with fail
  refine (fixed_any _).mono ?_
  rintro e w1 ⟨rfl, hb1⟩
  go_wp2_with fail
  refine (C1.out _).mono ?_
  rintro e w2 ⟨⟨a2, cap2, rfl, hT2⟩, hb2⟩
  have HB2 := hid (bel_bel hb1 hb2 hb1.size)
  have HT2 := hid hT2
  clear hb1 hb2 hT2
  go_wp2_with fail
  refine (C2.out _).mono ?_
  rintro e w3 ⟨⟨a3, cap3, rfl, hT3⟩, hb3⟩
  have HB3 := hid (bel_bel HB2.out hb3 HB2.out.size)
  have cr := refs_any a2 cap2 rs w3 (by omega) (HT2.out.below hb3)
  have CR := hid cr
  have HT3 := hid hT3
  clear hb3 hT3 cr HB2 HT2
  go_wp2_with fail
  refine CR.out.mono ?_
  rintro e w4 ⟨v4, rfl, ho4, hb4⟩
  have HB4 := hid (bel_bel HB3.out hb4 HB3.out.size)
  obtain ⟨a4, cap4, rfl, _, hT4⟩ := OwnT.slice ho4
  have HT4 := hid hT4
  have HT3' := hid (HT3.out.below hb4)
  clear hb4 hT4 ho4 HB3 CR HT3
  go_wp2_with fail
  go_loopg [12] rs.length (fun k i wr => ∃ j : Nat, j + k = rs.length ∧ i = .int .i64 j ∧ Hid (Qt w4 wr))
  case atStart => exact ⟨0, by omega, rfl, Qt.refl _⟩
  case round =>
    obtain ⟨j, hk, rfl, HQ⟩ := hrel
    by_cases hlt : j < rs.length
    · obtain ⟨k, rfl⟩ : ∃ k, gk = k + 1 := ⟨gk - 1, by omega⟩
      rcases HT4.out with hrn | ⟨b, off, rfl, hbl, hc⟩
      · rw [hrn] at hlt; simp at hlt
      rcases HT3'.out with hrn | ⟨b2, off2, rfl, hbl2, hc2⟩
      · rw [hrn] at hlt; simp at hlt
      obtain ⟨q0, q1, q2⟩ := hc j hlt
      obtain ⟨p0, p1, p2⟩ := hc2 j hlt
      generalize rs.getD j (ByteArray.empty, 0, 0) = r at *
      obtain ⟨S, n, d⟩ := r
      simp only at q0 q1 q2 p0 p1 p2
      have hcw : ∀ b o, wr.cell? ⟨b, o, none⟩ = w4.cell? ⟨b, o, none⟩ := fun b o => by obtain ⟨n, rfl⟩ := HQ.out; rfl
      have k0 := (hcw b (off + j * 3)).trans q0
      have k1 := (hcw b (off + j * 3 + 1)).trans q1
      have k2 := (hcw b (off + j * 3 + 2)).trans q2
      have l0 := (hcw b2 (off2 + j * 3)).trans p0
      have l1 := (hcw b2 (off2 + j * 3 + 1)).trans p1
      have l2 := (hcw b2 (off2 + j * 3 + 2)).trans p2
      have hne := neq_rtok S n d
      have hgd := fun x y w => run_eqGuard_agg (P := Try.prog) w BinOp.neq 46 x y #[.string S, .int .i64 n, .int .i64 d] #[.string S, .int .i64 n, .int .i64 d] Try.rtokGuard
      have b1 : (0 : Int) ≤ (j : Int) := by omega
      have b2' : (j : Int) < rs.length := by omega
      clear hcw q0 q1 q2 p0 p1 p2 hc hc2
      go_wp2_with fail
      go_quiet (fail)
      go_wp2_with fail
      go_roundg k
      case measure => omega
      case rel => exact ⟨j + 1, by omega, by go_num, HQ.out.drewN _⟩
    · obtain rfl : gk = 0 := by omega
      have HB5 := hid (below_qt HB4.out HQ.out)
      have hsz5 := HB5.out.size
      have HV5 := hid (HV.out.below HB5.out)
      have hown0 := World.ownsRow_lit (base := w.heap.size) (e := 47) (size := 3) wr #[] 0 hsz5 (by unfold maxLen; omega) rfl
      have hV5a := HV5.out.below ((Below.refl _ wr).alloc (Nat.le_refl _) (.cells #[] 47))
      clear HB4 HT4 HT3' HQ
      go_wp2_with (at_builtin; refine wpList_copy_toks rfl _ _ rfl w.heap.size _ rfl hown0 ?hB a qs cap rfl hV5a hnil (by omega) ?_)
      case hB => first | omega | (simp; omega)
      intro v6 w6 ho6 hgrow6
      have HB6 := hid ((HB5.out.alloc hsz5 (.cells #[] 47)).grown hgrow6 (by simp; omega) (fun k hk => (World.ownsRow.lt hown0 k hk).1))
      have hsz6 := HB6.out.size
      unfold OwnT at ho6
      clear hgrow6 hown0 hV5a
      go_wp2_with (at_builtin; refine wpList_append_own _ rfl _ _ 38 rfl w.heap.size 47 i0 (.agg #[.string ⟨#[]⟩, .int .i64 0, .int .i64 0]) 3 32 Try.underToks hi hz0 hz1 hz2 rfl (by decide) _ _ _ rfl (ho6.alloc _) ⟨w6.heap.size, 0, none⟩ 1 1 (rc ((⟨#[]⟩ : ByteArray), (-9 : Int), (0 : Int))) rfl rfl ?c1 ?c2 ?c3 ?c4 ?c5 ?_)
      case c1 => exact cells_newN _ (rc ((⟨#[]⟩ : ByteArray), (-9 : Int), (0 : Int))) _ _ rfl
      case c2 => exact rc_one _
      case c3 => unfold maxLen; omega
      case c4 => omega
      case c5 => simp; omega
      intro v7 w7 hown7 hgrow7 _
      have HB7 := hid (bel_step HB6.out ho6 hsz6 hgrow7)
      have ho7 : OwnT 47 w7 w.heap.size v7 (qs ++ [((⟨#[]⟩ : ByteArray), (-9 : Int), (0 : Int))]) := ownT_snoc hown7 rfl
      obtain ⟨a7, cap7, rfl, _, hT7⟩ := OwnT.slice ho7
      have hcapl : qs.length + 1 ≤ cap7 ∧ cap7 ≤ 9223372036854775807 := by
        rcases hown7.2 with ⟨h1, h2⟩ | ⟨g, cap, cur, h1, h2, h3, h4, h5, _⟩
        · omega
        · injection h1 with h1 h1a h1b
          subst h1b
          unfold maxLen at h5
          exact ⟨h4, by omega⟩
      have hlen7 : (qs ++ [((⟨#[]⟩ : ByteArray), (-9 : Int), (0 : Int))]).length = qs.length + 1 := by simp
      have HTL := hid hT7.left
      rcases hT7 with hrn | ⟨b, off, rfl, hbl, hc⟩
      · simp at hrn
      have hlast := (hc qs.length (by rw [hlen7]; omega)).2.1
      have hgl : (qs ++ [((⟨#[]⟩ : ByteArray), (-9 : Int), (0 : Int))]).getD qs.length (ByteArray.empty, 0, 0) = ((⟨#[]⟩ : ByteArray), (-9 : Int), (0 : Int)) := by simp [List.getD_eq_getElem?_getD]
      rw [hgl] at hlast
      have HLAST := hid (And.intro hbl hlast)
      rw [hlen7]
      have cf := form_any (some ⟨b, off, none⟩) cap7 qs w7 (by omega) HTL.out
      obtain ⟨FY, FZ, hF⟩ := frmV_form (frm qs)
      rw [hF] at cf
      have CF := hid cf
      have HF := hid hF
      have hc1 := hcapl.1
      have hc2 := hcapl.2
      have b0 : (0 : Int) ≤ (qs.length : Int) := by omega
      have b1 : (qs.length : Int) ≤ cap7 := by omega
      have b2 : (qs.length : Int) < (qs.length : Int) + 1 := by omega
      clear cf hF hown7 hgrow7 ho7 ho6 hlast hgl hc hcapl hlen7 hbl
      go_wp2_with fail
      refine CF.out.mono ?_
      rintro e w8 ⟨rfl, hb8⟩
      have HB8 := hid (bel_bel HB7.out hb8 HB7.out.size)
      have HTL8 := hid (HTL.out.below hb8)
      have hl8 := (hb8.cell (p := ⟨b, off + qs.length * 3 + 1, none⟩) HLAST.out.1).trans HLAST.out.2
      have HL8 : Hid (b < w8.heap.size ∧ w8.cell? ⟨b, off + qs.length * 3 + 1, none⟩ = some (.int .i64 (-9))) := ⟨Nat.lt_of_lt_of_le HLAST.out.1 hb8.size, hl8⟩
      have cr := refs_any a cap qs w8 (by omega) (HV.out.below HB8.out)
      have CR := hid cr
      clear hb8 cr hl8 CF
      go_wp2_with fail
      refine CR.out.mono ?_
      rintro e w9 ⟨v9, rfl, ho9, hb9⟩
      have HB9 := hid (bel_bel HB8.out hb9 HB8.out.size)
      obtain ⟨a9, cap9, rfl, _, hT9⟩ := OwnT.slice ho9
      have HTL9 := hid (HTL8.out.below hb9)
      have hl9 := (hb9.cell (p := ⟨b, off + qs.length * 3 + 1, none⟩) HL8.out.1).trans HL8.out.2
      have HL9 : Hid (b < w9.heap.size ∧ w9.cell? ⟨b, off + qs.length * 3 + 1, none⟩ = some (.int .i64 (-9))) := ⟨Nat.lt_of_lt_of_le HL8.out.1 hb9.size, hl9⟩
      have crf := rform_any a9 cap9 qs w9 (by omega) hT9
      rw [HF.out] at crf
      have CRF := hid crf
      clear ho9 hb9 hT9 hl9 crf CR
      go_wp2_with fail
      refine CRF.out.mono ?_
      rintro e w10 ⟨rfl, hb10⟩
      have HB10 := hid (bel_bel HB9.out hb10 HB9.out.size)
      have hl10 := (hb10.cell (p := ⟨b, off + qs.length * 3 + 1, none⟩) HL9.out.1).trans HL9.out.2
      have HL10 := hid hl10
      have cs := same_any (some ⟨b, off, none⟩) a cap7 cap qs w10 (by omega) (HTL9.out.below hb10) (HV.out.below HB10.out)
      have CS := hid cs
      clear hb10 cs hl10 CRF
      go_wp2_with fail
      refine CS.out.mono ?_
      rintro e w11 ⟨rfl, hq11⟩
      have HB11 := hid (below_qt HB10.out hq11)
      have k11 : w11.cell? ⟨b, off + qs.length * 3 + 1, none⟩ = some (.int .i64 (-9)) := by obtain ⟨n, rfl⟩ := hq11; exact HL10.out
      clear hq11 CS
      go_wp2_with fail
      go_ret
      exact ⟨rfl, HB11.out⟩
end Go.Proofs.Ytdkfenmhfkggdaa
