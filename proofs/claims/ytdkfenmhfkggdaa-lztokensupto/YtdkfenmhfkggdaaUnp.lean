/- The program's Unpack answers as the document asks; nothing that was there before is turned. -/
import Derived.Test.YtdkfenmhfkggdaaChk
import Derived.Test.YtdkfenmhfkggdaaBeh
import Derived.Test.YtdkfenmhfkggdaaPck
import Derived.Laws.MakeOwn
namespace Go.Proofs.Ytdkfenmhfkggdaa
open Go.RowKit
/-- What Unpack answers. -/
def unZ (p : List UInt8) (z m : Int) : Value :=
  if z < 0 ∨ m < z then .tuple #[.string ⟨#[]⟩, .int .i64 66]
  else match M.un z.toNat p [] with
    | .error k => .tuple #[.string ⟨#[]⟩, .int .i64 (k : Nat)]
    | .ok F => .tuple #[.string (ba F), .int .i64 0]
theorem tok_dist {t : M.Tok} (h : t.ok) (hn : 1 ≤ t.len) : 1 ≤ t.dist := by
  cases t with
  | lit s => simp [M.Tok.len] at hn
  | mat n d => exact h.2.2.1
theorem fst_bad {l : List UInt8} {k : Nat} (h : M.fst' l = .error k) : ((k : Int) != 0) = true := by rw [bne_iff_ne]; have := fst_code h; omega
theorem un_bad' (len : Nat) : ∀ (n : Nat) (p out : List UInt8) (k : Nat), p.length = n → M.un len p out = .error k → k ≠ 0 := by
  intro n
  induction n using Nat.strongRecOn with
  | ind n ih =>
    intro p out k hn h
    by_cases h0 : p.length = 0
    · rw [List.eq_nil_of_length_eq_zero h0, M.un_nil] at h
      split at h
      · injection h with h; omega
      · cases h
    · rw [M.un_step h0] at h
      cases hf : M.fst' p with
      | error e =>
        rw [hf] at h
        simp only at h
        injection h with h
        have := fst_code hf
        omega
      | ok tn =>
        obtain ⟨t, m⟩ := tn
        rw [hf] at h
        simp only at h
        have hok := M.fst_ok h0 hf
        split at h
        · injection h with h; omega
        · split at h
          · injection h with h; omega
          · exact ih (p.drop m).length (by simp; omega) _ _ _ rfl h
set_option maxHeartbeats 4000000 in
set_option maxRecDepth 20000 in
theorem unpack_in (p : ByteArray) (len : Nat) (m : Int) (w : World) (hl : len ≤ 9223372036854775807) (hm : (len : Int) ≤ m) (hb : ∀ F, M.un len p.data.toList [] = .ok F → len ≤ 140737488340000) :
    Calls Try.prog 16 #[.string p, .int .i64 len, .int .i64 m] w fun e w' => e = .returned (match M.un len p.data.toList [] with | .error k => .tuple #[.string ⟨#[]⟩, .int .i64 (k : Nat)] | .ok F => .tuple #[.string (ba F), .int .i64 0]) ∧ Below w.heap.size w w' := by
  obtain ⟨i0, hi, hz0, hz1, hz2⟩ := info_parts Try.info5
  have cc := fun w => check_any p len w hl
  have hmz : ¬ m < (len : Int) := by omega
  cases hun : M.un len p.data.toList [] with
  | error k =>
    rw [hun] at cc
    have hk : ((k : Int) != 0) = true := by rw [bne_iff_ne]; have := un_bad' len _ _ _ _ rfl hun; omega
    have CC : Hid (∀ w : World, Calls Try.prog 29 #[.string p, .int .i64 len] w fun e w' => e = .returned (.int .i64 (k : Nat)) ∧ Below w.heap.size w w') := cc
    clear cc hun hb
    go_enter Try.func16, Try.ntmps16
    go_wp2_with fail
    refine (CC.out _).mono ?_
    rintro e w1 ⟨rfl, hb1⟩
    go_wp2_with fail
    go_ret2
    exact ⟨rfl, hb1⟩
  | ok F =>
    have hbd := hb F hun
    rw [hun] at cc
    have CC : Hid (∀ w : World, Calls Try.prog 29 #[.string p, .int .i64 len] w fun e w' => e = .returned (.int .i64 (0 : Nat)) ∧ Below w.heap.size w w') := cc
    have HUN := hid hun
    clear cc hun hb
    go_enter Try.func16, Try.ntmps16
    go_wp2_with fail
    refine (CC.out _).mono ?_
    rintro e w1 ⟨rfl, hb1⟩
    have hsz1 := hb1.size
    obtain ⟨w2, hmk, hown, hgrow⟩ := run_make_own (P := Try.prog) w1 w.heap.size 57 5 i0 (.int .u8 0) 1 Try.underBytes hi hz0 hz1 .i64 .i64 len (by rw [hz2]; omega) (by unfold maxLen; omega) hsz1
    have HO := hid (show Own w2 w.heap.size (.slice (some ⟨w1.heap.size, 0, none⟩) 0 len) [] from hown)
    have HB := hid (hb1.grown hgrow hsz1 (fun k hk => by cases hk))
    have HS : Hid (w.heap.size ≤ w2.heap.size) := Nat.le_trans hsz1 hgrow.size
    clear hown hgrow hb1 CC
    go_wp2_with fail
    clear hmk
    go_loopg [0, 9, 10, 11, 12] p.size (fun k s o a b c wr => ∃ (S : ByteArray) (out : List UInt8), S.size = k ∧ s = .string S ∧ Hid (out.length ≤ len) ∧ Hid (M.un len S.data.toList out = .ok F) ∧ Hid (Own wr w.heap.size o out) ∧ Hid (Below w.heap.size w wr) ∧ Hid (w.heap.size ≤ wr.heap.size))
    case atStart => exact ⟨p, [], rfl, rfl, Nat.zero_le _, HUN, HO, HB, HS⟩
    case round =>
      clear HUN HO HB HS
      obtain ⟨S, out, rfl, rfl, HU, HP, HO, HB, HS⟩ := hrel
      by_cases h0 : S.size = 0
      · have e1 := (empty_iff S).1 h0
        subst e1
        have hp := HP.out
        have e2 : M.un len (⟨#[]⟩ : ByteArray).data.toList out = if out.length < len then .error 20 else .ok out := M.un_nil len out
        rw [e2] at hp
        have hF : out = F := by
          split at hp
          · cases hp
          · injection hp
        have hcv := conv_own HO.out
        rw [hF] at hcv
        clear hp e2 hF
        go_wp2_with fail
        go_ret2
        exact ⟨rfl, HB.out⟩
      · have e1 := ne_emp h0
        have hp := HP.out
        rw [M.un_step (by rw [len_]; exact h0)] at hp
        cases hf : M.fst' S.data.toList with
        | error k =>
          rw [hf] at hp
          cases hp
        | ok tn =>
          obtain ⟨t, n⟩ := tn
          rw [hf] at hp
          simp only at hp
          have hok := M.fst_ok (by rw [len_]; exact h0) hf
          have hsm := tok_small hok.1
          have hdi := tok_dist hok.1
          have hn := hok.2.2.1
          have hn2 := hok.2.1
          rw [len_] at hn
          have cf := fun w => first_ok S t n w (by omega) hf
          have hal := M.app_len out t
          by_cases hd : out.length < t.dist
          · rw [if_pos hd] at hp; cases hp
          by_cases hc : len - out.length < t.count
          · rw [if_neg hd, if_pos hc] at hp; cases hp
          rw [if_neg hd, if_neg hc] at hp
          have hU := HU.out
          have cbh := fun (v : Value) (w9 : World) (h1 : Own w9 w.heap.size v out) (h2 : w.heap.size ≤ w9.heap.size) => behind_any w.heap.size out v (ba t.lits) t.len t.dist w9 h1 h2 (fun h => ⟨hdi h, by omega⟩) (by rw [ba_size]; omega)
          have hap : M.cpy t.dist t.len (out ++ (ba t.lits).data.toList) = M.app out t := rfl
          rw [hap] at cbh
          have HU2 : Hid ((M.app out t).length ≤ len) := by show _ ≤ _; rw [hal]; omega
          have HP2 := hid hp
          generalize M.app out t = out2 at *
          generalize ba t.lits = TS at *
          generalize t.len = TN at *
          generalize t.dist = TD at *
          have CF := hid cf
          have CBH := hid cbh
          have hex := ext_drop S n
          have HEX := hid hex
          clear hok hsm hf cf cbh HP hp hal hd hc hap hdi hU HU hex
          go_wp2_with fail
          refine (CF.out _).mono ?_
          rintro e w3 ⟨rfl, hb3⟩
          have hszr := HS.out
          have HB3 := hid (HB.out.trans (hb3.mono hszr))
          have HS3 : Hid (w.heap.size ≤ w3.heap.size) := Nat.le_trans hszr hb3.size
          have HO3 : Hid (Own w3 w.heap.size u9 out) := own_apart HO.out (fun g hg => hb3.block g (World.ownsRow.lt HO.out g hg).2)
          clear hb3 HB HS HO
          go_wp2_with fail
          refine (CBH.out _ _ (World.ownsRow.alloc HO3.out _) (by have := HS3.out; simp; omega)).mono ?_
          rintro e w4 ⟨v4, rfl, ho4, hb4⟩
          have HO4 := hid ho4
          have HB4 := hid ((HB3.out.alloc HS3.out (.cells #[.string TS, .int .i64 TN, .int .i64 TD] 47)).trans hb4)
          have HS4 : Hid (w.heap.size ≤ w4.heap.size) := by have := hb4.size; have := HS3.out; simp at *; show _ ≤ _; omega
          clear ho4 hb4 HO3 HB3 HS3
          go_wp2_with fail
          go_roundg (S.size - n)
          case measure => omega
          case rel => exact ⟨_, out2, by rw [← len_, HEX.out, List.length_drop, len_], rfl, HU2, by rw [HEX.out]; exact HP2, HO4, HB4, HS4⟩
theorem unpack_any (p : ByteArray) (z m : Int) (w : World) (h1 : z ≤ 9223372036854775807) (hb : ∀ F, M.un z.toNat p.data.toList [] = .ok F → z ≤ 140737488340000) :
    Calls Try.prog 16 #[.string p, .int .i64 z, .int .i64 m] w fun e w' => e = .returned (unZ p.data.toList z m) ∧ Below w.heap.size w w' := by
  by_cases h0 : z < 0 ∨ m < z
  · unfold unZ
    rw [if_pos h0]
    by_cases hz : z < 0
    · clear hb h0
      go_enter Try.func16, Try.ntmps16
      go_wp2_with fail
      go_ret2
      exact ⟨rfl, Below.refl _ _⟩
    · have hz2 : m < z := by omega
      clear hb h0
      go_enter Try.func16, Try.ntmps16
      go_wp2_with fail
      go_ret2
      exact ⟨rfl, Below.refl _ _⟩
  · obtain ⟨len, rfl⟩ := Int.eq_ofNat_of_zero_le (show 0 ≤ z by omega)
    have hx := unpack_in p len m w (by omega) (by omega) (fun F hF => by have := hb F hF; omega)
    unfold unZ
    rw [if_neg h0]
    exact hx
end Go.Proofs.Ytdkfenmhfkggdaa
