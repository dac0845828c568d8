/- Texts of the proof, put together: RBig, Xea, Xeb, Bpq, Bdt, Xec. -/
import Derived.Test.YtihokphamgkkcaaGreatMB1
import Derived.Test.YtihokphamgkkcaaGreatVput
import Derived.Test.YtihokphamgkkcaaGreatMB4
import Derived.Test.YtihokphamgkkcaaGreatME6
import Derived.Test.YtihokphamgkkcaaGreatML3
import Derived.Test.YtihokphamgkkcaaGreatMK
import Derived.Test.YtihokphamgkkcaaGreatMR
import Derived.Test.YtihokphamgkkcaaGreatMXe
import Derived.Deep.RegionHeld3
import Derived.Test.YtihokphamgkkcaaGreatMB6
import Derived.Test.YtihokphamgkkcaaGreatMB5
import Derived.Test.YtihokphamgkkcaaGreatMB7
namespace Go.Proofs.YtihokphamgkkcaaGreat
open Go.RowKit
theorem bel_nx {w x y : World} (h : Below w.heap.size w x) (k : Below x.heap.size x y) : Below w.heap.size w y := h.trans (k.mono h.size)
set_option maxHeartbeats 1000000 in
set_option maxRecDepth 20000 in
theorem big_any (v n : Nat) (w : World) (hn : n ≤ 8) :
    Calls Tryz.prog 30 #[.int .u64 v, .int .i64 n] w fun e w' => e = .returned (.string (bs (nb n v))) ∧ Below w.heap.size w w' := by
  obtain ⟨i0, hi, hz0, hz1, hz2⟩ := info_parts Tryz.info5
  have hw1 : IntKind.i64.wrap ((n : Int) - 1) = (n : Int) - 1 := wrap_in (by omega) (by omega)
  go_enter Tryz.func30, Tryz.ntmps30
  go_wp2_with fail
  go_loopg [5, 6] n (fun k o i wr => k ≤ n ∧ i = .int .i64 ((k : Int) - 1) ∧ Hid (wr.ownsRow w.heap.size 5 1 o (nb (n - k) (v / 256 ^ k)).length (bc (nb (n - k) (v / 256 ^ k)))) ∧ Hid (Below w.heap.size w wr))
  case atStart => exact ⟨Nat.le_refl _, by first | rfl | go_num, by show World.ownsRow _ _ _ _ _ _ _; rw [Nat.sub_self]; exact World.ownsRow_nil _ _ _ _, Below.refl _ _⟩
  case round =>
    obtain ⟨hk, rfl, HO, HB⟩ := hrel
    have hsz := HB.out.size
    by_cases hlt : 0 < gk
    · obtain ⟨j, rfl⟩ : ∃ j, gk = j + 1 := ⟨gk - 1, by omega⟩
      have e1 : ((j + 1 : Nat) : Int) - 1 = j := by omega
      rw [e1]
      clear e1
      have ho := HO.out
      have hX : (nb (n - (j + 1)) (v / 256 ^ (j + 1))).length ≤ 8 := by rw [nb_len]; omega
      generalize hX' : (nb (n - (j + 1)) (v / 256 ^ (j + 1))).length = X at hX ho
      have hp8 := p8 j
      have hw8 : IntKind.i64.wrap (8 * (j : Int)) = 8 * (j : Int) := wrap_in (by omega) (by omega)
      have h80 : ¬ 8 * (j : Int) < 0 := by omega
      have j0 : (0 : Int) ≤ j := by omega
      have hw9 : IntKind.u64.wrap (8 * (j : Int)) = 8 * (j : Int) := by rw [IntKind.wrap_u64]; omega
      go_wp2_with (at_builtin; refine wpList_append_own _ rfl _ _ 63 rfl w.heap.size 5 i0 (.int .u8 0) 1 1 Tryz.underBytes hi hz0 hz1 hz2 rfl (by decide) _ _ _ rfl (ho.alloc _) ⟨wr.heap.size, 0, none⟩ 1 1 [.int .u8 ((v / 256 ^ j % 256 : Nat) : Int)] rfl rfl ?c1 ?c2 ?c3 ?c4 ?c5 ?_)
      case c2 => first | rfl | (intro u hu; simp at hu; subst hu; rfl)
      case c3 => unfold maxLen; omega
      case c4 => omega
      case c5 => omega
      intro v' w1 hown1 hgrow1 _
      have HB1 := hid (bel_step HB.out ho hsz hgrow1)
      have e1 : n - j = n - (j + 1) + 1 := by omega
      have HO1 : Hid (w1.ownsRow w.heap.size 5 1 v' (nb (n - j) (v / 256 ^ j)).length (bc (nb (n - j) (v / 256 ^ j)))) := by
        show World.ownsRow _ _ _ _ _ _ _
        rw [e1, nb_next]
        exact own_snoc hX' hown1
      clear hown1 hgrow1 ho
      go_wp2_with fail
      go_roundg j
      case measure => omega
      case rel => exact ⟨by omega, by first | rfl | go_num, HO1, HB1⟩
    · have hm0 : gk = 0 := by omega
      subst hm0
      have ho := HO.out
      have e0 : nb (n - 0) (v / 256 ^ 0) = nb n v := by rw [Nat.sub_zero, Nat.pow_zero, Nat.div_one]
      rw [e0] at ho
      have hcv := conv_own (l := nb n v) (nb_byte n v) ho
      have hneg : ¬ (0 : Int) ≤ ((0 : Nat) : Int) - 1 := by omega
      clear ho
      go_wp2_with fail
      go_ret
      exact ⟨rfl, HB.out⟩
end Go.Proofs.YtihokphamgkkcaaGreat
namespace Go.Proofs.YtihokphamgkkcaaGreat
open Go.RowKit
theorem Bx1.grownR {w : World} {b : Array Value} {T : TypeId} {y y' : World} {n size : Nat} {e : TypeId} {o : Value} {l : List Value} (h : Bx1 w b T y) (hown : y.ownsRow (w.heap.size + 1) e size o n l) (hg : y.grownBy y' o.ownBlock) : Bx1 w b T y' :=
  ⟨(hg.block w.heap.size (lt_of_heap h.p) (fun e => by have := (hown.lt _ e.symm).1; omega)).trans h.p, h.b.grown hg h.b.size (fun k hk => by have := (hown.lt k hk).1; omega)⟩
theorem own_lenv {w : World} {B n size : Nat} {e : TypeId} {v : Value} {l : List Value} (h : w.ownsRow B e size v n l) : ∃ a cap, v = .slice a n cap := by
  rcases h.2 with ⟨rfl, rfl⟩ | ⟨g, cap, cur, rfl, _⟩
  · exact ⟨_, _, rfl⟩
  · exact ⟨_, _, rfl⟩
theorem big2 (v : Nat) (W x : World) (hx : Below W.heap.size W x) : Calls Tryz.prog 30 #[.int .u64 v, .int .i64 2] x fun e w' => e = .returned (.string (bs (nb 2 v))) ∧ Below W.heap.size W w' := (big_any v 2 x (by omega)).mono fun _ _ h => ⟨h.1, bel_nx hx h.2⟩
theorem big4 (v : Nat) (W x : World) (hx : Below W.heap.size W x) : Calls Tryz.prog 30 #[.int .u64 v, .int .i64 4] x fun e w' => e = .returned (.string (bs (nb 4 v))) ∧ Below W.heap.size W w' := (big_any v 4 x (by omega)).mono fun _ _ h => ⟨h.1, bel_nx hx h.2⟩
theorem big8 (v : Nat) (W x : World) (hx : Below W.heap.size W x) : Calls Tryz.prog 30 #[.int .u64 v, .int .i64 8] x fun e w' => e = .returned (.string (bs (nb 8 v))) ∧ Below W.heap.size W w' := (big_any v 8 x (by omega)).mono fun _ _ h => ⟨h.1, bel_nx hx h.2⟩
theorem wrap_u64of (v : Int) : IntKind.u64.wrap v = (u64 v : Int) := by rw [IntKind.wrap_u64]; unfold u64; omega
theorem wrap_u32of (v : Int) : IntKind.u32.wrap v = (u32 v : Int) := by rw [IntKind.wrap_u32]; unfold u32; omega
theorem frm_doc (f : Fs) (t UN : ByteArray) (st n F1 G1 P1 Q1 A1 K5 SM : Nat) (e1 : f.st = st) (e2 : f.cnt = n) (e3 : u64 f.first = F1) (e4 : u64 f.grt = G1) (e5 : u64 f.prod = P1) (e6 : u32 f.seq = Q1) (e7 : u64 f.base = A1) (e8 : f.len = K5) (e9 : f.mark = 71)
    (hU : bs (nb 2 st) ++ bs (nb 4 n) ++ (bs (nb 8 F1) ++ bs (nb 8 G1)) ++ bs (nb 8 P1) ++ bs (nb 4 Q1) ++ t = UN) (hS : K.M.more 0 UN.data.toList = SM) : bs (nb 8 A1) ++ bs (nb 4 K5) ++ ⟨#[71]⟩ ++ bs (nb 4 SM) ++ UN = frm f t := by
  subst e1 e2 e3 e4 e5 e6 e7 e8
  have hU2 : bs (smd f) ++ t = UN := by
    rw [← hU]
    unfold smd
    simp only [bs_cat, ByteArray.append_assoc]
  have hS2 : smo f t = SM := by
    unfold smo
    rw [hU2]
    exact hS
  have h1 : bs (nb 1 71) = ⟨#[71]⟩ := by rfl
  unfold frm usm
  rw [hS2, ByteArray.append_assoc (a := bs _) (b := bs (smd f)), hU2]
  dsimp only
  rw [e9, bs_cat, bs_cat, bs_cat, h1]
set_option maxHeartbeats 8000000 in
set_option maxRecDepth 20000 in
theorem xenc_head (base : Int) (pk : Bool) (prod seq : Int) (l : List RI) (a : Option Addr) (cap : Nat) (w : World) (hr : rfh ⟨base, pk, prod, seq, l, a, cap⟩ ≠ 0) (hL : l.length ≤ 9223372036854775807) (hb1 : -9223372036854775808 ≤ base) (hb2 : base ≤ 9223372036854775807) :
    Calls Tryz.prog 11 #[.agg #[.int .i64 base, .bool pk, .int .i64 prod, .int .i32 seq, .slice a l.length cap]] w fun e w' => (∃ (E : Nat) (S : ByteArray), e = .returned (.tuple #[.string S, .int .i64 E]) ∧ EncP ⟨base, pk, prod, seq, l, a, cap⟩ E S) ∧ Below w.heap.size w w' := by
  have HE : Hid (EncP ⟨base, pk, prod, seq, l, a, cap⟩ (rfh ⟨base, pk, prod, seq, l, a, cap⟩) ⟨#[]⟩) := Or.inl ⟨hr, StoP.head hr, rfl⟩
  have N0 := Bx1.new w #[.int .i64 base, .bool pk, .int .i64 prod, .int .i32 seq, .slice a l.length cap] 24
  obtain ⟨k0, k1, k2, k3, k4⟩ := cells5 N0.p
  have HN := hid N0
  have CN := hid (fun w => xnumbered_any prod seq w)
  clear N0
  unfold rfh at HE hr
  dsimp only at HE hr
  by_cases h1 : l.length = 0
  · rw [if_pos h1] at HE
    clear hr
    obtain rfl : l = [] := List.eq_nil_of_length_eq_zero h1
    go_enter Tryz.func11, Tryz.ntmps11
    go_wp2_with fail
    go_ret2
    exact ⟨⟨4, _, rfl, HE.out⟩, HN.out.b⟩
  rw [if_neg h1] at HE hr
  have hI : ¬ (l.length : Int) = 0 := by omega
  by_cases h2 : 65536 < l.length
  · rw [if_pos h2] at HE
    clear hr
    have hJ : (65536 : Int) < l.length := by omega
    have hJD : decide ((65536 : Int) < l.length) = true := decide_eq_true hJ
    go_enter Tryz.func11, Tryz.ntmps11
    go_wp2_with fail
    go_ret2
    exact ⟨⟨5, _, rfl, HE.out⟩, HN.out.b⟩
  rw [if_neg h2] at HE hr
  have hJ : ¬ (65536 : Int) < l.length := by omega
  have hJD : decide ((65536 : Int) < l.length) = false := decide_eq_false hJ
  by_cases h3 : ¬ (0 ≤ base ∧ base < 4611686018427387904) ∨ isPr prod seq = false
  · rw [if_pos h3] at HE
    clear hr
    by_cases c1 : base < 0
    · have d1 : decide (base < 0) = true := decide_eq_true c1
      go_enter Tryz.func11, Tryz.ntmps11
      go_wp2_with fail
      go_ret2
      exact ⟨⟨1, _, rfl, HE.out⟩, HN.out.b⟩
    have d1 : decide (base < 0) = false := decide_eq_false c1
    by_cases c2 : 4611686018427387904 ≤ base
    · have d2 : decide ((4611686018427387904 : Int) ≤ base) = true := decide_eq_true c2
      go_enter Tryz.func11, Tryz.ntmps11
      go_wp2_with fail
      go_ret2
      exact ⟨⟨1, _, rfl, HE.out⟩, HN.out.b⟩
    have d2 : decide ((4611686018427387904 : Int) ≤ base) = false := decide_eq_false c2
    have hp : isPr prod seq = false := by
      rcases h3 with h | h
      · omega
      · exact h
    rw [hp] at CN
    clear h3
    go_enter Tryz.func11, Tryz.ntmps11
    go_wp2_with fail
    refine (CN.out _).mono ?_
    rintro e w1 ⟨rfl, rfl⟩
    go_wp2_with fail
    go_ret2
    exact ⟨⟨1, _, rfl, HE.out⟩, HN.out.b⟩
  rw [if_neg h3] at HE hr
  have hq : 0 ≤ base ∧ base < 4611686018427387904 := Classical.not_not.1 (fun h => h3 (Or.inl h))
  have d1 : decide (base < 0) = false := decide_eq_false (by omega)
  have d2 : decide ((4611686018427387904 : Int) ≤ base) = false := decide_eq_false (by omega)
  have hp : isPr prod seq = true := by
    cases h : isPr prod seq with
    | true => rfl
    | false => exact absurd (Or.inr h) h3
  rw [hp] at CN
  by_cases h4 : ¬ base ≤ 4611686018427387904 - l.length
  · rw [if_pos h4] at HE
    clear hr h3
    have hw1 : IntKind.i64.wrap (base + (l.length : Int)) = base + (l.length : Int) := wrap_in (by omega) (by omega)
    have hw2 : IntKind.i64.wrap (base + (l.length : Int) - 1) = base + (l.length : Int) - 1 := wrap_in (by omega) (by omega)
    have hK : (4611686018427387904 : Int) ≤ base + (l.length : Int) - 1 := by omega
    have hKD : decide ((4611686018427387904 : Int) ≤ base + (l.length : Int) - 1) = true := decide_eq_true hK
    clear h4
    go_enter Tryz.func11, Tryz.ntmps11
    go_wp2_with fail
    refine (CN.out _).mono ?_
    rintro e w1 ⟨rfl, rfl⟩
    go_wp2_with fail
    go_ret2
    exact ⟨⟨65, _, rfl, HE.out⟩, HN.out.b⟩
  rw [if_neg h4] at hr
  exact absurd rfl hr
end Go.Proofs.YtihokphamgkkcaaGreat
namespace Go.Proofs.YtihokphamgkkcaaGreat
open Go.RowKit
set_option maxHeartbeats 8000000 in
set_option maxRecDepth 20000 in
theorem xenc_yes (base : Int) (pk : Bool) (prod seq : Int) (l : List RI) (N : Nat) (hN : l.length = N) (b off cap : Nat) (w : World) (V : Rcs w (some ⟨b, off, none⟩) l) (hbl : b < w.heap.size) (hc : ∀ j, j < l.length → Six w b (off + j * 6) (l.getD j dri)) (hr : rfh ⟨base, pk, prod, seq, l, some ⟨b, off, none⟩, cap⟩ = 0) (hT : ∀ x ∈ l, I64 x.r.t) (hM : ∀ x ∈ l, Mod x.r) :
    Calls Tryz.prog 11 #[.agg #[.int .i64 base, .bool pk, .int .i64 prod, .int .i32 seq, .slice (some ⟨b, off, none⟩) N cap]] w fun e w' => (∃ (E : Nat) (S : ByteArray), e = .returned (.tuple #[.string S, .int .i64 E]) ∧ EncP ⟨base, pk, prod, seq, l, some ⟨b, off, none⟩, cap⟩ E S) ∧ Below w.heap.size w w' := by
  obtain ⟨hL, hbs, hpr, hov⟩ := rfh_zero hr
  dsimp only at hL hbs hpr hov
  have HL := hid hL
  have hl0 : 0 < l.length := by omega
  have HVV := hid V
  have HT := hid hT
  have HM := hid hM
  have HR := hid hr
  have HT0 := hid (hT _ (riD_mem hl0))
  have HC := hid hc
  have HNN := hid hN
  have HG := hid (fun x (V : Rcs x (some ⟨b, off, none⟩) l) => xgreatest_any l (some ⟨b, off, none⟩) cap x V (by omega))
  have CN := hid (fun w => xnumbered_any prod seq w)
  rw [hpr] at CN
  have hI : ¬ (N : Int) = 0 := by omega
  have hJ : ¬ (65536 : Int) < N := by omega
  have hJD : decide ((65536 : Int) < N) = false := decide_eq_false hJ
  have d1 : decide (base < 0) = false := decide_eq_false (by omega)
  have d2 : decide ((4611686018427387904 : Int) ≤ base) = false := decide_eq_false (by omega)
  have hw1 : IntKind.i64.wrap (base + (N : Int)) = base + (N : Int) := wrap_in (by omega) (by omega)
  have hw2 : IntKind.i64.wrap (base + (N : Int) - 1) = base + (N : Int) - 1 := wrap_in (by omega) (by omega)
  have hK : ¬ (4611686018427387904 : Int) ≤ base + (N : Int) - 1 := by omega
  have hKD : decide ((4611686018427387904 : Int) ≤ base + (N : Int) - 1) = false := decide_eq_false hK
  have b1 : (0 : Int) < N := by omega
  have N0 := Bx1.new w #[.int .i64 base, .bool pk, .int .i64 prod, .int .i32 seq, .slice (some ⟨b, off, none⟩) N cap] 24
  obtain ⟨k0, k1, k2, k3, k4⟩ := cells5 N0.p
  have HN0 := hid N0
  have HBL := hid hbl
  generalize hfi : (l.getD 0 dri).r.t = first at *
  have HFI := hid hfi
  clear V hT hM hL hc hr N0 hbs hpr hov hbl
  go_enter Tryz.func11, Tryz.ntmps11
  go_wp2_with fail
  refine (CN.out _).mono ?_
  rintro e w1 ⟨rfl, rfl⟩
  go_wp2_with fail
  clear k0 k1 k2 k3 k4 d1 d2 hw1 hw2 hK hKD hI hJ hJD CN hN hfi
  go_loopg [5, 6] N (fun k v i wr => ∃ j : Nat, j + k = N ∧ i = .int .i64 j ∧ Hid (∀ i, i < j → sze (l.getD i dri).r first i = 0) ∧ Hid (wr.ownsRow (w.heap.size + 1) 5 1 v (bdy first 0 ((l.take j).map RI.r)).length (bc (bdy first 0 ((l.take j).map RI.r)))) ∧ Hid (Bx1 w #[.int .i64 base, .bool pk, .int .i64 prod, .int .i32 seq, .slice (some ⟨b, off, none⟩) N cap] 24 wr))
  case atStart => exact ⟨0, by omega, rfl, fun i hi => by omega, World.ownsRow_nil _ _ _ _, HN0⟩
  case round =>
    clear HN0
    obtain ⟨j, hk, rfl, HZ, HW, HB⟩ := hrel
    have hsm := bdy_small first l j (by have := HNN.out; omega) HZ.out
    obtain ⟨k0, k1, k2, k3, k4⟩ := cells5 HB.out.p
    by_cases hlt : j < N
    · obtain ⟨k, rfl⟩ : ∃ k, gk = k + 1 := ⟨gk - 1, by omega⟩
      have hlt' : j < l.length := by have := HNN.out; omega
      have HTK := hid (bdy_take first hlt')
      have hbl := HBL.out
      have hbw : b < wr.heap.size := Nat.lt_of_lt_of_le hbl HB.out.b.size
      have hbx : w.heap.size < wr.heap.size := lt_of_heap HB.out.p
      have hcw : ∀ o, wr.cell? ⟨b, o, none⟩ = w.cell? ⟨b, o, none⟩ := fun o => HB.out.b.cell (p := ⟨b, o, none⟩) hbl
      have q0 : wr.cell? ⟨b, off, none⟩ = some (.int .i64 first) := by
        have := (HC.out 0 (by omega)).1
        rw [HFI.out] at this
        exact (hcw off).trans (by simpa using this)
      obtain ⟨o0, o1, o2, o3, o4, o5⟩ := HC.out j hlt'
      have q10 := (hcw (off + j * 6)).trans o0
      have q11 := (hcw (off + j * 6 + 1)).trans o1
      have q12 := (hcw (off + j * 6 + 2)).trans o2
      have q13 := (hcw (off + j * 6 + 3)).trans o3
      have q14 := (hcw (off + j * 6 + 4)).trans o4
      have q15 := (hcw (off + j * 6 + 5)).trans o5
      have hH := (HVV.out.1 _ (riD_mem hlt')).below HB.out.b
      have c1 := fun x V => rbytes_any (l.getD j dri).r (l.getD j dri).a (l.getD j dri).cap first j x V (HT.out _ (riD_mem hlt')) HT0.out (HM.out _ (riD_mem hlt'))
      have i1 : (0 : Int) ≤ (j : Int) := by omega
      have i2 : (j : Int) < (N : Nat) := by omega
      have b1n : 0 < N := by omega
      clear hcw o0 o1 o2 o3 o4 o5 hbl
      by_cases hz : sze (l.getD j dri).r first j = 0
      · as_aux_lemma =>
          have hf4 := sze_ok hz
          rw [Int.toNat_natCast] at hf4
          have ebm : bym (l.getD j dri).r first j = bs (fm ((l.getD j dri).r.t - first) j (l.getD j dri).r) := by unfold bym; rw [if_pos hz, Int.toNat_natCast]
          have hfb : ∀ u ∈ fm ((l.getD j dri).r.t - first) j (l.getD j dri).r, u < 256 := by
            have hb := bdy_byte first [(l.getD j dri).r] j (by simp; have := HL.out; omega) (fun i x hx => by
              have hi0 : i = 0 := by
                rcases i with _ | i
                · rfl
                · simp at hx
              subst hi0
              simp at hx
              subst hx
              exact ⟨by simpa using hz, HM.out _ (by simpa using riD_mem hlt')⟩)
            have e : bdy first j [(l.getD j dri).r] = fm ((l.getD j dri).r.t - first) j (l.getD j dri).r := by simp [bdy]
            rw [e] at hb
            exact hb
          have HZ2 : Hid (∀ i, i < j + 1 → sze (l.getD i dri).r first i = 0) := fun i hi => by
            by_cases h : i < j
            · exact HZ.out i h
            · have : i = j := by omega
              subst this; exact hz
          simp only [ebm, hz] at c1
          have hbig : (bdy first 0 ((l.take j).map RI.r)).length + (fm ((l.getD j dri).r.t - first) j (l.getD j dri).r).length ≤ 2000000000000 := by have := HL.out; have := hf4.2.2.2; omega
          have HBIG := hid hbig
          have HFB := hid hfb
          generalize fm ((l.getD j dri).r.t - first) j (l.getD j dri).r = FM at *
          generalize bdy first 0 ((l.take j).map RI.r) = AL at *
          clear hz hf4 ebm hsm HZ hbig hfb
          generalize l.getD j dri = x at *
          obtain ⟨⟨t, kh, kd, vh, vd, hs⟩, xa, xc⟩ := x
          simp only [recV] at *
          have HS : Hid (∀ z, Below wr.heap.size wr z → (fun z => ((z.cell? ⟨w.heap.size, 4, none⟩ = some (.slice (some ⟨b, off, none⟩) N cap) ∧ z.cell? ⟨b, off, none⟩ = some (.int .i64 first) ∧ z.cell? ⟨b, off + j * 6, none⟩ = some (.int .i64 t) ∧ z.cell? ⟨b, off + j * 6 + 1, none⟩ = some (.bool kh) ∧ z.cell? ⟨b, off + j * 6 + 2, none⟩ = some (.string kd) ∧ z.cell? ⟨b, off + j * 6 + 3, none⟩ = some (.bool vh) ∧ z.cell? ⟨b, off + j * 6 + 4, none⟩ = some (.string vd) ∧ z.cell? ⟨b, off + j * 6 + 5, none⟩ = some (.slice xa hs.length xc)) ∧ Below wr.heap.size wr z)) z) := fun z hz => ⟨⟨(hz.cell (p := ⟨w.heap.size, 4, none⟩) hbx).trans k4, (hz.cell (p := ⟨b, off, none⟩) hbw).trans q0, (hz.cell (p := ⟨b, off + j * 6, none⟩) hbw).trans q10, (hz.cell (p := ⟨b, off + j * 6 + 1, none⟩) hbw).trans q11, (hz.cell (p := ⟨b, off + j * 6 + 2, none⟩) hbw).trans q12, (hz.cell (p := ⟨b, off + j * 6 + 3, none⟩) hbw).trans q13, (hz.cell (p := ⟨b, off + j * 6 + 4, none⟩) hbw).trans q14, (hz.cell (p := ⟨b, off + j * 6 + 5, none⟩) hbw).trans q15⟩, hz⟩
          have CB1 := hid (fun x (hx : Below wr.heap.size wr x) => (c1 x (hH.below hx)).mono (fun _ _ h => And.intro h.1 (bel_nx hx h.2)))
          have h0 : Below wr.heap.size wr wr := Below.refl _ _
          clear c1 hH q0 q10 q11 q12 q13 q14 q15 hbw hbx k0 k1 k2 k3 k4
          go_wp2_with fail
          go_region_held3 (fun z => ((z.cell? ⟨w.heap.size, 4, none⟩ = some (.slice (some ⟨b, off, none⟩) N cap) ∧ z.cell? ⟨b, off, none⟩ = some (.int .i64 first) ∧ z.cell? ⟨b, off + j * 6, none⟩ = some (.int .i64 t) ∧ z.cell? ⟨b, off + j * 6 + 1, none⟩ = some (.bool kh) ∧ z.cell? ⟨b, off + j * 6 + 2, none⟩ = some (.string kd) ∧ z.cell? ⟨b, off + j * 6 + 3, none⟩ = some (.bool vh) ∧ z.cell? ⟨b, off + j * 6 + 4, none⟩ = some (.string vd) ∧ z.cell? ⟨b, off + j * 6 + 5, none⟩ = some (.slice xa hs.length xc)) ∧ Below wr.heap.size wr z)) (first | with_reducible exact HS.out _ (by assumption) | with_reducible exact HS.out _ (Below.drew (by assumption))) (first | (go_at_call 29; refine (CB1.out _ ?_).mono ?_; (first | assumption | exact Below.drew (by assumption)); rintro e w' ⟨rfl, hbel⟩))
          all_goals
            rename_i hH9
            obtain ⟨i0, hi, hz0, hz1, hz2⟩ := info_parts Tryz.info5
            have HB9 := hid (HB.out.call hH9.2)
            have ho9 := own_apart HW.out (fun g hg => hH9.2.block g (World.ownsRow.lt HW.out g hg).2)
            have hs9 : w.heap.size + 1 ≤ w'.heap.size := lt_of_heap HB9.out.p
            clear hH9
            go_wp2_with (at_builtin; refine Lib.wpList_append_own_string _ rfl _ _ 63 9 rfl (w.heap.size + 1) 5 i0 Tryz.underBytes Tryz.under9 hi hz0 hz1 hz2 _ _ _ rfl ho9 (bs FM) rfl ?g1 ?g2 ?g3 ?_)
            try (case g1 => unfold maxLen; have := HBIG.out; rw [bs_size]; omega)
            try (case g2 => have := HBIG.out; rw [bs_size]; omega)
            try (case g3 => exact hs9)
            intro v' w4 hown hgrow _
            have HB4 := hid (HB9.out.grownR ho9 hgrow)
            have HW4 : Hid (w4.ownsRow (w.heap.size + 1) 5 1 v' (bdy first 0 ((l.take (j + 1)).map RI.r)).length (bc (bdy first 0 ((l.take (j + 1)).map RI.r)))) := by
              show World.ownsRow _ _ _ _ _ _ _
              rw [HTK.out, List.length_append, bc_app]
              rw [cells_bl, bl_bs _ HFB.out, bs_size] at hown
              exact hown
            clear hown hgrow ho9 hs9
            go_wp2_with fail
            go_roundg k
            case measure => omega
            case rel => have hCC := HL.out; have hNC := HNN.out; have ew : wrap64 ((j : Int) + 1) = ((j + 1 : Nat) : Int) := by { unfold wrap64; omega }; exact ⟨j + 1, by omega, congrArg (Value.int .i64) ew, HZ2, HW4, HB4⟩
      · as_aux_lemma =>
          have hne : (((sze (l.getD j dri).r first j : Nat) : Int) != 0) = true := by rw [bne_iff_ne]; omega
          have hneI : ¬ ((sze (l.getD j dri).r first j : Nat) : Int) = 0 := by omega
          have HE : Hid (EncP ⟨base, pk, prod, seq, l, some ⟨b, off, none⟩, cap⟩ (sze (l.getD j dri).r first j) ⟨#[]⟩) := Or.inl ⟨hz, StoP.body _ HR.out hz ⟨Or.inr ⟨HL.out, by rw [show (⟨base, pk, prod, seq, l, some ⟨b, off, none⟩, cap⟩ : Bt).l = l from rfl, HFI.out]; exact Or.inl ⟨j, hlt', HZ.out, hz, rfl⟩⟩, fun _ => rfl, fun h => absurd h hz⟩, rfl⟩
          generalize sze (l.getD j dri).r first j = E at *
          generalize bym (l.getD j dri).r first j = BM at *
          clear hz HTK hsm HZ
          generalize l.getD j dri = x at *
          obtain ⟨⟨t, kh, kd, vh, vd, hs⟩, xa, xc⟩ := x
          simp only [recV] at *
          have HS : Hid (∀ z, Below wr.heap.size wr z → (fun z => ((z.cell? ⟨w.heap.size, 4, none⟩ = some (.slice (some ⟨b, off, none⟩) N cap) ∧ z.cell? ⟨b, off, none⟩ = some (.int .i64 first) ∧ z.cell? ⟨b, off + j * 6, none⟩ = some (.int .i64 t) ∧ z.cell? ⟨b, off + j * 6 + 1, none⟩ = some (.bool kh) ∧ z.cell? ⟨b, off + j * 6 + 2, none⟩ = some (.string kd) ∧ z.cell? ⟨b, off + j * 6 + 3, none⟩ = some (.bool vh) ∧ z.cell? ⟨b, off + j * 6 + 4, none⟩ = some (.string vd) ∧ z.cell? ⟨b, off + j * 6 + 5, none⟩ = some (.slice xa hs.length xc)) ∧ Below wr.heap.size wr z)) z) := fun z hz => ⟨⟨(hz.cell (p := ⟨w.heap.size, 4, none⟩) hbx).trans k4, (hz.cell (p := ⟨b, off, none⟩) hbw).trans q0, (hz.cell (p := ⟨b, off + j * 6, none⟩) hbw).trans q10, (hz.cell (p := ⟨b, off + j * 6 + 1, none⟩) hbw).trans q11, (hz.cell (p := ⟨b, off + j * 6 + 2, none⟩) hbw).trans q12, (hz.cell (p := ⟨b, off + j * 6 + 3, none⟩) hbw).trans q13, (hz.cell (p := ⟨b, off + j * 6 + 4, none⟩) hbw).trans q14, (hz.cell (p := ⟨b, off + j * 6 + 5, none⟩) hbw).trans q15⟩, hz⟩
          have CB1 := hid (fun x (hx : Below wr.heap.size wr x) => (c1 x (hH.below hx)).mono (fun _ _ h => And.intro h.1 (bel_nx hx h.2)))
          have h0 : Below wr.heap.size wr wr := Below.refl _ _
          clear c1 hH q0 q10 q11 q12 q13 q14 q15 hbw hbx k0 k1 k2 k3 k4
          go_wp2_with fail
          go_region_held3 (fun z => ((z.cell? ⟨w.heap.size, 4, none⟩ = some (.slice (some ⟨b, off, none⟩) N cap) ∧ z.cell? ⟨b, off, none⟩ = some (.int .i64 first) ∧ z.cell? ⟨b, off + j * 6, none⟩ = some (.int .i64 t) ∧ z.cell? ⟨b, off + j * 6 + 1, none⟩ = some (.bool kh) ∧ z.cell? ⟨b, off + j * 6 + 2, none⟩ = some (.string kd) ∧ z.cell? ⟨b, off + j * 6 + 3, none⟩ = some (.bool vh) ∧ z.cell? ⟨b, off + j * 6 + 4, none⟩ = some (.string vd) ∧ z.cell? ⟨b, off + j * 6 + 5, none⟩ = some (.slice xa hs.length xc)) ∧ Below wr.heap.size wr z)) (first | with_reducible exact HS.out _ (by assumption) | with_reducible exact HS.out _ (Below.drew (by assumption))) (first | (go_at_call 29; refine (CB1.out _ ?_).mono ?_; (first | assumption | exact Below.drew (by assumption)); rintro e w' ⟨rfl, hbel⟩))
          all_goals
            rename_i hH9
            have HB9 := hid (HB.out.call hH9.2)
            clear hH9
            go_wp2_with fail
            go_ret2
            exact ⟨⟨E, _, rfl, HE.out⟩, HB9.out.b⟩
    · obtain rfl : N = j := by omega
      have hw := HW.out
      have htk : l.take N = l := by rw [← HNN.out]; exact List.take_length
      rw [htk] at hw hsm
      obtain ⟨va, vc, rfl⟩ := own_lenv hw
      have hab : ∀ u ∈ bdy first 0 (l.map RI.r), u < 256 := bdy_byte first (l.map RI.r) 0 (by have := HL.out; simp; omega) (fun i x hx => by
        obtain ⟨hi, e⟩ := List.getElem?_eq_some_iff.1 hx
        rw [List.length_map] at hi
        have ex : x = (l.getD i dri).r := by rw [← e, List.getElem_map, List.getD_eq_getElem?_getD, List.getElem?_eq_getElem hi]; rfl
        rw [ex, Nat.zero_add]
        exact ⟨HZ.out i (by have := HNN.out; omega), HM.out _ (riD_mem hi)⟩)
      have HCV := hid (fun z (hz : Below wr.heap.size wr z) => conv_own hab (own_apart hw (fun g hg => hz.block g (World.ownsRow.lt hw g hg).2)))
      have HBE : Hid (16777216 < (bdy first 0 (l.map RI.r)).length → BodyP l 66 ⟨#[]⟩) := fun h => ⟨Or.inr ⟨HL.out, by rw [HFI.out]; exact Or.inr ⟨fun i hi => HZ.out i (by have := HNN.out; omega), by rw [if_pos h]⟩⟩, fun _ => rfl, fun h => absurd h (by decide)⟩
      have HBO : Hid (¬ 16777216 < (bdy first 0 (l.map RI.r)).length → BodyP l 0 (bs (bdy first 0 (l.map RI.r)))) := fun h => ⟨Or.inr ⟨HL.out, by rw [HFI.out]; exact Or.inr ⟨fun i hi => HZ.out i (by have := HNN.out; omega), by rw [if_neg h]⟩⟩, fun h => absurd rfl h, fun _ => by rw [HFI.out]⟩
      clear htk hab hsm hw HZ HW
      generalize bdy first 0 (l.map RI.r) = AL at *
      by_cases hbig : 16777216 < AL.length
      · have HE : Hid (EncP ⟨base, pk, prod, seq, l, some ⟨b, off, none⟩, cap⟩ 66 ⟨#[]⟩) := Or.inl ⟨by decide, StoP.body 66 HR.out (by decide) (HBE.out hbig), rfl⟩
        have hd : decide ((16777216 : Int) < (AL.length : Int)) = true := decide_eq_true (by omega)
        have hdI : (16777216 : Int) < (AL.length : Int) := by omega
        clear hbig
        go_wp2_with fail
        go_ret2
        exact ⟨⟨66, _, rfl, HE.out⟩, HB.out.b⟩
      · have HBP0 := hid (HBO.out hbig)
        have hdA : decide ((16777216 : Int) < (AL.length : Int)) = false := decide_eq_false (by omega)
        have hdAI : ¬ (16777216 : Int) < (AL.length : Int) := by omega
        have HAL : Hid (AL.length ≤ 16777216) := by show _ ≤ _; omega
        have hcv := HCV.out wr (Below.refl _ _)
        clear HBE HBO hbig hlt
        cases pk with
        | false =>
          obtain ⟨S, hS⟩ : ∃ S, bs AL = S := ⟨_, rfl⟩
          have HBP : Hid (BodyP l 0 S) := by rw [← hS]; exact HBP0.out
          have HTS : Hid (sto ⟨base, false, prod, seq, l, some ⟨b, off, none⟩, cap⟩ S = S) := by show _ = _; unfold sto; exact if_neg (fun h => by cases h)
          have HBX := HB
          rw [hS] at hcv
          clear HBP0 HCV HB
          obtain ⟨T, hTS⟩ : ∃ T, S = T := ⟨_, rfl⟩
          have HTS : Hid (sto ⟨base, false, prod, seq, l, some ⟨b, off, none⟩, cap⟩ S = T) := by rw [← hTS]; exact HTS.out
          have HTU : Hid (T.size ≤ 9223372036854700000) := by show _ ≤ _; rw [← hTS, ← hS, bs_size]; have := HAL.out; omega
          rw [hTS] at hcv
          clear hTS hS
          by_cases h51 : 16777165 < T.size
          · have HE : Hid (EncP ⟨base, false, prod, seq, l, some ⟨b, off, none⟩, cap⟩ 66 ⟨#[]⟩) := Or.inl ⟨by decide, StoP.big S HR.out HBP.out (by rw [HTS.out]; exact h51), rfl⟩
            have hd : decide ((16777216 : Int) < 51 + (T.size : Int)) = true := decide_eq_true (by omega)
            have hdI : (16777216 : Int) < 51 + (T.size : Int) := by omega
            have hTU : (T.size : Int) ≤ 9223372036854700000 := by have := HTU.out; omega
            clear h51
            go_wp2_with fail
            go_ret2
            exact ⟨⟨66, _, rfl, HE.out⟩, HBX.out.b⟩
          · have HTZ : Hid (T.size ≤ 16777165) := by show _ ≤ _; omega
            have HST : Hid (StoP ⟨base, false, prod, seq, l, some ⟨b, off, none⟩, cap⟩ 0 T) := by
              have h := StoP.ok (b := ⟨base, false, prod, seq, l, some ⟨b, off, none⟩, cap⟩) S HR.out HBP.out (by rw [HTS.out]; omega)
              rw [HTS.out] at h
              exact h
            have hd : decide ((16777216 : Int) < 51 + (T.size : Int)) = false := decide_eq_false (by omega)
            have hdI : ¬ (16777216 : Int) < 51 + (T.size : Int) := by omega
            clear h51
            obtain ⟨F1, hF1⟩ : ∃ F1, Go.Proofs.YtihokphamgkkcaaGreat.u64 first = F1 := ⟨_, rfl⟩
            obtain ⟨G1, hG1⟩ : ∃ G1, Go.Proofs.YtihokphamgkkcaaGreat.u64 (grt l) = G1 := ⟨_, rfl⟩
            have hu1 : IntKind.u64.wrap first = (F1 : Int) := by rw [← hF1]; exact wrap_u64of _
            have hu2 : IntKind.u64.wrap (grt l) = (G1 : Int) := by rw [← hG1]; exact wrap_u64of _
            have HF1 := hid hF1
            have HG1 := hid hG1
            have hs1 : (bs (nb 8 F1)).size = 8 := by rw [bs_size]; exact nb_len _ _
            have hs2 : (bs (nb 8 G1)).size = 8 := by rw [bs_size]; exact nb_len _ _
            have c27 : ¬ 9223372036854775807 < (bs (nb 8 F1)).size + (bs (nb 8 G1)).size := by omega
            have hb0 : b < wr.heap.size := Nat.lt_of_lt_of_le HBL.out HBX.out.b.size
            have hx0 : w.heap.size < wr.heap.size := lt_of_heap HBX.out.p
            have q0 : wr.cell? ⟨b, off, none⟩ = some (.int .i64 first) := by
              have := (HC.out 0 (by have := HL.out; omega)).1
              rw [HFI.out] at this
              exact (HBX.out.b.cell (p := ⟨b, off, none⟩) HBL.out).trans (by simpa using this)
            have q4 := (cells5 HBX.out.p).2.2.2.2
            have HS7 : Hid (∀ z, Below wr.heap.size wr z → (fun z => (z.cell? ⟨w.heap.size, 4, none⟩ = some (.slice (some ⟨b, off, none⟩) N cap) ∧ z.cell? ⟨b, off, none⟩ = some (.int .i64 first)) ∧ Below wr.heap.size wr z) z) := fun z hz => ⟨⟨(hz.cell (p := ⟨w.heap.size, 4, none⟩) hx0).trans q4, (hz.cell (p := ⟨b, off, none⟩) hb0).trans q0⟩, hz⟩
            have B8 := hid (fun (v : Nat) x (hx : Below wr.heap.size wr x) => big8 v wr x hx)
            have GC : Hid (∀ x, Below wr.heap.size wr x → Calls Tryz.prog 32 #[.slice (some ⟨b, off, none⟩) N cap] x fun e w' => e = .returned (.int .i64 (grt l)) ∧ Below wr.heap.size wr w') := fun x hx => by
              have h := HG.out x ((HVV.out.below HBX.out.b).below hx)
              rw [HNN.out] at h
              exact h.mono fun _ _ h => ⟨h.1, bel_nx hx h.2⟩
            have HGL : Hid (grt l = grt l) := rfl
            generalize hGG : grt l = GG at GC hu2
            have HGG := hid hGG
            have h9 : Below wr.heap.size wr wr := Below.refl _ _
            have b1n : 0 < N := by omega
            clear hF1 hG1 hb0 hx0 q0 q4 hGG HGL hs1 hs2
            go_wp2_with fail
            clear hd hdI
            go_region_held3 (fun z => (z.cell? ⟨w.heap.size, 4, none⟩ = some (.slice (some ⟨b, off, none⟩) N cap) ∧ z.cell? ⟨b, off, none⟩ = some (.int .i64 first)) ∧ Below wr.heap.size wr z) (first | with_reducible exact HS7.out _ (by assumption) | with_reducible exact HS7.out _ (Below.drew (by assumption))) (first | (go_at_call 30; (with_reducible refine (B8.out _ _ ?_).mono ?_); (first | assumption | exact Below.drew (by assumption)); rintro e w' ⟨rfl, hbel⟩) | (go_at_call 32; (with_reducible refine (GC.out _ ?_).mono ?_); (first | assumption | exact Below.drew (by assumption)); rintro e w' ⟨rfl, hbel⟩))
            all_goals
              rename_i hH7
              have HBY := hid (HBX.out.call hH7.2)
              clear hH7 HS7 B8 GC hu1 hu2 c27 h9 HBX
              obtain ⟨x5, hx5⟩ : ∃ x, x = w' := ⟨_, rfl⟩
              subst hx5
              generalize hTM : bs (nb 8 F1) ++ bs (nb 8 G1) = TM
              have HTM := hid hTM
              have hm16 : TM.size = 16 := by rw [← hTM, ByteArray.size_append, bs_size, bs_size, nb_len, nb_len]
              clear hTM
              obtain ⟨P1, hP1⟩ : ∃ P1, Go.Proofs.YtihokphamgkkcaaGreat.u64 prod = P1 := ⟨_, rfl⟩
              obtain ⟨Q1, hQ1⟩ : ∃ Q1, Go.Proofs.YtihokphamgkkcaaGreat.u32 seq = Q1 := ⟨_, rfl⟩
              have hQl : Q1 < 4294967296 := by rw [← hQ1]; unfold Go.Proofs.YtihokphamgkkcaaGreat.u32; omega
              have hv1 : IntKind.u64.wrap prod = (P1 : Int) := by rw [← hP1]; exact wrap_u64of _
              have hv2 : IntKind.u32.wrap seq = (Q1 : Int) := by rw [← hQ1]; exact wrap_u32of _
              have hv3 : IntKind.u64.wrap (Q1 : Int) = (Q1 : Int) := by rw [IntKind.wrap_u64]; omega
              have hv4 : IntKind.u64.wrap (N : Int) = (N : Int) := by rw [IntKind.wrap_u64]; have := HL.out; have := HNN.out; omega
              have HP1 := hid hP1
              have HQ1 := hid hQ1
              have hz1 : (bs (nb 2 0)).size = 2 := by rw [bs_size]; exact nb_len _ _
              have hz2 : (bs (nb 4 N)).size = 4 := by rw [bs_size]; exact nb_len _ _
              have hz3 : (bs (nb 8 P1)).size = 8 := by rw [bs_size]; exact nb_len _ _
              have hz4 : (bs (nb 4 Q1)).size = 4 := by rw [bs_size]; exact nb_len _ _
              have HUZ : Hid ((((((bs (nb 2 0) ++ bs (nb 4 N)) ++ TM) ++ bs (nb 8 P1)) ++ bs (nb 4 Q1)) ++ T).size = 34 + T.size) := by show _ = _; simp only [ByteArray.size_append]; omega
              have e1 : ¬ 9223372036854775807 < (bs (nb 2 0)).size + (bs (nb 4 N)).size := by omega
              have e2 : ¬ 9223372036854775807 < (bs (nb 2 0) ++ bs (nb 4 N)).size + TM.size := by rw [ByteArray.size_append]; omega
              have e3 : ¬ 9223372036854775807 < (bs (nb 2 0) ++ bs (nb 4 N) ++ TM).size + (bs (nb 8 P1)).size := by rw [ByteArray.size_append, ByteArray.size_append]; omega
              have e4 : ¬ 9223372036854775807 < (bs (nb 2 0) ++ bs (nb 4 N) ++ TM ++ bs (nb 8 P1)).size + (bs (nb 4 Q1)).size := by rw [ByteArray.size_append, ByteArray.size_append, ByteArray.size_append]; omega
              have e5 : ¬ 9223372036854775807 < (bs (nb 2 0) ++ bs (nb 4 N) ++ TM ++ bs (nb 8 P1) ++ bs (nb 4 Q1)).size + T.size := by have := HTZ.out; rw [ByteArray.size_append, ByteArray.size_append, ByteArray.size_append, ByteArray.size_append]; omega
              have e2' : ¬ 9223372036854775807 < (bs (nb 2 0)).size + (bs (nb 4 N)).size + TM.size := by omega
              have e3' : ¬ 9223372036854775807 < (bs (nb 2 0)).size + (bs (nb 4 N)).size + TM.size + (bs (nb 8 P1)).size := by omega
              have e4' : ¬ 9223372036854775807 < (bs (nb 2 0)).size + (bs (nb 4 N)).size + TM.size + (bs (nb 8 P1)).size + (bs (nb 4 Q1)).size := by omega
              have e5' : ¬ 9223372036854775807 < (bs (nb 2 0)).size + (bs (nb 4 N)).size + TM.size + (bs (nb 8 P1)).size + (bs (nb 4 Q1)).size + T.size := by have := HTZ.out; omega
              obtain ⟨f0, f1, f2, f3, f4⟩ := cells5 HBY.out.p
              have hx5 : w.heap.size < x5.heap.size := lt_of_heap HBY.out.p
              have HS8 : Hid (∀ z, Below x5.heap.size x5 z → (fun z => (z.cell? ⟨w.heap.size, 2, none⟩ = some (.int .i64 prod) ∧ z.cell? ⟨w.heap.size, 3, none⟩ = some (.int .i32 seq)) ∧ Below x5.heap.size x5 z) z) := fun z hz => ⟨⟨(hz.cell (p := ⟨w.heap.size, 2, none⟩) hx5).trans f2, (hz.cell (p := ⟨w.heap.size, 3, none⟩) hx5).trans f3⟩, hz⟩
              have B2 : Hid (∀ x, Below x5.heap.size x5 x → Calls Tryz.prog 30 #[.int .u64 0, .int .i64 2] x fun e w' => e = .returned (.string (bs (nb 2 0))) ∧ Below x5.heap.size x5 w') := fun x hx => big2 0 x5 x hx
              have B4 := hid (fun (v : Nat) x (hx : Below x5.heap.size x5 x) => big4 v x5 x hx)
              have B8 := hid (fun (v : Nat) x (hx : Below x5.heap.size x5 x) => big8 v x5 x hx)
              have h9 : Below x5.heap.size x5 x5 := Below.refl _ _
              clear hP1 hQ1 hQl hx5 f0 f1 f2 f3 f4 hm16 hz1 hz2 hz3 hz4
              go_wp2_with fail
              go_region_held3 (fun z => (z.cell? ⟨w.heap.size, 2, none⟩ = some (.int .i64 prod) ∧ z.cell? ⟨w.heap.size, 3, none⟩ = some (.int .i32 seq)) ∧ Below x5.heap.size x5 z) (first | with_reducible exact HS8.out _ (by assumption) | with_reducible exact HS8.out _ (Below.drew (by assumption))) (first | (go_at_call 30; (with_reducible refine (B2.out _ ?_).mono ?_); (first | assumption | exact Below.drew (by assumption)); rintro e w' ⟨rfl, hbel⟩) | (go_at_call 30; (with_reducible refine (B4.out _ _ ?_).mono ?_); (first | assumption | exact Below.drew (by assumption)); rintro e w' ⟨rfl, hbel⟩) | (go_at_call 30; (with_reducible refine (B8.out _ _ ?_).mono ?_); (first | assumption | exact Below.drew (by assumption)); rintro e w' ⟨rfl, hbel⟩))
              all_goals
                rename_i hH8
                have HBZ := hid (HBY.out.call hH8.2)
                clear hH8 HS8 B2 B4 B8 hv1 hv2 hv3 hv4 e1 e2 e3 e4 e5 e2' e3' e4' e5' h9 HBY
                obtain ⟨x6, hx6⟩ : ∃ x, x = w' := ⟨_, rfl⟩
                subst hx6
                generalize hUN : bs (nb 2 0) ++ bs (nb 4 N) ++ TM ++ bs (nb 8 P1) ++ bs (nb 4 Q1) ++ T = UN at *
                have HUN := hid hUN
                clear hUN
                obtain ⟨LN, hLN⟩ : ∃ LN, UN.size = LN := ⟨_, rfl⟩
                have hl34 : LN = 34 + T.size := by rw [← hLN]; exact HUZ.out
                have hLle : LN ≤ 16777216 := by have := HTZ.out; omega
                obtain ⟨K5, hK5⟩ : ∃ K5 : Nat, K5 = 39 + T.size := ⟨_, rfl⟩
                have hKI : (5 : Int) + (LN : Int) = (K5 : Int) := by omega
                have hk2 : (K5 : Int) ≤ 16777300 := by omega
                have HK5 := hid hK5
                have hk1 : IntKind.u64.wrap (K5 : Int) = (K5 : Int) := by rw [IntKind.wrap_u64]; omega
                have hk5 : IntKind.i64.wrap (K5 : Int) = (K5 : Int) := wrap_in (by omega) (by omega)
                obtain ⟨A1, hA1⟩ : ∃ A1, Go.Proofs.YtihokphamgkkcaaGreat.u64 base = A1 := ⟨_, rfl⟩
                have hk3 : IntKind.u64.wrap base = (A1 : Int) := by rw [← hA1]; exact wrap_u64of _
                have HA1 := hid hA1
                have cu := fun x => K.rsum_any UN x (by omega)
                obtain ⟨SM, hSM⟩ : ∃ SM, K.M.more 0 UN.data.toList = SM := ⟨_, rfl⟩
                have hSl : SM < 4294967296 := by rw [← hSM]; exact K.M.more_lt _ (by decide)
                rw [hSM] at cu
                have HSM := hid hSM
                have CU := hid cu
                have hk4 : IntKind.u64.wrap (SM : Int) = (SM : Int) := by rw [IntKind.wrap_u64]; omega
                have B8 := hid (fun (v : Nat) x => big_any v 8 x (by omega))
                have B4 := hid (fun (v : Nat) x => big_any v 4 x (by omega))
                have hz1 : (bs (nb 8 A1)).size = 8 := by rw [bs_size]; exact nb_len _ _
                have hz2 : (bs (nb 4 K5)).size = 4 := by rw [bs_size]; exact nb_len _ _
                have hz3 : (bs (nb 4 SM)).size = 4 := by rw [bs_size]; exact nb_len _ _
                have hz4 : ¬ 9223372036854775807 < 17 + LN := by omega
                have HEQ : Hid (bs (nb 8 A1) ++ bs (nb 4 K5) ++ ⟨#[71]⟩ ++ bs (nb 4 SM) ++ UN = frm (fsB ⟨base, false, prod, seq, l, some ⟨b, off, none⟩, cap⟩ T.size) T) := frm_doc (fsB ⟨base, false, prod, seq, l, some ⟨b, off, none⟩, cap⟩ T.size) T UN 0 N F1 G1 P1 Q1 A1 K5 SM rfl HNN.out (by rw [← HF1.out, ← HFI.out]; rfl) HG1.out HP1.out HQ1.out HA1.out HK5.out.symm rfl (by rw [HTM.out]; exact HUN.out) HSM.out
                obtain ⟨f0, f1, f2, f3, f4⟩ := cells5 HBZ.out.p
                have hLI : (LN : Int) ≤ 16777216 := by omega
                clear hA1 hSM hSl cu hK5 hl34
                go_wp2_with fail
                refine (B8.out _ _).mono ?_
                rintro e y1 ⟨rfl, hb1⟩
                have HY1 := hid (HBZ.out.call hb1)
                clear hb1 HBZ f0 f1 f2 f3 f4
                go_wp2_with fail
                refine (B4.out _ _).mono ?_
                rintro e y2 ⟨rfl, hb2⟩
                have HY2 := hid (HY1.out.call hb2)
                clear hb2 HY1
                go_wp2_with fail
                refine (CU.out _).mono ?_
                rintro e y3 ⟨rfl, rfl⟩
                go_wp2_with fail
                refine (B4.out _ _).mono ?_
                rintro e y4 ⟨rfl, hb4⟩
                have HY4 := hid (HY2.out.call hb4)
                clear hb4 HY2
                go_wp2_with fail
                go_ret2
                exact ⟨⟨0, _, rfl, Or.inr ⟨rfl, T, HST.out, HEQ.out⟩⟩, HY4.out.b⟩
        | true =>
          obtain ⟨S, hS⟩ : ∃ S, bs AL = S := ⟨_, rfl⟩
          have HBP : Hid (BodyP l 0 S) := by rw [← hS]; exact HBP0.out
          have hsz : S.size = AL.length := by rw [← hS, bs_size]
          rw [hS] at hcv
          have HCV2 : Hid (∀ z, Below wr.heap.size wr z → (fun z => ((convert 63 9 (.slice va AL.length vc)).run Tryz.prog z = .ok (.string S) z) ∧ Below wr.heap.size wr z) z) := fun z hz => ⟨by have h := HCV.out z hz; rw [hS] at h; exact h, hz⟩
          obtain ⟨PD, hPD⟩ : ∃ PD, Lz.ba (Lz.M.pack S.data.toList) = PD := ⟨_, rfl⟩
          have PC : Hid (∀ x, Below wr.heap.size wr x → Calls Tryz.prog 31 #[.string S] x fun e w' => e = .returned (.string PD) ∧ Below wr.heap.size wr w') := fun x hx => (Lz.rpack_any S x (by rw [hsz]; have := HAL.out; omega)).mono fun _ _ h => ⟨by rw [← hPD]; exact h.1, bel_nx hx h.2⟩
          obtain ⟨T, hTT⟩ : ∃ T, bs (nb 4 AL.length) ++ PD = T := ⟨_, rfl⟩
          have HTS : Hid (sto ⟨base, true, prod, seq, l, some ⟨b, off, none⟩, cap⟩ S = T) := by show _ = _; unfold sto; rw [if_pos rfl]; unfold pck; rw [hsz, hPD]; exact hTT
          have hPs : PD.size ≤ 9223372036854000000 := by
            rw [← hPD, Lz.ba_size]
            have := Lz.M.pack_size S.data.toList
            have e : S.data.toList.length = S.size := by simp
            have := HAL.out
            omega
          have HTU : Hid (T.size ≤ 9223372036854700000) := by show _ ≤ _; rw [← hTT, ByteArray.size_append, bs_size, nb_len]; omega
          have hq1 : IntKind.u64.wrap (AL.length : Int) = (AL.length : Int) := by rw [IntKind.wrap_u64]; have := HAL.out; omega
          have hq2 : (bs (nb 4 AL.length)).size = 4 := by rw [bs_size]; exact nb_len _ _
          have hq3 : ¬ 9223372036854775807 < (bs (nb 4 AL.length)).size + PD.size := by omega
          have B4 := hid (fun (v : Nat) x (hx : Below wr.heap.size wr x) => big4 v wr x hx)
          have h9 : Below wr.heap.size wr wr := Below.refl _ _
          clear HBP0 HCV hS hPD hsz hPs hq2
          go_wp2_with fail
          clear hcv hdA hdAI k0 k1 k2 k3 k4
          go_region_held3 (fun z => ((convert 63 9 (.slice va AL.length vc)).run Tryz.prog z = .ok (.string S) z) ∧ Below wr.heap.size wr z) (first | with_reducible exact HCV2.out _ (by assumption) | with_reducible exact HCV2.out _ (Below.drew (by assumption))) (first | (go_at_call 30; (with_reducible refine (B4.out _ _ ?_).mono ?_); (first | assumption | exact Below.drew (by assumption)); rintro e w' ⟨rfl, hbel⟩) | (go_at_call 31; (with_reducible refine (PC.out _ ?_).mono ?_); (first | assumption | exact Below.drew (by assumption)); rintro e w' ⟨rfl, hbel⟩))
          all_goals
            rename_i hH6
            have HBX := hid (HB.out.call hH6.2)
            obtain ⟨x7, hx7⟩ : ∃ x, x = w' := ⟨_, rfl⟩
            subst hx7
            clear hH6 HCV2 PC hq1 hq3 B4 h9 hTT HB
            by_cases h51 : 16777165 < T.size
            · have HE : Hid (EncP ⟨base, true, prod, seq, l, some ⟨b, off, none⟩, cap⟩ 66 ⟨#[]⟩) := Or.inl ⟨by decide, StoP.big S HR.out HBP.out (by rw [HTS.out]; exact h51), rfl⟩
              have hd : decide ((16777216 : Int) < 51 + (T.size : Int)) = true := decide_eq_true (by omega)
              have hdI : (16777216 : Int) < 51 + (T.size : Int) := by omega
              have hTU : (T.size : Int) ≤ 9223372036854700000 := by have := HTU.out; omega
              clear h51
              go_wp2_with fail
              go_ret2
              exact ⟨⟨66, _, rfl, HE.out⟩, HBX.out.b⟩
            · have HTZ : Hid (T.size ≤ 16777165) := by show _ ≤ _; omega
              have HST : Hid (StoP ⟨base, true, prod, seq, l, some ⟨b, off, none⟩, cap⟩ 0 T) := by
                have h := StoP.ok (b := ⟨base, true, prod, seq, l, some ⟨b, off, none⟩, cap⟩) S HR.out HBP.out (by rw [HTS.out]; omega)
                rw [HTS.out] at h
                exact h
              have hd : decide ((16777216 : Int) < 51 + (T.size : Int)) = false := decide_eq_false (by omega)
              have hdI : ¬ (16777216 : Int) < 51 + (T.size : Int) := by omega
              clear h51
              obtain ⟨F1, hF1⟩ : ∃ F1, Go.Proofs.YtihokphamgkkcaaGreat.u64 first = F1 := ⟨_, rfl⟩
              obtain ⟨G1, hG1⟩ : ∃ G1, Go.Proofs.YtihokphamgkkcaaGreat.u64 (grt l) = G1 := ⟨_, rfl⟩
              have hu1 : IntKind.u64.wrap first = (F1 : Int) := by rw [← hF1]; exact wrap_u64of _
              have hu2 : IntKind.u64.wrap (grt l) = (G1 : Int) := by rw [← hG1]; exact wrap_u64of _
              have HF1 := hid hF1
              have HG1 := hid hG1
              have hs1 : (bs (nb 8 F1)).size = 8 := by rw [bs_size]; exact nb_len _ _
              have hs2 : (bs (nb 8 G1)).size = 8 := by rw [bs_size]; exact nb_len _ _
              have c27 : ¬ 9223372036854775807 < (bs (nb 8 F1)).size + (bs (nb 8 G1)).size := by omega
              have hb0 : b < x7.heap.size := Nat.lt_of_lt_of_le HBL.out HBX.out.b.size
              have hx0 : w.heap.size < x7.heap.size := lt_of_heap HBX.out.p
              have q0 : x7.cell? ⟨b, off, none⟩ = some (.int .i64 first) := by
                have := (HC.out 0 (by have := HL.out; omega)).1
                rw [HFI.out] at this
                exact (HBX.out.b.cell (p := ⟨b, off, none⟩) HBL.out).trans (by simpa using this)
              have q4 := (cells5 HBX.out.p).2.2.2.2
              have HS7 : Hid (∀ z, Below x7.heap.size x7 z → (fun z => (z.cell? ⟨w.heap.size, 4, none⟩ = some (.slice (some ⟨b, off, none⟩) N cap) ∧ z.cell? ⟨b, off, none⟩ = some (.int .i64 first)) ∧ Below x7.heap.size x7 z) z) := fun z hz => ⟨⟨(hz.cell (p := ⟨w.heap.size, 4, none⟩) hx0).trans q4, (hz.cell (p := ⟨b, off, none⟩) hb0).trans q0⟩, hz⟩
              have B8 := hid (fun (v : Nat) x (hx : Below x7.heap.size x7 x) => big8 v x7 x hx)
              have GC : Hid (∀ x, Below x7.heap.size x7 x → Calls Tryz.prog 32 #[.slice (some ⟨b, off, none⟩) N cap] x fun e w' => e = .returned (.int .i64 (grt l)) ∧ Below x7.heap.size x7 w') := fun x hx => by
                have h := HG.out x ((HVV.out.below HBX.out.b).below hx)
                rw [HNN.out] at h
                exact h.mono fun _ _ h => ⟨h.1, bel_nx hx h.2⟩
              have HGL : Hid (grt l = grt l) := rfl
              generalize hGG : grt l = GG at GC hu2
              have HGG := hid hGG
              have h9 : Below x7.heap.size x7 x7 := Below.refl _ _
              have b1n : 0 < N := by omega
              clear hF1 hG1 hb0 hx0 q0 q4 hGG HGL hs1 hs2
              go_wp2_with fail
              clear hd hdI
              go_region_held3 (fun z => (z.cell? ⟨w.heap.size, 4, none⟩ = some (.slice (some ⟨b, off, none⟩) N cap) ∧ z.cell? ⟨b, off, none⟩ = some (.int .i64 first)) ∧ Below x7.heap.size x7 z) (first | with_reducible exact HS7.out _ (by assumption) | with_reducible exact HS7.out _ (Below.drew (by assumption))) (first | (go_at_call 30; (with_reducible refine (B8.out _ _ ?_).mono ?_); (first | assumption | exact Below.drew (by assumption)); rintro e w' ⟨rfl, hbel⟩) | (go_at_call 32; (with_reducible refine (GC.out _ ?_).mono ?_); (first | assumption | exact Below.drew (by assumption)); rintro e w' ⟨rfl, hbel⟩))
              all_goals
                rename_i hH7
                have HBY := hid (HBX.out.call hH7.2)
                clear hH7 HS7 B8 GC hu1 hu2 c27 h9 HBX
                obtain ⟨x5, hx5⟩ : ∃ x, x = w' := ⟨_, rfl⟩
                subst hx5
                generalize hTM : bs (nb 8 F1) ++ bs (nb 8 G1) = TM
                have HTM := hid hTM
                have hm16 : TM.size = 16 := by rw [← hTM, ByteArray.size_append, bs_size, bs_size, nb_len, nb_len]
                clear hTM
                obtain ⟨P1, hP1⟩ : ∃ P1, Go.Proofs.YtihokphamgkkcaaGreat.u64 prod = P1 := ⟨_, rfl⟩
                obtain ⟨Q1, hQ1⟩ : ∃ Q1, Go.Proofs.YtihokphamgkkcaaGreat.u32 seq = Q1 := ⟨_, rfl⟩
                have hQl : Q1 < 4294967296 := by rw [← hQ1]; unfold Go.Proofs.YtihokphamgkkcaaGreat.u32; omega
                have hv1 : IntKind.u64.wrap prod = (P1 : Int) := by rw [← hP1]; exact wrap_u64of _
                have hv2 : IntKind.u32.wrap seq = (Q1 : Int) := by rw [← hQ1]; exact wrap_u32of _
                have hv3 : IntKind.u64.wrap (Q1 : Int) = (Q1 : Int) := by rw [IntKind.wrap_u64]; omega
                have hv4 : IntKind.u64.wrap (N : Int) = (N : Int) := by rw [IntKind.wrap_u64]; have := HL.out; have := HNN.out; omega
                have HP1 := hid hP1
                have HQ1 := hid hQ1
                have hz1 : (bs (nb 2 1)).size = 2 := by rw [bs_size]; exact nb_len _ _
                have hz2 : (bs (nb 4 N)).size = 4 := by rw [bs_size]; exact nb_len _ _
                have hz3 : (bs (nb 8 P1)).size = 8 := by rw [bs_size]; exact nb_len _ _
                have hz4 : (bs (nb 4 Q1)).size = 4 := by rw [bs_size]; exact nb_len _ _
                have HUZ : Hid ((((((bs (nb 2 1) ++ bs (nb 4 N)) ++ TM) ++ bs (nb 8 P1)) ++ bs (nb 4 Q1)) ++ T).size = 34 + T.size) := by show _ = _; simp only [ByteArray.size_append]; omega
                have e1 : ¬ 9223372036854775807 < (bs (nb 2 1)).size + (bs (nb 4 N)).size := by omega
                have e2 : ¬ 9223372036854775807 < (bs (nb 2 1) ++ bs (nb 4 N)).size + TM.size := by rw [ByteArray.size_append]; omega
                have e3 : ¬ 9223372036854775807 < (bs (nb 2 1) ++ bs (nb 4 N) ++ TM).size + (bs (nb 8 P1)).size := by rw [ByteArray.size_append, ByteArray.size_append]; omega
                have e4 : ¬ 9223372036854775807 < (bs (nb 2 1) ++ bs (nb 4 N) ++ TM ++ bs (nb 8 P1)).size + (bs (nb 4 Q1)).size := by rw [ByteArray.size_append, ByteArray.size_append, ByteArray.size_append]; omega
                have e5 : ¬ 9223372036854775807 < (bs (nb 2 1) ++ bs (nb 4 N) ++ TM ++ bs (nb 8 P1) ++ bs (nb 4 Q1)).size + T.size := by have := HTZ.out; rw [ByteArray.size_append, ByteArray.size_append, ByteArray.size_append, ByteArray.size_append]; omega
                have e2' : ¬ 9223372036854775807 < (bs (nb 2 1)).size + (bs (nb 4 N)).size + TM.size := by omega
                have e3' : ¬ 9223372036854775807 < (bs (nb 2 1)).size + (bs (nb 4 N)).size + TM.size + (bs (nb 8 P1)).size := by omega
                have e4' : ¬ 9223372036854775807 < (bs (nb 2 1)).size + (bs (nb 4 N)).size + TM.size + (bs (nb 8 P1)).size + (bs (nb 4 Q1)).size := by omega
                have e5' : ¬ 9223372036854775807 < (bs (nb 2 1)).size + (bs (nb 4 N)).size + TM.size + (bs (nb 8 P1)).size + (bs (nb 4 Q1)).size + T.size := by have := HTZ.out; omega
                obtain ⟨f0, f1, f2, f3, f4⟩ := cells5 HBY.out.p
                have hx5 : w.heap.size < x5.heap.size := lt_of_heap HBY.out.p
                have HS8 : Hid (∀ z, Below x5.heap.size x5 z → (fun z => (z.cell? ⟨w.heap.size, 2, none⟩ = some (.int .i64 prod) ∧ z.cell? ⟨w.heap.size, 3, none⟩ = some (.int .i32 seq)) ∧ Below x5.heap.size x5 z) z) := fun z hz => ⟨⟨(hz.cell (p := ⟨w.heap.size, 2, none⟩) hx5).trans f2, (hz.cell (p := ⟨w.heap.size, 3, none⟩) hx5).trans f3⟩, hz⟩
                have B2 : Hid (∀ x, Below x5.heap.size x5 x → Calls Tryz.prog 30 #[.int .u64 1, .int .i64 2] x fun e w' => e = .returned (.string (bs (nb 2 1))) ∧ Below x5.heap.size x5 w') := fun x hx => big2 1 x5 x hx
                have B4 := hid (fun (v : Nat) x (hx : Below x5.heap.size x5 x) => big4 v x5 x hx)
                have B8 := hid (fun (v : Nat) x (hx : Below x5.heap.size x5 x) => big8 v x5 x hx)
                have h9 : Below x5.heap.size x5 x5 := Below.refl _ _
                clear hP1 hQ1 hQl hx5 f0 f1 f2 f3 f4 hm16 hz1 hz2 hz3 hz4
                go_wp2_with fail
                go_region_held3 (fun z => (z.cell? ⟨w.heap.size, 2, none⟩ = some (.int .i64 prod) ∧ z.cell? ⟨w.heap.size, 3, none⟩ = some (.int .i32 seq)) ∧ Below x5.heap.size x5 z) (first | with_reducible exact HS8.out _ (by assumption) | with_reducible exact HS8.out _ (Below.drew (by assumption))) (first | (go_at_call 30; (with_reducible refine (B2.out _ ?_).mono ?_); (first | assumption | exact Below.drew (by assumption)); rintro e w' ⟨rfl, hbel⟩) | (go_at_call 30; (with_reducible refine (B4.out _ _ ?_).mono ?_); (first | assumption | exact Below.drew (by assumption)); rintro e w' ⟨rfl, hbel⟩) | (go_at_call 30; (with_reducible refine (B8.out _ _ ?_).mono ?_); (first | assumption | exact Below.drew (by assumption)); rintro e w' ⟨rfl, hbel⟩))
                all_goals
                  rename_i hH8
                  have HBZ := hid (HBY.out.call hH8.2)
                  clear hH8 HS8 B2 B4 B8 hv1 hv2 hv3 hv4 e1 e2 e3 e4 e5 e2' e3' e4' e5' h9 HBY
                  obtain ⟨x6, hx6⟩ : ∃ x, x = w' := ⟨_, rfl⟩
                  subst hx6
                  generalize hUN : bs (nb 2 1) ++ bs (nb 4 N) ++ TM ++ bs (nb 8 P1) ++ bs (nb 4 Q1) ++ T = UN at *
                  have HUN := hid hUN
                  clear hUN
                  obtain ⟨LN, hLN⟩ : ∃ LN, UN.size = LN := ⟨_, rfl⟩
                  have hl34 : LN = 34 + T.size := by rw [← hLN]; exact HUZ.out
                  have hLle : LN ≤ 16777216 := by have := HTZ.out; omega
                  obtain ⟨K5, hK5⟩ : ∃ K5 : Nat, K5 = 39 + T.size := ⟨_, rfl⟩
                  have hKI : (5 : Int) + (LN : Int) = (K5 : Int) := by omega
                  have hk2 : (K5 : Int) ≤ 16777300 := by omega
                  have HK5 := hid hK5
                  have hk1 : IntKind.u64.wrap (K5 : Int) = (K5 : Int) := by rw [IntKind.wrap_u64]; omega
                  have hk5 : IntKind.i64.wrap (K5 : Int) = (K5 : Int) := wrap_in (by omega) (by omega)
                  obtain ⟨A1, hA1⟩ : ∃ A1, Go.Proofs.YtihokphamgkkcaaGreat.u64 base = A1 := ⟨_, rfl⟩
                  have hk3 : IntKind.u64.wrap base = (A1 : Int) := by rw [← hA1]; exact wrap_u64of _
                  have HA1 := hid hA1
                  have cu := fun x => K.rsum_any UN x (by omega)
                  obtain ⟨SM, hSM⟩ : ∃ SM, K.M.more 0 UN.data.toList = SM := ⟨_, rfl⟩
                  have hSl : SM < 4294967296 := by rw [← hSM]; exact K.M.more_lt _ (by decide)
                  rw [hSM] at cu
                  have HSM := hid hSM
                  have CU := hid cu
                  have hk4 : IntKind.u64.wrap (SM : Int) = (SM : Int) := by rw [IntKind.wrap_u64]; omega
                  have B8 := hid (fun (v : Nat) x => big_any v 8 x (by omega))
                  have B4 := hid (fun (v : Nat) x => big_any v 4 x (by omega))
                  have hz1 : (bs (nb 8 A1)).size = 8 := by rw [bs_size]; exact nb_len _ _
                  have hz2 : (bs (nb 4 K5)).size = 4 := by rw [bs_size]; exact nb_len _ _
                  have hz3 : (bs (nb 4 SM)).size = 4 := by rw [bs_size]; exact nb_len _ _
                  have hz4 : ¬ 9223372036854775807 < 17 + LN := by omega
                  have HEQ : Hid (bs (nb 8 A1) ++ bs (nb 4 K5) ++ ⟨#[71]⟩ ++ bs (nb 4 SM) ++ UN = frm (fsB ⟨base, true, prod, seq, l, some ⟨b, off, none⟩, cap⟩ T.size) T) := frm_doc (fsB ⟨base, true, prod, seq, l, some ⟨b, off, none⟩, cap⟩ T.size) T UN 1 N F1 G1 P1 Q1 A1 K5 SM rfl HNN.out (by rw [← HF1.out, ← HFI.out]; rfl) HG1.out HP1.out HQ1.out HA1.out HK5.out.symm rfl (by rw [HTM.out]; exact HUN.out) HSM.out
                  obtain ⟨f0, f1, f2, f3, f4⟩ := cells5 HBZ.out.p
                  have hLI : (LN : Int) ≤ 16777216 := by omega
                  clear hA1 hSM hSl cu hK5 hl34
                  go_wp2_with fail
                  refine (B8.out _ _).mono ?_
                  rintro e y1 ⟨rfl, hb1⟩
                  have HY1 := hid (HBZ.out.call hb1)
                  clear hb1 HBZ f0 f1 f2 f3 f4
                  go_wp2_with fail
                  refine (B4.out _ _).mono ?_
                  rintro e y2 ⟨rfl, hb2⟩
                  have HY2 := hid (HY1.out.call hb2)
                  clear hb2 HY1
                  go_wp2_with fail
                  refine (CU.out _).mono ?_
                  rintro e y3 ⟨rfl, rfl⟩
                  go_wp2_with fail
                  refine (B4.out _ _).mono ?_
                  rintro e y4 ⟨rfl, hb4⟩
                  have HY4 := hid (HY2.out.call hb4)
                  clear hb4 HY2
                  go_wp2_with fail
                  go_ret2
                  exact ⟨⟨0, _, rfl, Or.inr ⟨rfl, T, HST.out, HEQ.out⟩⟩, HY4.out.b⟩
end Go.Proofs.YtihokphamgkkcaaGreat
namespace Go.Proofs.YtihokphamgkkcaaGreat
open Go.RowKit
set_option maxHeartbeats 1000000 in
set_option maxRecDepth 20000 in
theorem peekH_no (s : ByteArray) (E : Nat) (w : World) (h0 : ¬ E = 0) (CP : Hid (∀ w, Calls Tryz.prog 34 #[.string s] w fun e w' => e = .returned (.tuple #[.agg #[.int .i64 0, .int .u32 0, .int .u8 0, .int .u32 0, .int .u16 0, .int .u32 0, .int .i64 0, .int .i64 0, .int .i64 0, .int .i32 0], .int .i64 E]) ∧ Below w.heap.size w w')) :
    Calls Tryz.prog 12 #[.string s] w fun e w' => e = .returned (.tuple #[.agg #[.int .i64 0, .int .i64 0, .bool false, .int .i64 0, .int .i64 0, .int .i64 0, .int .i64 0, .int .i32 0], .int .i64 E]) ∧ Below w.heap.size w w' := by
  have h0' : ¬ (E : Int) = 0 := by omega
  go_enter Tryz.func12, Tryz.ntmps12
  go_wp2_with fail
  refine (CP.out _).mono ?_
  rintro e w1 ⟨rfl, b1⟩
  have X1 := ((Bx1.new w #[.int .i64 0, .int .i64 0, .bool false, .int .i64 0, .int .i64 0, .int .i64 0, .int .i64 0, .int .i32 0] 35).call b1).alloc (.cells #[.int .i64 0, .int .u32 0, .int .u8 0, .int .u32 0, .int .u16 0, .int .u32 0, .int .i64 0, .int .i64 0, .int .i64 0, .int .i32 0] 59)
  obtain ⟨r0, r1, r2, r3, r4, r5, r6, r7⟩ := cells8 X1.p
  obtain ⟨z0, z1, z2, z3, z4, z5, z6, z7⟩ := froz8 X1.p
  clear b1
  go_wp2_with fail
  clear r0 r1 r2 r3 r4 r5 r6 r7 z0 z1 z2 z3 z4 z5 z6 z7
  have P := put8' X1 (.int .i64 0) (.int .i64 0) (.bool false) (.int .i64 0) (.int .i64 0) (.int .i64 0) (.int .i64 0) (.int .i32 0)
  generalize (((((((((w1.alloc (.cells #[.int .i64 0, .int .u32 0, .int .u8 0, .int .u32 0, .int .u16 0, .int .u32 0, .int .i64 0, .int .i64 0, .int .i64 0, .int .i32 0] 59)).setCell ⟨w.heap.size, 0, none⟩ (.int .i64 0)).setCell ⟨w.heap.size, 1, none⟩ (.int .i64 0)).setCell ⟨w.heap.size, 2, none⟩ (.bool false)).setCell ⟨w.heap.size, 3, none⟩ (.int .i64 0)).setCell ⟨w.heap.size, 4, none⟩ (.int .i64 0)).setCell ⟨w.heap.size, 5, none⟩ (.int .i64 0)).setCell ⟨w.heap.size, 6, none⟩ (.int .i64 0)).setCell ⟨w.heap.size, 7, none⟩ (.int .i32 0)) = WF at *
  obtain ⟨e0, e1, e2, e3, e4, e5, e6, e7⟩ := cells8 P.p
  exact bodyPost_ret (v := .tuple #[.agg #[.int .i64 0, .int .i64 0, .bool false, .int .i64 0, .int .i64 0, .int .i64 0, .int .i64 0, .int .i32 0], .int .i64 E]) (by simp [results, Tryz.results12, go_sem, e0, e1, e2, e3, e4, e5, e6, e7]) rfl ⟨rfl, P.b⟩
set_option maxHeartbeats 1000000 in
set_option maxRecDepth 20000 in
theorem peekH_yes (s : ByteArray) (c0 c6 c7 c8 c9 : Int) (c1 c2 c3 c4 c5 : Nat) (b0 b1 : Int) (b2 : Bool) (b3 b4 b5 b6 b7 : Int) (w : World)
    (CP : Hid (∀ w, Calls Tryz.prog 34 #[.string s] w fun e w' => e = .returned (.tuple #[.agg #[.int .i64 c0, .int .u32 c1, .int .u8 c2, .int .u32 c3, .int .u16 c4, .int .u32 c5, .int .i64 c6, .int .i64 c7, .int .i64 c8, .int .i32 c9], .int .i64 0]) ∧ Below w.heap.size w w'))
    (CH : Hid (∀ w, Calls Tryz.prog 35 #[.agg #[.int .i64 c0, .int .u32 c1, .int .u8 c2, .int .u32 c3, .int .u16 c4, .int .u32 c5, .int .i64 c6, .int .i64 c7, .int .i64 c8, .int .i32 c9]] w fun e w' => e = .returned (.agg #[.int .i64 b0, .int .i64 b1, .bool b2, .int .i64 b3, .int .i64 b4, .int .i64 b5, .int .i64 b6, .int .i32 b7]) ∧ Below w.heap.size w w')) :
    Calls Tryz.prog 12 #[.string s] w fun e w' => e = .returned (.tuple #[.agg #[.int .i64 b0, .int .i64 b1, .bool b2, .int .i64 b3, .int .i64 b4, .int .i64 b5, .int .i64 b6, .int .i32 b7], .int .i64 0]) ∧ Below w.heap.size w w' := by
  go_enter Tryz.func12, Tryz.ntmps12
  go_wp2_with fail
  refine (CP.out _).mono ?_
  rintro e w1 ⟨rfl, b1'⟩
  have X1 := ((Bx1.new w #[.int .i64 0, .int .i64 0, .bool false, .int .i64 0, .int .i64 0, .int .i64 0, .int .i64 0, .int .i32 0] 35).call b1').alloc (.cells #[.int .i64 c0, .int .u32 c1, .int .u8 c2, .int .u32 c3, .int .u16 c4, .int .u32 c5, .int .i64 c6, .int .i64 c7, .int .i64 c8, .int .i32 c9] 59)
  have F1 : (w1.alloc (.cells #[.int .i64 c0, .int .u32 c1, .int .u8 c2, .int .u32 c3, .int .u16 c4, .int .u32 c5, .int .i64 c6, .int .i64 c7, .int .i64 c8, .int .i32 c9] 59)).heap[w1.heap.size]? = some (.cells #[.int .i64 c0, .int .u32 c1, .int .u8 c2, .int .u32 c3, .int .u16 c4, .int .u32 c5, .int .i64 c6, .int .i64 c7, .int .i64 c8, .int .i32 c9] 59 (0, 0)) := heap_new _ _
  obtain ⟨W1, hW1⟩ : ∃ x, (w1.alloc (.cells #[.int .i64 c0, .int .u32 c1, .int .u8 c2, .int .u32 c3, .int .u16 c4, .int .u32 c5, .int .i64 c6, .int .i64 c7, .int .i64 c8, .int .i32 c9] 59)) = x := ⟨_, rfl⟩
  rw [hW1] at X1 F1
  obtain ⟨f0, f1, f2, f3, f4, f5, f6, f7, f8, f9⟩ := cells10 F1
  clear b1'
  go_wp2_with fail
  refine (CH.out _).mono ?_
  rintro e w2 ⟨rfl, b2'⟩
  have X2 := X1.call b2'
  clear f0 f1 f2 f3 f4 f5 f6 f7 f8 f9 b2' X1 F1
  obtain ⟨r0, r1, r2, r3, r4, r5, r6, r7⟩ := cells8 X2.p
  obtain ⟨z0, z1, z2, z3, z4, z5, z6, z7⟩ := froz8 X2.p
  go_wp2_with fail
  clear r0 r1 r2 r3 r4 r5 r6 r7 z0 z1 z2 z3 z4 z5 z6 z7
  have P := put8' X2 (.int .i64 b0) (.int .i64 b1) (.bool b2) (.int .i64 b3) (.int .i64 b4) (.int .i64 b5) (.int .i64 b6) (.int .i32 b7)
  generalize ((((((((w2.setCell ⟨w.heap.size, 0, none⟩ (.int .i64 b0)).setCell ⟨w.heap.size, 1, none⟩ (.int .i64 b1)).setCell ⟨w.heap.size, 2, none⟩ (.bool b2)).setCell ⟨w.heap.size, 3, none⟩ (.int .i64 b3)).setCell ⟨w.heap.size, 4, none⟩ (.int .i64 b4)).setCell ⟨w.heap.size, 5, none⟩ (.int .i64 b5)).setCell ⟨w.heap.size, 6, none⟩ (.int .i64 b6)).setCell ⟨w.heap.size, 7, none⟩ (.int .i32 b7)) = WF at *
  obtain ⟨e0, e1, e2, e3, e4, e5, e6, e7⟩ := cells8 P.p
  exact bodyPost_ret (v := .tuple #[.agg #[.int .i64 b0, .int .i64 b1, .bool b2, .int .i64 b3, .int .i64 b4, .int .i64 b5, .int .i64 b6, .int .i32 b7], .int .i64 0]) (by simp [results, Tryz.results12, go_sem, e0, e1, e2, e3, e4, e5, e6, e7]) rfl ⟨rfl, P.b⟩
/-- What Peek answers. -/
def PkV (s : ByteArray) : Value := if pke s = 0 then .tuple #[hdV (fsOf s), .int .i64 0] else .tuple #[noHd, .int .i64 (pke s)]
theorem peekH_any (s : ByteArray) (w : World) (hs : s.size ≤ 9223372036854775807) : Calls Tryz.prog 12 #[.string s] w fun e w' => e = .returned (PkV s) ∧ Below w.heap.size w w' := by
  have cp := fun w => peek_any s w hs
  unfold PeekP at cp
  unfold PkV
  by_cases h0 : pke s = 0
  · rw [if_pos h0] at cp ⊢
    have hz : ¬ s.size < 51 := by intro h; rw [pke_short h] at h0; cases h0
    have ch := fun w => b6head_any (fsOf s) w (fsOf_ok (by omega))
    unfold hdV fsV fsA at *
    exact peekH_yes s _ _ _ _ _ _ _ _ _ _ _ _ _ _ _ _ _ _ w (hid cp) (hid ch)
  · rw [if_neg h0] at cp ⊢
    exact peekH_no s _ w h0 (hid cp)
set_option maxHeartbeats 1000000 in
set_option maxRecDepth 20000 in
theorem size_any6 (b : Bt) (w : World) (V : Rcs w b.a b.l) (hT : ∀ x ∈ b.l, I64 x.r.t) (hM : ∀ x ∈ b.l, Mod x.r) (hL : b.l.length ≤ 9223372036854775807) :
    Calls Tryz.prog 10 #[btV b] w fun e w' => (∃ (E n : Nat) (T : ByteArray), e = .returned (.tuple #[.int .i64 n, .int .i64 E]) ∧ StoP b E T ∧ n = if E = 0 then 51 + T.size else 0) ∧ Below w.heap.size w w' := by
  have CS := hid (fun w V => store_any b w V hT hM hL)
  clear hT hM hL
  unfold btV btA at *
  go_enter Tryz.func10, Tryz.ntmps10
  go_wp2_with fail
  have N0 := Bx1.new w #[.int .i64 b.base, .bool b.pk, .int .i64 b.prod, .int .i32 b.seq, .slice b.a b.l.length b.cap] 24
  refine (CS.out _ (V.below N0.b)).mono ?_
  rintro e w1 ⟨⟨E, T, rfl, HS⟩, b1⟩
  have N1 := N0.call b1
  obtain ⟨z1, z2⟩ := sto_zero HS
  clear N0 b1 CS
  by_cases hE : E = 0
  · subst hE
    obtain ⟨hr, hn⟩ := z2 rfl
    have hn' : (T.size : Int) ≤ 16777165 := by omega
    have HP := hid HS
    clear z1 z2 HS hr
    go_wp2_with fail
    go_ret2
    exact ⟨⟨0, 51 + T.size, T, by simp, HP.out, by rw [if_pos rfl]⟩, N1.b⟩
  · have hE' : ¬ (E : Int) = 0 := by omega
    have HP := hid HS
    clear z1 z2 HS
    go_wp2_with fail
    go_ret2
    exact ⟨⟨E, 0, T, rfl, HP.out, by rw [if_neg hE]⟩, N1.b⟩
end Go.Proofs.YtihokphamgkkcaaGreat
namespace Go.Proofs.YtihokphamgkkcaaGreat
open Go.RowKit
theorem sto_det {b : Bt} {E E' : Nat} {T T' : ByteArray} (h : StoP b E T) (h' : StoP b E' T') (hd : ∀ E E' S S', BodyP b.l E S → BodyP b.l E' S' → E = E') : E = 0 → E' = 0 ∧ T' = T := by
  intro hE
  subst hE
  obtain ⟨r0, S, q1, q2, q3⟩ := sto_ok h
  cases h' with
  | head h => exact absurd r0 h
  | body E h1 h2 h3 => exact absurd (hd _ _ _ _ h3 q1) h2
  | big S' h1 h2 h3 =>
    have e : S' = S := by rw [h2.2.2 rfl, q1.2.2 rfl]
    subst e
    rw [← q2] at h3
    omega
  | ok S' h1 h2 h3 =>
    have e : S' = S := by rw [h2.2.2 rfl, q1.2.2 rfl]
    subst e
    exact ⟨rfl, q2.symm⟩
theorem body_det {l : List RI} {E E' : Nat} {S S' : ByteArray} (h : BodyP l E S) (h' : BodyP l E' S') : E = E' := by
  rcases h.1 with ⟨a1, a2⟩ | ⟨a1, a2⟩
  · rcases h'.1 with ⟨b1, b2⟩ | ⟨b1, b2⟩
    · rw [a2, b2]
    · exact absurd b1 a1
  · rcases h'.1 with ⟨b1, b2⟩ | ⟨b1, b2⟩
    · exact absurd a1 b1
    · unfold FitE at a2 b2
      rcases a2 with ⟨j, c1, c2, c3, c4⟩ | ⟨c1, c2⟩
      · rcases b2 with ⟨k, d1, d2, d3, d4⟩ | ⟨d1, d2⟩
        · have : j = k := by
            rcases Nat.lt_trichotomy j k with h | h | h
            · exact absurd (d2 j h) c3
            · exact h
            · exact absurd (c2 k h) d3
          subst this
          rw [c4, d4]
        · exact absurd (d1 j c1) c3
      · rcases b2 with ⟨k, d1, d2, d3, d4⟩ | ⟨d1, d2⟩
        · exact absurd (c1 k d1) d3
        · rw [c2, d2]
theorem sto_same {b : Bt} {E E' : Nat} {T T' : ByteArray} (h : StoP b E T) (h' : StoP b E' T') : E = E' := by
  cases h with
  | head h1 =>
    cases h' with
    | head _ => rfl
    | body _ h2 _ _ => exact absurd h2 h1
    | big _ h2 _ _ => exact absurd h2 h1
    | ok _ h2 _ _ => exact absurd h2 h1
  | body E h1 h2 h3 =>
    cases h' with
    | head h => exact absurd h1 h
    | body E' _ _ h6 => exact body_det h3 h6
    | big S _ h6 _ => exact absurd (body_det h3 h6) h2
    | ok S _ h6 _ => exact absurd (body_det h3 h6) h2
  | big S h1 h2 h3 =>
    cases h' with
    | head h => exact absurd h1 h
    | body E' _ h5 h6 => exact absurd (body_det h6 h2) h5
    | big S' _ _ _ => rfl
    | ok S' _ h6 h7 =>
      have e : S' = S := by rw [h6.2.2 rfl, h2.2.2 rfl]
      subst e
      omega
  | ok S h1 h2 h3 =>
    cases h' with
    | head h => exact absurd h1 h
    | body E' _ h5 h6 => exact absurd (body_det h6 h2) h5
    | big S' _ h6 h7 =>
      have e : S' = S := by rw [h6.2.2 rfl, h2.2.2 rfl]
      subst e
      omega
    | ok S' _ _ _ => rfl
theorem body_some {l : List RI} : ∃ E S, BodyP l E S := by
  by_cases h : 1 ≤ l.length ∧ l.length ≤ 65536
  · by_cases hz : ∀ i, i < l.length → sze (l.getD i dri).r (l.getD 0 dri).r.t i = 0
    · by_cases hb : 16777216 < (bdy (l.getD 0 dri).r.t 0 (l.map RI.r)).length
      · exact ⟨66, ⟨#[]⟩, Or.inr ⟨h, Or.inr ⟨hz, by rw [if_pos hb]⟩⟩, fun _ => rfl, fun h => by cases h⟩
      · exact ⟨0, _, Or.inr ⟨h, Or.inr ⟨hz, by rw [if_neg hb]⟩⟩, fun h => absurd rfl h, fun _ => rfl⟩
    · have hex : ∃ j, j < l.length ∧ sze (l.getD j dri).r (l.getD 0 dri).r.t j ≠ 0 := Classical.byContradiction fun hn => hz fun i hi => Classical.byContradiction fun hh => hn ⟨i, hi, hh⟩
      have hmin : ∃ j, (j < l.length ∧ sze (l.getD j dri).r (l.getD 0 dri).r.t j ≠ 0) ∧ ∀ i, i < j → sze (l.getD i dri).r (l.getD 0 dri).r.t i = 0 := by
        obtain ⟨j, hj⟩ := hex
        induction j using Nat.strongRecOn with
        | ind j ih =>
          by_cases hall : ∀ i, i < j → sze (l.getD i dri).r (l.getD 0 dri).r.t i = 0
          · exact ⟨j, hj, hall⟩
          · have : ∃ i, i < j ∧ sze (l.getD i dri).r (l.getD 0 dri).r.t i ≠ 0 := Classical.byContradiction fun hn => hall fun i hi => Classical.byContradiction fun hh => hn ⟨i, hi, hh⟩
            obtain ⟨i, h1, h2⟩ := this
            exact ih i h1 ⟨by omega, h2⟩
      obtain ⟨j, ⟨h1, h2⟩, h3⟩ := hmin
      exact ⟨_, ⟨#[]⟩, Or.inr ⟨h, Or.inl ⟨j, h1, h3, h2, rfl⟩⟩, fun _ => rfl, fun h => absurd h h2⟩
  · exact ⟨28, ⟨#[]⟩, Or.inl ⟨h, rfl⟩, fun _ => rfl, fun h => by cases h⟩
theorem sto_some {b : Bt} (hn : ∀ T, ¬ StoP b 0 T) : ∃ E, E ≠ 0 ∧ StoP b E ⟨#[]⟩ := by
  by_cases h0 : rfh b = 0
  · obtain ⟨E, S, h⟩ := body_some (l := b.l)
    by_cases hE : E = 0
    · subst hE
      by_cases hs : (sto b S).size ≤ 16777165
      · exact absurd (StoP.ok S h0 h hs) (hn _)
      · exact ⟨66, by decide, StoP.big S h0 h (by omega)⟩
    · exact ⟨E, hE, StoP.body E h0 hE (by have := h.2.1 hE; rwa [this] at h)⟩
  · exact ⟨_, h0, StoP.head h0⟩
end Go.Proofs.YtihokphamgkkcaaGreat
namespace Go.Proofs.YtihokphamgkkcaaGreat
open Go.RowKit
theorem xencode_any (b : Bt) (w : World) (hb : BtOk b) (V : Rcs w b.a b.l) (h1 : -9223372036854775808 ≤ b.base) (h2 : b.base ≤ 9223372036854775807) :
    Calls Tryz.prog 11 #[btV b] w fun e w' => (∃ (E : Nat) (S : ByteArray), e = .returned (.tuple #[.string S, .int .i64 E]) ∧ EncP b E S) ∧ Below w.heap.size w w' := by
  obtain ⟨base, pk, prod, seq, l, a, cap⟩ := b
  have hT := hb.t
  have hM := hb.m
  have hL := hb.l
  dsimp only at V h1 h2 hT hM hL
  unfold btV btA
  dsimp only
  by_cases hr : rfh ⟨base, pk, prod, seq, l, a, cap⟩ = 0
  · have hl := (rfh_zero hr).1
    dsimp only at hl
    rcases id V.2 with h | ⟨b, off, rfl, hbl, hc⟩
    · rw [h] at hl; simp at hl
    exact xenc_yes base pk prod seq l l.length rfl b off cap w V hbl hc hr hT hM
  · exact xenc_head base pk prod seq l a cap w hr hL h1 h2
theorem enc_det {b : Bt} {E E' : Nat} {S S' : ByteArray} (h : EncP b E S) (h' : EncP b E' S') : E' = E ∧ S' = S := by
  rcases h with ⟨a1, a2, a3⟩ | ⟨a1, T, a2, a3⟩
  · rcases h' with ⟨b1, b2, b3⟩ | ⟨b1, T', b2, b3⟩
    · exact ⟨sto_same b2 a2, by rw [a3, b3]⟩
    · exact absurd ((sto_same a2 b2).trans rfl) a1
  · rcases h' with ⟨b1, b2, b3⟩ | ⟨b1, T', b2, b3⟩
    · exact absurd (sto_same b2 a2) b1
    · have h := sto_det a2 b2 (fun _ _ _ _ h h' => body_det h h') rfl
      rw [a1, b1, a3, b3, h.2]
      exact ⟨rfl, rfl⟩
theorem enc_some (b : Bt) : ∃ E S, EncP b E S := by
  by_cases hz : ∃ T, StoP b 0 T
  · obtain ⟨T, hT⟩ := hz
    exact ⟨0, _, Or.inr ⟨rfl, T, hT, rfl⟩⟩
  · obtain ⟨E, h1, h2⟩ : ∃ E, E ≠ 0 ∧ StoP b E ⟨#[]⟩ := sto_some (fun T h => hz ⟨T, h⟩)
    exact ⟨E, _, Or.inl ⟨h1, h2, rfl⟩⟩
theorem size_det {b : Bt} {E E' : Nat} {S T : ByteArray} (h : EncP b E S) (h' : StoP b E' T) : E' = E ∧ (if E' = 0 then 51 + T.size else 0) = S.size := by
  rcases h with ⟨a1, a2, a3⟩ | ⟨a1, T2, a2, a3⟩
  · have e := sto_same h' a2
    subst e
    rw [if_neg a1, a3]
    exact ⟨rfl, rfl⟩
  · have e := sto_same h' a2
    subst e
    subst a1
    have h := sto_det a2 h' (fun _ _ _ _ h h' => body_det h h') rfl
    rw [if_pos rfl, a3, frm_size, h.2]
    exact ⟨rfl, rfl⟩
set_option maxHeartbeats 2000000 in
set_option maxRecDepth 20000 in
theorem encs_in (base : Int) (pk : Bool) (prod seq : Int) (l : List RI) (L : Nat) (a : Option Addr) (cap : Nat) (w : World) (V : Rcs w a l) (E : Nat) (S : ByteArray)
    (CE : Hid (∀ w, Rcs w a l → Calls Tryz.prog 9 #[.agg #[.int .i64 base, .bool pk, .int .i64 prod, .int .i32 seq, .slice a L cap]] w fun e w' => e = .returned (.tuple #[.string S, .int .i64 E]) ∧ Below w.heap.size w w'))
    (CZ : Hid (∀ w, Rcs w a l → Calls Tryz.prog 10 #[.agg #[.int .i64 base, .bool pk, .int .i64 prod, .int .i32 seq, .slice a L cap]] w fun e w' => e = .returned (.tuple #[.int .i64 S.size, .int .i64 E]) ∧ Below w.heap.size w w'))
    (CX : Hid (∀ w, Rcs w a l → Calls Tryz.prog 11 #[.agg #[.int .i64 base, .bool pk, .int .i64 prod, .int .i32 seq, .slice a L cap]] w fun e w' => e = .returned (.tuple #[.string S, .int .i64 E]) ∧ Below w.heap.size w w')) :
    Calls Tryz.prog 3 #[.agg #[.int .i64 base, .bool pk, .int .i64 prod, .int .i32 seq, .slice a L cap]] w fun e w' => e = .returned (.bool true) ∧ Below w.heap.size w w' := by
  have CA := hid (fun w => awake6_any w)
  have N0 := Bx1.new w #[.int .i64 base, .bool pk, .int .i64 prod, .int .i32 seq, .slice a L cap] 24
  go_enter Tryz.func3, Tryz.ntmps3
  go_wp2_with fail
  refine (CA.out _).mono ?_
  rintro e w1 ⟨rfl, b1⟩
  have N1 := N0.call b1
  have V1 := V.below N1.b
  obtain ⟨k0, k1, k2, k3, k4⟩ := cells5 N1.p
  clear b1 N0
  go_wp2_with fail
  refine (CE.out _ V1).mono ?_
  rintro e w2 ⟨rfl, b2⟩
  have N2 := N1.call b2
  have V2 := V.below N2.b
  clear b2 N1 k0 k1 k2 k3 k4 V1
  obtain ⟨k0, k1, k2, k3, k4⟩ := cells5 N2.p
  go_wp2_with fail
  refine (CZ.out _ V2).mono ?_
  rintro e w3 ⟨rfl, b3⟩
  have N3 := N2.call b3
  have V3 := V.below N3.b
  clear b3 N2 k0 k1 k2 k3 k4 V2
  obtain ⟨k0, k1, k2, k3, k4⟩ := cells5 N3.p
  go_wp2_with fail
  refine (CX.out _ V3).mono ?_
  rintro e w4 ⟨rfl, b4⟩
  have N4 := N3.call b4
  clear b4 N3 k0 k1 k2 k3 k4 V3
  go_wp2_with fail
  go_ret
  exact ⟨rfl, N4.b⟩
theorem encs_walk (b : Bt) (w : World) (hb : BtOk b) (V : Rcs w b.a b.l) (h1 : -9223372036854775808 ≤ b.base) (h2 : b.base ≤ 9223372036854775807) :
    Calls Tryz.prog 3 #[.agg #[.int .i64 b.base, .bool b.pk, .int .i64 b.prod, .int .i32 b.seq, .slice b.a b.l.length b.cap]] w fun e w' => e = .returned (.bool true) ∧ Below w.heap.size w w' := by
  obtain ⟨E, S, hE⟩ := enc_some b
  have ce := fun w V => encode_any b w V hb.t hb.m hb.l
  have cz := fun w V => size_any6 b w V hb.t hb.m hb.l
  have cx := fun w V => xencode_any b w hb V h1 h2
  unfold btV btA at ce cz cx
  refine encs_in b.base b.pk b.prod b.seq b.l b.l.length b.a b.cap w V E S (hid fun w V => ?_) (hid fun w V => ?_) (hid fun w V => ?_)
  · refine (ce w V).mono ?_
    rintro e w' ⟨⟨E', S', rfl, h'⟩, hbl⟩
    obtain ⟨rfl, rfl⟩ := enc_det hE h'
    exact ⟨rfl, hbl⟩
  · refine (cz w V).mono ?_
    rintro e w' ⟨⟨E', n, T, rfl, h', hn⟩, hbl⟩
    obtain ⟨e1, e2⟩ := size_det hE h'
    rw [← hn] at e2
    subst e1 e2
    exact ⟨rfl, hbl⟩
  · refine (cx w V).mono ?_
    rintro e w' ⟨⟨E', S', rfl, h'⟩, hbl⟩
    obtain ⟨rfl, rfl⟩ := enc_det hE h'
    exact ⟨rfl, hbl⟩
end Go.Proofs.YtihokphamgkkcaaGreat
