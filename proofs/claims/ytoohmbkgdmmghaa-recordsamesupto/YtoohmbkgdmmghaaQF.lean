/- Texts of the proof, put together: RSc, RSm. -/
import Derived.Test.YtoohmbkgdmmghaaQE
import Derived.Test.YtoohmbkgdmmghaaQD
import Derived.Test.YtoohmbkgdmmghaaQA
import Derived.Deep.RegionHeld3
namespace Go.Proofs.Ytoohmbkgdmmghaa
open Go.RowKit
def clh (hs : List Hdr) : List Hdr := hs.map fun x => (x.1, x.2.1, bd x.2.1 x.2.2)
theorem clh_len (hs : List Hdr) : (clh hs).length = hs.length := by unfold clh; rw [List.length_map]
theorem clh_at (hs : List Hdr) (j : Nat) (h : j < hs.length) : (clh hs).getD j df = ((hs.getD j df).1, (hs.getD j df).2.1, bd (hs.getD j df).2.1 (hs.getD j df).2.2) := by
  unfold clh
  rw [List.getD_eq_getElem?_getD, List.getD_eq_getElem?_getD, List.getElem?_map, List.getElem?_eq_getElem h]
  rfl
theorem sam_cln (t : Int) (kh vh : Bool) (kd vd : ByteArray) (hs : List Hdr) : SamR ⟨t, kh, bd kh kd, vh, bd vh vd, clh hs⟩ ⟨t, kh, kd, vh, vd, hs⟩ :=
  ⟨rfl, ⟨rfl, bd_bd _ _⟩, ⟨rfl, bd_bd _ _⟩, clh_len hs, fun j hj => by
    dsimp only at hj ⊢
    rw [clh_len] at hj
    rw [clh_at hs j hj]
    exact ⟨rfl, rfl, bd_bd _ _⟩⟩
set_option maxHeartbeats 800000 in
set_option maxRecDepth 20000 in
theorem clean_any (t : Int) (kh vh : Bool) (kd vd : ByteArray) (hs : List Hdr) (a a' : Option Addr) (cap cap' : Nat) (w : World) (V : Hds w a hs) (V' : Hds w a' (clh hs)) (hz : hs.length ≤ 9223372036854775807) :
    Calls Try.prog 9 #[.agg #[.int .i64 t, .bool kh, .string (bd kh kd), .bool vh, .string (bd vh vd), .slice a' hs.length cap'], .agg #[.int .i64 t, .bool kh, .string kd, .bool vh, .string vd, .slice a hs.length cap]] w fun e w' => e = .returned (.bool true) ∧ Below w.heap.size w w' := by
  have C1 : Hid (∀ x, Below w.heap.size w x → Calls Try.prog 7 #[.agg #[.int .i64 t, .bool kh, .string (bd kh kd), .bool vh, .string (bd vh vd), .slice a' hs.length cap'], .agg #[.int .i64 t, .bool kh, .string kd, .bool vh, .string vd, .slice a hs.length cap]] x fun e w' => e = .returned (.bool true) ∧ Below x.heap.size x w') := fun x hx => by
    have h := xsame_any ⟨t, kh, bd kh kd, vh, bd vh vd, clh hs⟩ ⟨t, kh, kd, vh, vd, hs⟩ a' a cap' cap x (V'.belowB (Nat.le_refl _) hx) (V.belowB (Nat.le_refl _) hx) (by dsimp only; rw [clh_len]; exact hz)
    rw [sameB_yes (sam_cln t kh vh kd vd hs)] at h
    dsimp only at h
    rw [clh_len] at h
    exact h
  have C2 : Hid (∀ x, Below w.heap.size w x → Calls Try.prog 18 #[.agg #[.int .i64 t, .bool kh, .string (bd kh kd), .bool vh, .string (bd vh vd), .slice a' hs.length cap']] x fun e w' => e = .returned (.bool true) ∧ Below x.heap.size x w') := fun x hx => by
    have h := xclean_yes t kh vh (bd kh kd) (bd vh vd) (clh hs) a' cap' x (V'.belowB (Nat.le_refl _) hx) (by rw [clh_len]; exact hz) (bd_bd _ _) (bd_bd _ _) (fun j hj => by rw [clh_len] at hj; rw [clh_at hs j hj]; exact bd_bd _ _)
    rw [clh_len] at h
    exact h
  clear V V' hz
  go_enter Try.func9, Try.ntmps9
  go_wp2_with fail
  have h1 : ((w.alloc (.cells #[.int .i64 t, .bool kh, .string (bd kh kd), .bool vh, .string (bd vh vd), .slice a' hs.length cap'] 26)).alloc (.cells #[.int .i64 t, .bool kh, .string kd, .bool vh, .string vd, .slice a hs.length cap] 26)).heap[w.heap.size]? = some (.cells #[.int .i64 t, .bool kh, .string (bd kh kd), .bool vh, .string (bd vh vd), .slice a' hs.length cap'] 26 (0, 0)) := heap_alloc_at (heap_new _ _)
  have hb1 : Below w.heap.size w ((w.alloc (.cells #[.int .i64 t, .bool kh, .string (bd kh kd), .bool vh, .string (bd vh vd), .slice a' hs.length cap'] 26)).alloc (.cells #[.int .i64 t, .bool kh, .string kd, .bool vh, .string vd, .slice a hs.length cap] 26)) := ((Below.refl _ w).alloc (Nat.le_refl _) _).alloc (by simp) _
  go_at_call 7
  refine (C1.out _ hb1).mono ?_
  rintro e w1 ⟨rfl, hb2⟩
  obtain ⟨m0, m1, m2, m3, m4, m5⟩ := cells6 ((hb2.block w.heap.size (by simp; omega)).trans h1)
  have HB3 := hid (bel_next hb1 (Nat.le_refl _) hb2)
  clear hb1 hb2 h1
  go_wp2_with fail
  go_at_call 18
  refine (C2.out _ HB3.out).mono ?_
  rintro e w2 ⟨rfl, hb4⟩
  have HB5 := hid (bel_next HB3.out (Nat.le_refl _) hb4)
  clear hb4
  go_wp2_with fail
  go_ret
  exact ⟨rfl, HB5.out⟩
theorem gby_fresh {a b : World} {r : Option Nat} (h : Below a.heap.size a b) : a.grownBy b r := ⟨h.os, h.tape, h.output, h.size, fun k hk _ => h.block k hk⟩
/-- The copy's headers while they are written over: whatever else was there stays. -/
structure Wov (wk x : World) (B : Nat) (a : Option Addr) (n cap : Nat) (l : List Hdr) : Prop where
  len : l.length = n
  own : x.ownsRow B 33 3 (.slice a n cap) n (hcs l)
  gby : wk.grownBy x (Value.slice a n cap).ownBlock
theorem Wov.at {wk x : World} {B n cap p : Nat} {a : Option Addr} {l : List Hdr} (h : Wov wk x B a n cap l) (hp : p < n) : ∃ g, a = some ⟨g, 0, none⟩ ∧ (∃ v0 v1 v2, x.cell? ⟨g, p * 3, none⟩ = some v0 ∧ x.cell? ⟨g, p * 3 + 1, none⟩ = some v1 ∧ x.cell? ⟨g, p * 3 + 2, none⟩ = some v2) ∧ ∀ o, x.frozen? ⟨g, o, none⟩ = false := by
  have hh2 := h.own
  obtain ⟨_, h2⟩ := h.own
  rcases h2 with ⟨_, h3⟩ | ⟨g, c, cur, e, _⟩
  · omega
  · rw [e] at hh2
    injection e with e1 _ _
    have hc := hcs_at l p (by rw [h.len]; exact hp)
    have hl := h.len
    refine ⟨g, e1, ⟨.string (l.getD p df).1, .bool (l.getD p df).2.1, .string (l.getD p df).2.2, ?_, ?_, ?_⟩, fun o => hh2.frozenAt o⟩
    · rw [hh2.cellAt _ (by omega)]; exact hc.1
    · rw [hh2.cellAt _ (by omega)]; exact hc.2.1
    · rw [hh2.cellAt _ (by omega)]; exact hc.2.2
theorem Wov.seth {wk x : World} {B n cap p g : Nat} {l : List Hdr} (h : Wov wk x B (some ⟨g, 0, none⟩) n cap l) (y : Hdr) : Wov wk (((x.setCell ⟨g, p * 3, none⟩ (.string y.1)).setCell ⟨g, p * 3 + 1, none⟩ (.bool y.2.1)).setCell ⟨g, p * 3 + 2, none⟩ (.string y.2.2)) B (some ⟨g, 0, none⟩) n cap (l.set p y) := by
  obtain ⟨h1, g1⟩ := h.own.stored (p * 3) (.string y.1)
  obtain ⟨h2, g2⟩ := h1.stored (p * 3 + 1) (.bool y.2.1)
  obtain ⟨h3, g3⟩ := h2.stored (p * 3 + 2) (.string y.2.2)
  rw [hcs_set] at h3
  exact ⟨by rw [List.length_set]; exact h.len, h3, gby_trans h.gby (gby_trans (gby_trans g1 g2) g3)⟩
theorem Wov.zeros {wk x : World} {B n cap : Nat} {a : Option Addr} {l : List Hdr} (h : Wov wk x B a n cap l) (hn : n ≤ 1048576) :
    ∃ v' w', (Builtin.append_ #[24, 3] 24 #[.slice a n cap, .int .i64 40]).run Try.prog x = .ok v' w' ∧ wk.grownBy w' (Value.slice a n cap).ownBlock := by
  obtain ⟨i0, ii, hz0, hz1, hz2⟩ := info_parts Try.infoHdr
  obtain ⟨v', w', hr, hor⟩ := appendZ (P := Try.prog) x 24 3 24 B 33 i0 (.agg #[.string ⟨#[]⟩, .bool false, .string ⟨#[]⟩]) 3 40 Try.underHdrs Try.undInt ii hz0 hz1 hz2 rfl (by decide) zc_hdr _ _ _ h.own 40 (by decide) (by omega) (by omega)
  refine ⟨v', w', hr, ?_⟩
  rcases hor with ⟨g, h1, h2, h3⟩ | hb
  · exact gby_trans h.gby (by rw [h1]; exact h2)
  · exact gby_trans h.gby (gby_fresh hb)
theorem ownH_of {w : World} {B n : Nat} {v : Value} {l : List Hdr} (hl : l.length = n) (h : OwnH w B v l) : w.ownsRow B 33 3 v n (hcs l) := by rw [← hl]; exact h
theorem own_hds {w : World} {B n cap : Nat} {a : Option Addr} {l : List Hdr} (h : OwnH w B (.slice a n cap) l) : Hds w a l := by
  obtain ⟨a', cap', e, _, h2⟩ := h.slice
  injection e with e1 _ _
  rw [e1]; exact h2
theorem one_of {w : World} {B kk n : Nat} {a ak : Option Addr} {cap : Nat} {l : List RI} {t : Int} {kh vh : Bool} {kd vd : ByteArray} {hs : List Hdr} (h : Held w B (.slice ak n kk) l) (hm : l.map RI.r = [⟨⟨t, kh, kd, vh, vd, hs⟩, a, cap⟩].map RI.r) :
    ∃ ka kc bk ok, ak = some ⟨bk, ok, none⟩ ∧ bk < w.heap.size ∧ Hds w ka hs ∧ w.cell? ⟨bk, ok, none⟩ = some (.int .i64 t) ∧ w.cell? ⟨bk, ok + 1, none⟩ = some (.bool kh) ∧ w.cell? ⟨bk, ok + 2, none⟩ = some (.string kd) ∧ w.cell? ⟨bk, ok + 3, none⟩ = some (.bool vh) ∧ w.cell? ⟨bk, ok + 4, none⟩ = some (.string vd) ∧ w.cell? ⟨bk, ok + 5, none⟩ = some (.slice ka hs.length kc) := by
  obtain ⟨a1, c1, e1, hR⟩ := h.slice
  injection e1 with e1 _ _
  subst e1
  match l, hm, hR with
  | [], hm, _ => simp at hm
  | x :: y :: l, hm, _ => simp at hm
  | [x], hm, hR =>
    have hx : x.r = ⟨t, kh, kd, vh, vd, hs⟩ := by simpa using hm
    obtain ⟨r, xa, xc⟩ := x
    dsimp only at hx
    subst hx
    obtain ⟨h1, h2⟩ := hR
    rcases h2 with h2 | ⟨b, off, e, hb, hc⟩
    · cases h2
    · have h6 := hc 0 (by simp)
      obtain ⟨s0, s1, s2, s3, s4, s5⟩ := h6
      refine ⟨xa, xc, b, off, e, hb, h1 _ (List.mem_singleton.2 rfl), ?_, ?_, ?_, ?_, ?_, ?_⟩
      · simpa using s0
      · simpa using s1
      · simpa using s2
      · simpa using s3
      · simpa using s4
      · simpa using s5
end Go.Proofs.Ytoohmbkgdmmghaa
namespace Go.Proofs.Ytoohmbkgdmmghaa
open Go.RowKit
def ovw : ByteArray := ⟨#[119, 114, 105, 116, 116, 101, 110, 32, 111, 118, 101, 114]⟩
def hov : Hdr := (ovw, false, ⟨#[]⟩)
set_option maxHeartbeats 1000000 in
set_option maxRecDepth 20000 in
theorem sames_walk (t t2 : Int) (kh vh kh2 vh2 : Bool) (kd vd kd2 vd2 : ByteArray) (hs hs2 : List Hdr) (a a2 : Option Addr) (cap cap2 : Nat) (w : World) (V1 : Hds w a hs) (V2 : Hds w a2 hs2) (hz : hs.length ≤ 1048576) (hz2 : hs2.length ≤ 1048576) (hN : a = none → cap = 0) :
    Calls Try.prog 3 #[.agg #[.int .i64 t, .bool kh, .string kd, .bool vh, .string vd, .slice a hs.length cap], .agg #[.int .i64 t2, .bool kh2, .string kd2, .bool vh2, .string vd2, .slice a2 hs2.length cap2]] w fun e w' => e = .returned (.bool true) ∧ Below w.heap.size w w' := by
  have HV1 := hid V1
  have HV2 := hid V2
  have HZ1 := hid hz
  have HZ2 := hid hz2
  have HNN := hid hN
  clear V1 V2 hz hz2 hN
  go_enter Try.func3, Try.ntmps3
  go_wp2_with fail
  have h1 : ((w.alloc (.cells #[.int .i64 t, .bool kh, .string kd, .bool vh, .string vd, .slice a hs.length cap] 26)).alloc (.cells #[.int .i64 t2, .bool kh2, .string kd2, .bool vh2, .string vd2, .slice a2 hs2.length cap2] 26)).heap[w.heap.size]? = some (.cells #[.int .i64 t, .bool kh, .string kd, .bool vh, .string vd, .slice a hs.length cap] 26 (0, 0)) := heap_alloc_at (heap_new _ _)
  have h2 : ((w.alloc (.cells #[.int .i64 t, .bool kh, .string kd, .bool vh, .string vd, .slice a hs.length cap] 26)).alloc (.cells #[.int .i64 t2, .bool kh2, .string kd2, .bool vh2, .string vd2, .slice a2 hs2.length cap2] 26)).heap[w.heap.size + 1]? = some (.cells #[.int .i64 t2, .bool kh2, .string kd2, .bool vh2, .string vd2, .slice a2 hs2.length cap2] 26 (0, 0)) := heap_new' _ _ _ (by simp)
  have hb1 : Below w.heap.size w ((w.alloc (.cells #[.int .i64 t, .bool kh, .string kd, .bool vh, .string vd, .slice a hs.length cap] 26)).alloc (.cells #[.int .i64 t2, .bool kh2, .string kd2, .bool vh2, .string vd2, .slice a2 hs2.length cap2] 26)) := ((Below.refl _ w).alloc (Nat.le_refl _) _).alloc (by simp) _
  have hs1 : ((w.alloc (.cells #[.int .i64 t, .bool kh, .string kd, .bool vh, .string vd, .slice a hs.length cap] 26)).alloc (.cells #[.int .i64 t2, .bool kh2, .string kd2, .bool vh2, .string vd2, .slice a2 hs2.length cap2] 26)).heap.size = w.heap.size + 2 := by simp
  generalize ((w.alloc (.cells #[.int .i64 t, .bool kh, .string kd, .bool vh, .string vd, .slice a hs.length cap] 26)).alloc (.cells #[.int .i64 t2, .bool kh2, .string kd2, .bool vh2, .string vd2, .slice a2 hs2.length cap2] 26)) = W2 at *
  have hB : w.heap.size + 2 ≤ W2.heap.size := by omega
  have HB1 := hid hb1
  have h0 : Below (w.heap.size + 2) W2 W2 := Below.refl _ _
  have H1 := hid h1
  have H2 := hid h2
  have y1 : w.heap.size < w.heap.size + 2 := by omega
  have y2 : w.heap.size + 1 < w.heap.size + 2 := by omega
  have HBB := hid hB
  clear h1 h2 hb1 hs1
  obtain ⟨c1, hc1⟩ : ∃ c, sameB ⟨t, kh, kd, vh, vd, hs⟩ ⟨t2, kh2, kd2, vh2, vd2, hs2⟩ = c := ⟨_, rfl⟩
  obtain ⟨c2, hc2⟩ : ∃ c, sameB ⟨t2, kh2, kd2, vh2, vd2, hs2⟩ ⟨t, kh, kd, vh, vd, hs⟩ = c := ⟨_, rfl⟩
  have hc3 : sameB ⟨t, kh, kd, vh, vd, hs⟩ ⟨t, kh, kd, vh, vd, hs⟩ = true := sameB_yes ⟨rfl, ⟨rfl, rfl⟩, ⟨rfl, rfl⟩, rfl, fun _ _ => ⟨rfl, rfl, rfl⟩⟩
  have BW : ∀ x, Below (w.heap.size + 2) W2 x → Below w.heap.size w x := fun x hx => HB1.out.trans (hx.mono (by omega))
  have G1 : ∀ x, Below (w.heap.size + 2) W2 x → Hds x a hs := fun x hx => HV1.out.belowB (Nat.le_refl _) (BW x hx)
  have G2 : ∀ x, Below (w.heap.size + 2) W2 x → Hds x a2 hs2 := fun x hx => HV2.out.belowB (Nat.le_refl _) (BW x hx)
  have C0 : Hid (∀ x, Below (w.heap.size + 2) W2 x → Calls Try.prog 5 #[] x fun e w' => e = .returned (.bool true) ∧ Below (w.heap.size + 2) W2 w') := fun x hx => (forms_any x).mono fun _ _ h => ⟨h.1, bel_next hx hB h.2⟩
  have D00 : Hid (∀ x, Below (w.heap.size + 2) W2 x → Calls Try.prog 6 #[.agg #[.int .i64 t, .bool kh, .string kd, .bool vh, .string vd, .slice a hs.length cap], .agg #[.int .i64 t2, .bool kh2, .string kd2, .bool vh2, .string vd2, .slice a2 hs2.length cap2]] x fun e w' => e = .returned (.bool c1) ∧ Below (w.heap.size + 2) W2 w') := fun x hx => (same_any ⟨t, kh, kd, vh, vd, hs⟩ ⟨t2, kh2, kd2, vh2, vd2, hs2⟩ _ _ _ _ x (G1 x hx) (G2 x hx) (by have := HZ1.out; dsimp only; omega)).mono fun _ _ h => ⟨by rw [← hc1]; exact h.1, bel_next hx hB h.2⟩
  have D01 : Hid (∀ x, Below (w.heap.size + 2) W2 x → Calls Try.prog 6 #[.agg #[.int .i64 t2, .bool kh2, .string kd2, .bool vh2, .string vd2, .slice a2 hs2.length cap2], .agg #[.int .i64 t, .bool kh, .string kd, .bool vh, .string vd, .slice a hs.length cap]] x fun e w' => e = .returned (.bool c2) ∧ Below (w.heap.size + 2) W2 w') := fun x hx => (same_any ⟨t2, kh2, kd2, vh2, vd2, hs2⟩ ⟨t, kh, kd, vh, vd, hs⟩ _ _ _ _ x (G2 x hx) (G1 x hx) (by have := HZ2.out; dsimp only; omega)).mono fun _ _ h => ⟨by rw [← hc2]; exact h.1, bel_next hx hB h.2⟩
  have D02 : Hid (∀ x, Below (w.heap.size + 2) W2 x → Calls Try.prog 6 #[.agg #[.int .i64 t, .bool kh, .string kd, .bool vh, .string vd, .slice a hs.length cap], .agg #[.int .i64 t, .bool kh, .string kd, .bool vh, .string vd, .slice a hs.length cap]] x fun e w' => e = .returned (.bool true) ∧ Below (w.heap.size + 2) W2 w') := fun x hx => (same_any ⟨t, kh, kd, vh, vd, hs⟩ ⟨t, kh, kd, vh, vd, hs⟩ _ _ _ _ x (G1 x hx) (G1 x hx) (by have := HZ1.out; dsimp only; omega)).mono fun _ _ h => ⟨by rw [← hc3]; exact h.1, bel_next hx hB h.2⟩
  have D10 : Hid (∀ x, Below (w.heap.size + 2) W2 x → Calls Try.prog 7 #[.agg #[.int .i64 t, .bool kh, .string kd, .bool vh, .string vd, .slice a hs.length cap], .agg #[.int .i64 t2, .bool kh2, .string kd2, .bool vh2, .string vd2, .slice a2 hs2.length cap2]] x fun e w' => e = .returned (.bool c1) ∧ Below (w.heap.size + 2) W2 w') := fun x hx => (xsame_any ⟨t, kh, kd, vh, vd, hs⟩ ⟨t2, kh2, kd2, vh2, vd2, hs2⟩ _ _ _ _ x (G1 x hx) (G2 x hx) (by have := HZ1.out; dsimp only; omega)).mono fun _ _ h => ⟨by rw [← hc1]; exact h.1, bel_next hx hB h.2⟩
  have D11 : Hid (∀ x, Below (w.heap.size + 2) W2 x → Calls Try.prog 7 #[.agg #[.int .i64 t2, .bool kh2, .string kd2, .bool vh2, .string vd2, .slice a2 hs2.length cap2], .agg #[.int .i64 t, .bool kh, .string kd, .bool vh, .string vd, .slice a hs.length cap]] x fun e w' => e = .returned (.bool c2) ∧ Below (w.heap.size + 2) W2 w') := fun x hx => (xsame_any ⟨t2, kh2, kd2, vh2, vd2, hs2⟩ ⟨t, kh, kd, vh, vd, hs⟩ _ _ _ _ x (G2 x hx) (G1 x hx) (by have := HZ2.out; dsimp only; omega)).mono fun _ _ h => ⟨by rw [← hc2]; exact h.1, bel_next hx hB h.2⟩
  have CP : Hid (∀ x, Below (w.heap.size + 2) W2 x → Calls Try.prog 8 #[.agg #[.int .i64 t, .bool kh, .string kd, .bool vh, .string vd, .slice a hs.length cap]] x fun e w' => ∃ a' cap', e = .returned (.agg #[.int .i64 t, .bool kh, .string (bd kh kd), .bool vh, .string (bd vh vd), .slice a' hs.length cap']) ∧ Hid (OwnH w' x.heap.size (.slice a' hs.length cap') (clh hs)) ∧ Hid (Below x.heap.size x w')) := fun x hx => (copy_any t kh vh kd vd hs a cap x (G1 x hx) HZ1.out).mono fun e w' h => by
    obtain ⟨⟨a', cap', rfl, ho⟩, hb⟩ := h
    have hl : (cln ⟨t, kh, kd, vh, vd, hs⟩).hs.length = hs.length := clh_len hs
    refine ⟨a', cap', ?_, ?_, hb⟩
    · unfold recV; rw [hl]; rfl
    · rw [hl] at ho; exact ho
  have n1 : (c1 != c1) = false := by cases c1 <;> rfl
  have n2 : (c2 != c2) = false := by cases c2 <;> rfl
  have HG1 := hid G1
  have HBW := hid BW
  clear G1 G2 BW hc1 hc2 hc3
  go_region_held3 (fun x => ((x.cell? ⟨w.heap.size, 0, none⟩ = some (.int .i64 t) ∧ x.cell? ⟨w.heap.size, 1, none⟩ = some (.bool kh) ∧ x.cell? ⟨w.heap.size, 2, none⟩ = some (.string kd) ∧ x.cell? ⟨w.heap.size, 3, none⟩ = some (.bool vh) ∧ x.cell? ⟨w.heap.size, 4, none⟩ = some (.string vd) ∧ x.cell? ⟨w.heap.size, 5, none⟩ = some (.slice a hs.length cap)) ∧ (x.cell? ⟨w.heap.size + 1, 0, none⟩ = some (.int .i64 t2) ∧ x.cell? ⟨w.heap.size + 1, 1, none⟩ = some (.bool kh2) ∧ x.cell? ⟨w.heap.size + 1, 2, none⟩ = some (.string kd2) ∧ x.cell? ⟨w.heap.size + 1, 3, none⟩ = some (.bool vh2) ∧ x.cell? ⟨w.heap.size + 1, 4, none⟩ = some (.string vd2) ∧ x.cell? ⟨w.heap.size + 1, 5, none⟩ = some (.slice a2 hs2.length cap2))) ∧ Below (w.heap.size + 2) W2 x) (first | with_reducible exact held12 H1.out H2.out y1 y2 (by assumption) | with_reducible exact held12 H1.out H2.out y1 y2 (Below.drew (by assumption))) (first | (go_at_call 5; (with_reducible refine (C0.out _ (by first | assumption | exact Below.drew (by assumption))).mono ?_); rintro e w' ⟨rfl, hbel⟩) | (go_at_call 6; (with_reducible refine (D00.out _ (by first | assumption | exact Below.drew (by assumption))).mono ?_); rintro e w' ⟨rfl, hbel⟩) | (go_at_call 6; (with_reducible refine (D01.out _ (by first | assumption | exact Below.drew (by assumption))).mono ?_); rintro e w' ⟨rfl, hbel⟩) | (go_at_call 6; (with_reducible refine (D02.out _ (by first | assumption | exact Below.drew (by assumption))).mono ?_); rintro e w' ⟨rfl, hbel⟩) | (go_at_call 7; (with_reducible refine (D10.out _ (by first | assumption | exact Below.drew (by assumption))).mono ?_); rintro e w' ⟨rfl, hbel⟩) | (go_at_call 7; (with_reducible refine (D11.out _ (by first | assumption | exact Below.drew (by assumption))).mono ?_); rintro e w' ⟨rfl, hbel⟩))
  rename_i hHeld
  obtain ⟨⟨⟨m0, m1, m2, m3, m4, m5⟩, _⟩, hbx⟩ := hHeld
  have HBX := hid hbx
  clear hbx C0 D00 D01 D02 D10 D11 n1 n2 h0
  go_wp2_with fail
  go_at_call 8
  refine (CP.out _ HBX.out).mono ?_
  rintro e w3 ⟨a', cap', rfl, HO, HB3⟩
  have HBX3 := hid (bel_next HBX.out HBB.out HB3.out)
  obtain ⟨W4, hW4⟩ : ∃ x, w3.alloc (.cells #[.int .i64 t, .bool kh, .string (bd kh kd), .bool vh, .string (bd vh vd), .slice a' hs.length cap'] 26) = x := ⟨_, rfl⟩
  have hb4 : Below w3.heap.size w3 W4 := by rw [← hW4]; exact (Below.refl _ _).alloc (Nat.le_refl _) _
  have hc4 : W4.heap[w3.heap.size]? = some (.cells #[.int .i64 t, .bool kh, .string (bd kh kd), .bool vh, .string (bd vh vd), .slice a' hs.length cap'] 26 (0, 0)) := by rw [← hW4]; exact heap_new _ _
  have HBX4 := hid (bel_next HBX3.out HBB.out hb4)
  have ha4 := (HBX4.out.block w.heap.size y1).trans H1.out
  obtain ⟨p0, p1, p2, p3, p4, p5⟩ := cells6 ha4
  obtain ⟨q0, q1, q2, q3, q4, q5⟩ := cells6 hc4
  have fz4 := fun o => froz_of (i := o) hc4
  have HO4 := hid (own_apart HO.out (fun g hg => hb4.block g (World.ownsRow.lt HO.out g hg).2))
  have HHC := hid hc4
  have HB34 := hid hb4
  clear m0 m1 m2 m3 m4 m5 ha4 hc4 hb4
  go_wp2_with fail
  go_at_call 9
  refine (clean_any t kh vh kd vd hs a a' cap cap' _ (HG1.out _ HBX4.out) (own_hds HO4.out) (by have := HZ1.out; omega)).mono ?_
  rintro e w5 ⟨rfl, hb5⟩
  have HBX5 := hid (bel_next HBX4.out HBB.out hb5)
  have ha5 := (HBX5.out.block w.heap.size y1).trans H1.out
  have HHC5 := hid ((hb5.block _ (lt_of_heap HHC.out)).trans HHC.out)
  have HO5 := hid (own_apart HO4.out (fun g hg => hb5.block g (World.ownsRow.lt HO4.out g hg).2))
  have HS5 : Hid (w3.heap.size < w5.heap.size) := lt_of_heap HHC5.out
  obtain ⟨p0, p1, p2, p3, p4, p5⟩ := cells6 ha5
  clear p0 p1 p2 p3 p4 p5 q0 q1 q2 q3 q4 q5 fz4 hW4 hb5 HHC HO4 HO
  obtain ⟨p0, p1, p2, p3, p4, p5⟩ := cells6 ha5
  clear ha5
  obtain ⟨W6, hW6⟩ : ∃ x, w5.alloc (.cells #[.int .i64 t, .bool kh, .string kd, .bool vh, .string vd, .slice a hs.length cap] 26) = x := ⟨_, rfl⟩
  have hb6 : Below w5.heap.size w5 W6 := by rw [← hW6]; exact (Below.refl _ _).alloc (Nat.le_refl _) _
  have hn6 : W6.heap[w5.heap.size]? = some (.cells #[.int .i64 t, .bool kh, .string kd, .bool vh, .string vd, .slice a hs.length cap] 26 (0, 0)) := by rw [← hW6]; exact heap_new _ _
  have HBX6 := hid (bel_next HBX5.out HBB.out hb6)
  have HN6 := hid hn6
  have HB56 := hid hb6
  clear hb6 hn6
  go_wp2_with fail
  go_at_call 10
  refine (copied_any [⟨⟨t, kh, kd, vh, vd, hs⟩, a, cap⟩] (some ⟨w5.heap.size, 0, none⟩) 1 _ ⟨?r1, Or.inr ⟨w5.heap.size, 0, rfl, lt_of_heap HN6.out, ?r2⟩⟩ ?r3 ?r4 (by simp)).mono ?_
  case r1 => intro x hx; obtain rfl := List.mem_singleton.1 hx; exact HG1.out _ HBX6.out
  case r2 => intro j hj; have : j = 0 := by { simp at hj; omega }; subst this; exact cells6 HN6.out
  case r3 => intro x hx; obtain rfl := List.mem_singleton.1 hx; exact HNN.out
  case r4 => intro x hx; obtain rfl := List.mem_singleton.1 hx; exact HZ1.out
  rintro e wk ⟨⟨v, l', rfl, hK, hm⟩, hbk⟩
  have HBK := hid (bel_next HBX6.out HBB.out hbk)
  have hs36 : w3.heap.size < W6.heap.size := Nat.lt_of_lt_of_le HS5.out HB56.out.size
  have hob : ∀ g, (Value.slice a' hs.length cap').ownBlock = some g → g < w5.heap.size := fun g hg => (World.ownsRow.lt HO5.out g hg).2
  have hO6 := own_apart HO5.out (fun g hg => HB56.out.block g (hob g hg))
  have HOK := hid (own_apart hO6 (fun g hg => hbk.block g (World.ownsRow.lt hO6 g hg).2))
  have HCK : Hid (wk.heap[w3.heap.size]? = some (.cells #[.int .i64 t, .bool kh, .string (bd kh kd), .bool vh, .string (bd vh vd), .slice a' hs.length cap'] 26 (0, 0))) := (hbk.block _ hs36).trans ((HB56.out.block _ HS5.out).trans HHC5.out)
  have HKD := hid hK
  have HM := hid hm
  have HOL : Hid (∀ g, (Value.slice a' hs.length cap').ownBlock = some g → g < W6.heap.size) := fun g hg => Nat.lt_of_lt_of_le (hob g hg) HB56.out.size
  have HAK := hid ((HBK.out.block w.heap.size y1).trans H1.out)
  have c5 := (cells6 HCK.out).2.2.2.2.2
  obtain ⟨ak, kk, e1, _⟩ := hK.slice
  subst e1
  have hl1 : l'.length = 1 := by have := congrArg List.length hm; simpa using this
  have HL1 := hid hl1
  clear hbk hO6 hob hK hm hs36 p0 p1 p2 p3 p4 p5 hW6 hl1
  go_wp2_with fail
  go_loopg [46] hs.length (fun k i wr => ∃ (p : Nat) (l : List Hdr), p + k = hs.length ∧ i = .int .i64 p ∧ Hid (Wov wk wr (_) a' hs.length cap' l))
  case atStart => exact ⟨0, clh hs, by omega, rfl, ⟨clh_len hs, ownH_of (clh_len hs) HOK.out, ⟨rfl, rfl, rfl, Nat.le_refl _, fun _ _ _ => rfl⟩⟩⟩
  case round =>
    obtain ⟨p, l, hk, rfl, HW⟩ := hrel
    have hne : some w3.heap.size ≠ (Value.slice a' hs.length cap').ownBlock := fun e => own_ne HOK.out HCK.out (by decide) e.symm
    have hcr := (HW.out.gby.block _ (lt_of_heap HCK.out) hne).trans HCK.out
    clear c5
    have c5 := (cells6 hcr).2.2.2.2.2
    clear hcr hne
    by_cases hlt : p < hs.length
    · obtain ⟨k, rfl⟩ : ∃ k, gk = k + 1 := ⟨gk - 1, by omega⟩
      obtain ⟨g, rfl, ⟨v0, v1, v2, x0, x1, x2⟩, fz⟩ := HW.out.at hlt
      have HKp := hid hk
      have HWs := hid (HW.out.seth (p := p) hov)
      have i1 : (0 : Int) ≤ (p : Int) := by omega
      have i2 : (p : Int) < hs.length := by omega
      clear hk HW
      go_wp2_with fail
      go_roundg k
      case measure => omega
      case rel => have hnn := HZ1.out; have ew : wrap64 ((p : Int) + 1) = ((p + 1 : Nat) : Int) := by { unfold wrap64; omega }; exact ⟨p + 1, _, by have := HKp.out; omega, congrArg (Value.int .i64) ew, HWs⟩
    · have i2 : ¬ (p : Int) < hs.length := by omega
      obtain ⟨v9, wz, hap, hgz⟩ := HW.out.zeros HZ1.out
      have HAP := hid hap
      have hKz : Held wz W6.heap.size (.slice ak l'.length kk) l' := HKD.out.kept (fun g hg hg2 => hgz.block g hg (fun e => by
        have h6 : W6.heap.size ≤ g := by
          rcases hg2 with h | ⟨x, hx, h⟩
          · exact (World.ownsRow.lt HKD.out.row g h).1
          · exact (World.ownsRow.lt (HKD.out.hds x hx) g h).1
        have := HOL.out g e.symm
        omega))
      have haz := (hgz.block w.heap.size (lt_of_heap HAK.out) (fun e => own_ne HOK.out HAK.out (by decide) e.symm)).trans HAK.out
      have HBZ := hid (HBK.out.grown hgz (Nat.le_trans HBB.out HBK.out.size) (fun k hk => Nat.le_trans (Nat.le_trans HBB.out HBX.out.size) (World.ownsRow.lt HOK.out k hk).1))
      obtain ⟨ka, kc, bk, ok, eak, hbk, hH2, s0, s1, s2, s3, s4, s5⟩ := one_of hKz HM.out
      subst eak
      rw [HL1.out] at *
      have hH1 := HG1.out _ HBZ.out
      have CC : Hid (∀ z, Below wz.heap.size wz z → Calls Try.prog 11 #[.agg #[.int .i64 t, .bool kh, .string kd, .bool vh, .string vd, .slice a hs.length cap], .agg #[.int .i64 t, .bool kh, .string kd, .bool vh, .string vd, .slice ka hs.length kc]] z fun e w' => e = .returned (.bool true) ∧ Below wz.heap.size wz w') := fun z hx => (lsame_yes t kh vh kd vd hs a ka cap kc z (hH1.belowB (Nat.le_refl _) hx) (hH2.belowB (Nat.le_refl _) hx) (by have := HZ1.out; omega)).mono (fun _ _ h => And.intro h.1 (bel_next hx (Nat.le_refl _) h.2))
      have HSS : Hid (∀ z, Below wz.heap.size wz z → (fun z => ((z.cell? ⟨w.heap.size, 0, none⟩ = some (.int .i64 t) ∧ z.cell? ⟨w.heap.size, 1, none⟩ = some (.bool kh) ∧ z.cell? ⟨w.heap.size, 2, none⟩ = some (.string kd) ∧ z.cell? ⟨w.heap.size, 3, none⟩ = some (.bool vh) ∧ z.cell? ⟨w.heap.size, 4, none⟩ = some (.string vd) ∧ z.cell? ⟨w.heap.size, 5, none⟩ = some (.slice a hs.length cap)) ∧ (z.cell? ⟨bk, ok, none⟩ = some (.int .i64 t) ∧ z.cell? ⟨bk, ok + 1, none⟩ = some (.bool kh) ∧ z.cell? ⟨bk, ok + 2, none⟩ = some (.string kd) ∧ z.cell? ⟨bk, ok + 3, none⟩ = some (.bool vh) ∧ z.cell? ⟨bk, ok + 4, none⟩ = some (.string vd) ∧ z.cell? ⟨bk, ok + 5, none⟩ = some (.slice ka hs.length kc))) ∧ Below wz.heap.size wz z) z) := fun z hx => ⟨⟨cells6 ((hx.block _ (lt_of_heap haz)).trans haz), (hx.cell (p := ⟨bk, ok, none⟩) hbk).trans s0, (hx.cell (p := ⟨bk, ok + 1, none⟩) hbk).trans s1, (hx.cell (p := ⟨bk, ok + 2, none⟩) hbk).trans s2, (hx.cell (p := ⟨bk, ok + 3, none⟩) hbk).trans s3, (hx.cell (p := ⟨bk, ok + 4, none⟩) hbk).trans s4, (hx.cell (p := ⟨bk, ok + 5, none⟩) hbk).trans s5⟩, hx⟩
      have h0 : Below wz.heap.size wz wz := Below.refl _ _
      clear hap hgz hKz haz hH1 hH2 s0 s1 s2 s3 s4 s5 hbk hk HW
      go_wp2_with (at_builtin; refine Lib.wpList_append_run _ rfl _ _ _ _ rfl _ _ rfl rfl _ _ HAP.out ?_)
      go_region_held3 (fun z => ((z.cell? ⟨w.heap.size, 0, none⟩ = some (.int .i64 t) ∧ z.cell? ⟨w.heap.size, 1, none⟩ = some (.bool kh) ∧ z.cell? ⟨w.heap.size, 2, none⟩ = some (.string kd) ∧ z.cell? ⟨w.heap.size, 3, none⟩ = some (.bool vh) ∧ z.cell? ⟨w.heap.size, 4, none⟩ = some (.string vd) ∧ z.cell? ⟨w.heap.size, 5, none⟩ = some (.slice a hs.length cap)) ∧ (z.cell? ⟨bk, ok, none⟩ = some (.int .i64 t) ∧ z.cell? ⟨bk, ok + 1, none⟩ = some (.bool kh) ∧ z.cell? ⟨bk, ok + 2, none⟩ = some (.string kd) ∧ z.cell? ⟨bk, ok + 3, none⟩ = some (.bool vh) ∧ z.cell? ⟨bk, ok + 4, none⟩ = some (.string vd) ∧ z.cell? ⟨bk, ok + 5, none⟩ = some (.slice ka hs.length kc))) ∧ Below wz.heap.size wz z) (first | with_reducible exact HSS.out _ (by assumption) | with_reducible exact HSS.out _ (Below.drew (by assumption))) (first | (go_at_call 11; refine (CC.out _ ?_).mono ?_; (first | assumption | exact Below.drew (by assumption)); rintro e w' ⟨rfl, hbel⟩))
      all_goals
        rename_i hH9
        have HB9 := hid (HBW.out _ (bel_next HBZ.out HBB.out hH9.2))
        clear hH9
        go_wp2_with fail
        go_ret
        exact ⟨rfl, HB9.out⟩
theorem sames_walk2 (r : Rec) (a : Option Addr) (cap : Nat) (r2 : Rec) (a2 : Option Addr) (cap2 : Nat) (w : World) (V1 : Hds w a r.hs) (V2 : Hds w a2 r2.hs) (hz : r.hs.length ≤ 1048576) (hz2 : r2.hs.length ≤ 1048576) (hN : a = none → cap = 0) :
    Calls Try.prog 3 #[.agg #[.int .i64 r.t, .bool r.kh, .string r.kd, .bool r.vh, .string r.vd, .slice a r.hs.length cap], .agg #[.int .i64 r2.t, .bool r2.kh, .string r2.kd, .bool r2.vh, .string r2.vd, .slice a2 r2.hs.length cap2]] w fun e w' => e = .returned (.bool true) ∧ Below w.heap.size w w' := sames_walk r.t r2.t r.kh r.vh r2.kh r2.vh r.kd r.vd r2.kd r2.vd r.hs r2.hs a a2 cap cap2 w V1 V2 hz hz2 hN
end Go.Proofs.Ytoohmbkgdmmghaa
