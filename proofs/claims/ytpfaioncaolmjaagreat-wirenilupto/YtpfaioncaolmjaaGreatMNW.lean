/- Texts of the proof, put together: Wop, Nlw, Nlx, Wow, Wos. -/
import Derived.Test.YtpfaioncaolmjaaGreatMWA
import Derived.Test.YtpfaioncaolmjaaGreatSpl
import Derived.Deep.LoopGhost
import Derived.Test.YtpfaioncaolmjaaGreatMNI
import Derived.ProofKit
import Derived.OpenShut
import Derived.ShutString
import Derived.ChangeOld
import Derived.JoinedCond
import Derived.ChangeSame
import Derived.Deep.Slices
import Derived.Deep.Strs
namespace Go.Proofs.YtpfaioncaolmjaaGreat
open Go.RowKit
/-- The calls of a script, where they lie. -/
def Opq (w : World) (a : Option Addr) (os : List (Nat × Nat × ByteArray)) : Prop := os = [] ∨ ∃ b off, a = some ⟨b, off, none⟩ ∧ b < w.heap.size ∧ ∀ j, j < os.length → w.cell? ⟨b, off + j * 3, none⟩ = some (.int .u8 (os.getD j (0, 0, ByteArray.empty)).1) ∧ w.cell? ⟨b, off + j * 3 + 1, none⟩ = some (.int .u64 (os.getD j (0, 0, ByteArray.empty)).2.1) ∧ w.cell? ⟨b, off + j * 3 + 2, none⟩ = some (.string (os.getD j (0, 0, ByteArray.empty)).2.2)
theorem opq_mem {os : List (Nat × Nat × ByteArray)} {k : Nat} (h : k < os.length) : os.getD k (0, 0, ByteArray.empty) ∈ os := by
  simp [List.getD_eq_getElem?_getD, h]
theorem WW.alloc {p q B : Nat} {l : List Nat} {w : World} (h : WW p q B l w) (o : Obj) : WW p q B l (w.alloc o) := ⟨h.a.alloc o, heap_alloc_at h.x, h.ne, h.lt⟩
theorem ww_new (w : World) : WW w.heap.size (w.heap.size + 1) (w.heap.size + 2) [] ((w.alloc (.cells #[.int .i64 0, .slice none 0 0] 52)).alloc (.cells #[.string ⟨#[]⟩] 70)) :=
  ⟨wr_new (heap_alloc_at (heap_new w _)) (by omega) (by simp), heap_new' _ _ _ (by simp), by omega, by omega⟩
end Go.Proofs.YtpfaioncaolmjaaGreat
namespace Go.Proofs.YtpfaioncaolmjaaGreat
open Go.RowKit
theorem ww_new4 (w : World) : WW w.heap.size (w.heap.size + 1) (w.heap.size + 4) [] ((((w.alloc (.cells #[.int .i64 0, .slice none 0 0] 52)).alloc (.cells #[.string ⟨#[]⟩] 70)).alloc (.cells #[.int .i64 0, .string ⟨#[]⟩, .int .i64 0] 56)).alloc (.cells #[.string ⟨#[]⟩, .int .i64 0, .int .i64 0] 98)) :=
  ⟨wr_new (heap_alloc_at (heap_alloc_at (heap_alloc_at (heap_new _ _)))) (by omega) (by simp), heap_alloc_at (heap_alloc_at (heap_new' _ _ _ (by simp))), by omega, by omega⟩
/-- The zero writer and the document's, the zero reader and the document's; nothing that was there has turned. -/
structure N4 (W : World) (H : Nat) (l : List Nat) (e : Nat) (w : World) : Prop where
  a : WW H (H + 1) (H + 4) l w
  r : Rd w (H + 2) ⟨#[]⟩ 0 e
  x : RX w (H + 3) ⟨#[]⟩ 0 e
  b : Below W.heap.size W w
  h : W.heap.size ≤ H
theorem WW.ch {S : Nat → Prop} {p q B : Nat} {l : List Nat} {w w' : World} (h : WW p q B l w) (hc : Ch S w w') (h1 : ¬ S p) (h2 : ¬ S q) (h3 : ∀ i, B ≤ i → ¬ S i) : WW p q B l w' :=
  ⟨h.a.ch hc h1 h3, (hc.block q h.x.lt h2).trans h.x, h.ne, h.lt⟩
theorem N4.size {W : World} {H : Nat} {l : List Nat} {e : Nat} {w : World} (h : N4 W H l e w) : H + 4 ≤ w.heap.size := by
  obtain ⟨_, _, _, _, _, _, _, h2, _⟩ := h.a.a
  exact h2
theorem N4.wsize {W : World} {H : Nat} {l : List Nat} {e : Nat} {w : World} (h : N4 W H l e w) : W.heap.size ≤ w.heap.size := h.b.size
theorem N4.bel {W : World} {H : Nat} {l : List Nat} {e : Nat} {w w' : World} (h : N4 W H l e w) (k : Below w.heap.size w w') : N4 W H l e w' :=
  ⟨h.a.ch (Ch.of_below (S := fun _ => False) k) (fun h => h) (fun h => h) (fun _ _ h => h), (k.block _ h.r.lt).trans h.r, (k.block _ h.x.lt).trans h.x, h.b.trans (k.mono h.wsize), h.h⟩
theorem N4.alloc {W : World} {H : Nat} {l : List Nat} {e : Nat} {w : World} (h : N4 W H l e w) (o : Obj) : N4 W H l e (w.alloc o) := h.bel ((Below.refl _ _).alloc (Nat.le_refl _) o)
theorem N4.drewN {W : World} {H : Nat} {l : List Nat} {e : Nat} {w : World} (h : N4 W H l e w) (n : Nat) : N4 W H l e (w.drewN n) := h.bel ⟨rfl, rfl, rfl, Nat.le_refl _, fun _ _ => rfl⟩
theorem N4.write {W : World} {H : Nat} {l l' : List Nat} {e : Nat} {w w' : World} (h : N4 W H l e w) (k : WW H (H + 1) (H + 4) l' w') (o : Old H (H + 1) (H + 4) w w') : N4 W H l' e w' :=
  ⟨k, h.r.ch o.base (by omega), h.x.ch o.base (by omega), h.b.trans (o.bel _ h.h (by have := h.h; omega) (by have := h.h; omega) h.wsize), h.h⟩
theorem N4.read {W : World} {H : Nat} {l : List Nat} {e : Nat} {w w' : World} {r : Ending} (h : N4 W H l e w) (k : Both (H + 2) (H + 3) ⟨#[]⟩ w r w') : r = .returned (.bool true) ∧ ∃ e', N4 W H l e' w' := by
  obtain ⟨hr, k', e', hk, h1, h2, h3⟩ := k
  obtain rfl : k' = 0 := Nat.le_zero.1 hk
  have := h.h
  exact ⟨hr, e', h.a.ch h3 (by omega) (by omega) (fun i hi hs => by omega), h1, h2, h.b.trans (h3.below h.wsize (fun i hi hs => by omega)), h.h⟩
theorem N4.ox {W : World} {H : Nat} {l : List Nat} {e : Nat} {w w' : World} (h : N4 W H l e w) (o : Obj) (k : OldX w.heap.size (w.alloc o) w') : N4 W H l e w' :=
  h.bel (((Below.refl w.heap.size w).alloc (Nat.le_refl _) o).trans (k _ (Nat.le_refl _) (by simp)))
theorem n4_new {W w : World} (hb : Below W.heap.size W w) : N4 W w.heap.size [] 0 ((((w.alloc (.cells #[.int .i64 0, .slice none 0 0] 52)).alloc (.cells #[.string ⟨#[]⟩] 70)).alloc (.cells #[.int .i64 0, .string ⟨#[]⟩, .int .i64 0] 56)).alloc (.cells #[.string ⟨#[]⟩, .int .i64 0, .int .i64 0] 98)) :=
  ⟨ww_new4 w, heap_alloc_at (heap_new' _ _ _ (by simp)), heap_new' _ _ _ (by simp), (((hb.alloc hb.size _).alloc (by have := hb.size; simp; omega) _).alloc (by have := hb.size; simp; omega) _).alloc (by have := hb.size; simp; omega) _, hb.size⟩
end Go.Proofs.YtpfaioncaolmjaaGreat
namespace Go.Proofs.YtpfaioncaolmjaaGreat
open Go.RowKit
theorem nilwBytes_e (w : World) :
    Calls Tryz.prog 10 #[.pointer none] w fun e w' => e = .returned (.string ⟨#[]⟩) ∧ Below w.heap.size w w' := nilwBytes_any w
theorem xnew_e (w : World) :
    Calls Tryz.prog 19 #[.string ⟨#[]⟩] w fun e w' => e = .returned (.pointer (some ⟨w.heap.size, 0, none⟩)) ∧ Below w.heap.size w w' ∧ RX w' w.heap.size ⟨#[]⟩ 0 0 := by
  refine (xnew_any _ _).mono ?_
  rintro e w' ⟨rfl, rfl⟩
  exact ⟨rfl, (Below.refl _ _).alloc (Nat.le_refl _) _, heap_new _ _⟩
set_option maxHeartbeats 8000000 in
set_option maxRecDepth 20000 in
theorem nil_walk (a : Option Addr) (cap : Nat) (os : List (Nat × Nat × ByteArray)) (w : World) (hl : os.length ≤ 1048576) (hcap : os.length ≤ cap) (hz : ∀ o ∈ os, o.1 < 256 ∧ o.2.1 < 18446744073709551616 ∧ o.2.2.size ≤ 1048576) (V : Opq w a os) :
    Calls Tryz.prog 4 #[.slice a os.length cap] w fun e w' => e = .returned (.bool true) ∧ Below w.heap.size w w' := by
  have HV := hid V
  have HZ := hid hz
  clear V hz
  go_enter Tryz.func4, Tryz.ntmps4
  go_wp2_with fail
  refine (spells_any w).mono ?_
  rintro e w1 ⟨rfl, hb1⟩
  go_wp2_with fail
  refine (xnewwriter_any _).mono ?_
  rintro e w3 ⟨rfl, rfl⟩
  go_wp2_with fail
  refine (xnew_any _ _).mono ?_
  rintro e w3 ⟨rfl, rfl⟩
  have HN := hid (n4_new hb1)
  obtain ⟨H, hH⟩ : ∃ H, H = w1.heap.size := ⟨_, rfl⟩
  rw [← hH] at HN
  generalize (((w1.alloc (.cells #[.int .i64 0, .slice none 0 0] 52)).alloc (.cells #[.string ⟨#[]⟩] 70)).alloc (.cells #[.int .i64 0, .string ⟨#[]⟩, .int .i64 0] 56)).alloc (.cells #[.string ⟨#[]⟩, .int .i64 0, .int .i64 0] 98) = w3 at *
  rw [show w1.heap.size = H from hH.symm]
  go_wp2_with fail
  rw [show w1.heap.size = H from hH.symm]
  clear hb1 hH
  go_loopg [21] os.length (fun k i wr => ∃ (j : Nat) (l : List Nat) (e : Nat), j + k = os.length ∧ i = .int .i64 j ∧ Hid (l.length ≤ j * 1048596) ∧ Hid (N4 w H l e wr))
  case atStart => exact ⟨0, [], 0, by omega, rfl, Nat.zero_le _, HN⟩
  case round =>
    clear HN
    obtain ⟨j, l, e, hk, rfl, hll, HN⟩ := hrel
    by_cases hlt : j < os.length
    · obtain ⟨k, rfl⟩ : ∃ k, gk = k + 1 := ⟨gk - 1, by omega⟩
      rcases HV.out with rfl | ⟨b, off, rfl, hbl, hc⟩
      · simp at hlt
      obtain ⟨q0, q1, q2⟩ := hc j hlt
      have hK := HZ.out _ (opq_mem hlt)
      have hj : j * 1048596 ≤ 1048576 * 1048596 := Nat.mul_le_mul_right _ (by omega)
      obtain ⟨l', hl', hw'⟩ : ∃ l' : List Nat, l'.length ≤ (j + 1) * 1048596 ∧ ∀ p q B w, WW p q B l w → Calls Tryz.prog 9 #[.pointer (some ⟨p, 0, none⟩), .pointer (some ⟨q, 0, none⟩), .agg #[.int .u8 (os.getD j (0, 0, ByteArray.empty)).1, .int .u64 (os.getD j (0, 0, ByteArray.empty)).2.1, .string (os.getD j (0, 0, ByteArray.empty)).2.2]] w fun e w' => e = .returned (.bool true) ∧ WW p q B l' w' ∧ Old p q B w w' := by
        have hll := hll.out
        obtain ⟨l', e1, e2⟩ := write_any _ _ _ l hK.1 hK.2.1 (by omega) (Nat.le_trans hK.2.2 (by omega))
        exact ⟨l', by have := hK.2.2; omega, e2⟩
      generalize os.getD j (0, 0, ByteArray.empty) = o at *
      obtain ⟨Kd, N, S⟩ := o
      simp only at q0 q1 q2 hw' hK
      have hb := HN.out.b
      have k0 := (hb.cell (p := ⟨b, off + j * 3, none⟩) hbl).trans q0
      have k1 := (hb.cell (p := ⟨b, off + j * 3 + 1, none⟩) hbl).trans q1
      have k2 := (hb.cell (p := ⟨b, off + j * 3 + 2, none⟩) hbl).trans q2
      have HNA := hid (HN.out.alloc (.cells #[.int .u8 Kd, .int .u64 N, .string S] 32))
      have CR := hid (hw' _ _ _ _ HNA.out.a)
      have HKB := hid hK
      have HLL := hid hl'
      have HL := hid hl
      clear hc q0 q1 q2 hw' hl' hj hl hK hb
      go_wp2_with fail
      refine CR.out.mono ?_
      rintro r w4 ⟨rfl, h4, o4⟩
      have HN4 := hid (HNA.out.write h4 o4)
      have HBX : Hid (w4.heap[wr.heap.size]? = some (.cells #[.int .u8 Kd, .int .u64 N, .string S] 32 (0, 0))) := o4.box (heap_new wr _) (by have := HN.out.size; omega) (by have := HN.out.size; omega) (by decide)
      have C1 := hid (wbytes_any H (H + 4) l' w4 h4.a)
      have C2 := hid (xwbytes_any (H + 1) (bs l') w4 h4.x)
      have C3 := hid (readop_any (H + 2) (H + 3) ⟨#[]⟩ 0 e Kd N S w4 HN4.out.r HN4.out.x (by omega) (Nat.zero_le _) nil_sz HKB.out.1)
      clear h4 o4 CR
      have HHS := hid HN.out.size
      obtain ⟨x0, x1, x2⟩ := cells3w HBX.out
      go_wp2_with fail
      refine C1.out.mono ?_
      rintro r w5 ⟨rfl, rfl⟩
      go_wp2_with fail
      refine C2.out.mono ?_
      rintro r w5 ⟨rfl, rfl⟩
      go_wp2_with fail
      refine C3.out.mono ?_
      rintro r w5 hb5
      have HC5 := hid hb5.2.choose_spec.choose_spec.2.2.2
      obtain ⟨rfl, e5, hn5⟩ := HN4.out.read hb5
      have HN5 := hid hn5
      have HBX5 : Hid (w5.heap[wr.heap.size]? = some (.cells #[.int .u8 Kd, .int .u64 N, .string S] 32 (0, 0))) := (HC5.out.block _ (lt_of_heap HBX.out) (by have := HHS.out; omega)).trans HBX.out
      clear hb5 hn5 HC5 x0 x1 x2 C1 C2 C3
      obtain ⟨x0, x1, x2⟩ := cells3w HBX5.out
      go_wp2_with fail
      refine (rerr_any (H + 2) _ 0 e5 _ HN5.out.r).mono ?_
      rintro r w6 ⟨rfl, rfl⟩
      go_wp2_with fail
      refine (xerr_any (H + 3) _ 0 e5 _ HN5.out.x).mono ?_
      rintro r w6 ⟨rfl, rfl⟩
      go_wp2_with fail
      refine (rleft_any (H + 2) _ 0 e5 _ HN5.out.r (Nat.zero_le _) nil_sz).mono ?_
      rintro r w6 ⟨rfl, m1, rfl⟩
      go_wp2_with fail
      have HN7 := hid (HN5.out.drewN m1)
      have HBX7 : Hid ((w6.drewN m1).heap[wr.heap.size]? = some (.cells #[.int .u8 Kd, .int .u64 N, .string S] 32 (0, 0))) := HBX5.out
      clear HN5 HBX5 x0 x1 x2 HN4 HBX HN HNA
      generalize w6.drewN m1 = W at *
      obtain ⟨x0, x1, x2⟩ := cells3w HBX7.out
      have NW := hid (nwrite_any W.heap.size (Kd % 12) N S [] (W.drew.alloc (.cells #[.string ⟨#[]⟩] 70)) (heap_new _ _) (Nat.mod_lt _ (by omega)) HKB.out.2.1 (by simp) (Nat.le_trans HKB.out.2.2 (by omega)))
      have KB : Hid (∀ w9, OldX W.heap.size (W.drew.alloc (.cells #[.string ⟨#[]⟩] 70)) w9 → N4 w H l' e5 w9 ∧ w9.heap[wr.heap.size]? = some (.cells #[.int .u8 Kd, .int .u64 N, .string S] 32 (0, 0))) := fun w9 o9 =>
        have hbl : Below W.heap.size W w9 := ((Below.refl W.heap.size W).drew.alloc (Nat.le_refl _) _).trans (o9 _ (Nat.le_refl _) (by simp))
        ⟨HN7.out.bel hbl, (hbl.block _ (lt_of_heap HBX7.out)).trans HBX7.out⟩
      go_region_held3 (fun z => z.cell? ⟨wr.heap.size, 0, none⟩ = some (.int .u8 Kd) ∧ z.cell? ⟨wr.heap.size, 1, none⟩ = some (.int .u64 N) ∧ z.cell? ⟨wr.heap.size, 2, none⟩ = some (.string S)) ((first | assumption | go_keep)) ((first | (go_at_call 8; refine (xnewwriter_any _).mono ?_; rintro e w8 ⟨rfl, rfl⟩) | (go_at_call 9; refine NW.out.mono ?_; rintro e w9 ⟨rfl, o9⟩; obtain ⟨n9, b9⟩ := KB.out w9 o9; obtain ⟨y0, y1, y2⟩ := cells3w b9)))
      have HN9 := hid n9
      have HBX9 := hid b9
      clear n9 b9 o9 KB NW HN7 HBX7 x0 x1 x2
      go_wp2_with fail
      generalize w9 = W at *
      have HBz := hid (Below.refl W.heap.size W).drew
      have KC : Hid (∀ z, Below W.heap.size W z → z.cell? ⟨wr.heap.size, 0, none⟩ = some (.int .u8 Kd) ∧ z.cell? ⟨wr.heap.size, 1, none⟩ = some (.int .u64 N) ∧ z.cell? ⟨wr.heap.size, 2, none⟩ = some (.string S)) := fun z hz => cells3w ((hz.block _ (lt_of_heap HBX9.out)).trans HBX9.out)
      go_region_held3 (fun z => z.cell? ⟨wr.heap.size, 0, none⟩ = some (.int .u8 Kd) ∧ z.cell? ⟨wr.heap.size, 1, none⟩ = some (.int .u64 N) ∧ z.cell? ⟨wr.heap.size, 2, none⟩ = some (.string S)) ((first | assumption | go_keep)) ((first | (go_at_call 23; refine (nilwAt_any _).mono ?_; rintro e wz ⟨rfl, bz⟩; have HBz := hid (HBz.out.trans (bz.mono HBz.out.size)); (try have HXz := hid (HXz.out.below bz HXz.out.lt)); obtain ⟨y0, y1, y2⟩ := KC.out _ HBz.out) | (go_at_call 10; refine (nilwBytes_e _).mono ?_; rintro e wz ⟨rfl, bz⟩; have HBz := hid (HBz.out.trans (bz.mono HBz.out.size)); (try have HXz := hid (HXz.out.below bz HXz.out.lt)); obtain ⟨y0, y1, y2⟩ := KC.out _ HBz.out) | (go_at_call 24; refine (nilwPut_any _).mono ?_; rintro e wz ⟨rfl, bz⟩; have HBz := hid (HBz.out.trans (bz.mono HBz.out.size)); (try have HXz := hid (HXz.out.below bz HXz.out.lt)); obtain ⟨y0, y1, y2⟩ := KC.out _ HBz.out) | (go_at_call 19; refine (xnew_e _).mono ?_; rintro e wz ⟨rfl, bz, xz⟩; have HQz := hid HBz.out.size; have HBz := hid (HBz.out.trans (bz.mono HBz.out.size)); have HXz := hid xz; obtain ⟨y0, y1, y2⟩ := KC.out _ HBz.out) | (go_at_call 21; refine (nreadop_any _ Kd N S _ HXz.out HKB.out.1).mono ?_; rintro e wz ⟨rfl, oz⟩; have HBz := hid (HBz.out.trans (oz _ HQz.out HBz.out.size)); clear HXz; obtain ⟨y0, y1, y2⟩ := KC.out _ HBz.out) | (go_at_call 16; refine (nilErr_any _).mono ?_; rintro e wz ⟨rfl, bz⟩; have HBz := hid (HBz.out.trans (bz.mono HBz.out.size)); (try have HXz := hid (HXz.out.below bz HXz.out.lt)); obtain ⟨y0, y1, y2⟩ := KC.out _ HBz.out) | (go_at_call 15; refine (nilAt_any _).mono ?_; rintro e wz ⟨rfl, bz⟩; have HBz := hid (HBz.out.trans (bz.mono HBz.out.size)); (try have HXz := hid (HXz.out.below bz HXz.out.lt)); obtain ⟨y0, y1, y2⟩ := KC.out _ HBz.out) | (go_at_call 14; refine (nilLeft_any _).mono ?_; rintro e wz ⟨rfl, bz⟩; have HBz := hid (HBz.out.trans (bz.mono HBz.out.size)); (try have HXz := hid (HXz.out.below bz HXz.out.lt)); obtain ⟨y0, y1, y2⟩ := KC.out _ HBz.out) | (go_at_call 13; refine (nilDone_any _).mono ?_; rintro e wz ⟨rfl, bz⟩; have HBz := hid (HBz.out.trans (bz.mono HBz.out.size)); (try have HXz := hid (HXz.out.below bz HXz.out.lt)); obtain ⟨y0, y1, y2⟩ := KC.out _ HBz.out)))
      have HNe := hid (HN9.out.bel HBz.out)
      clear HBz HN9 HBX9 KC
      go_wp2_with fail
      go_roundg k
      case measure => omega
      case rel =>
        have hl := HL.out
        exact ⟨j + 1, l', e5, by omega, (by refine congrArg _ ?_; rw [Go.IntWalk.wrap64_in _ (by omega)]; omega), HLL.out, HNe⟩
    · go_wp2_with fail
      go_ret
      exact ⟨rfl, HN.out.b⟩
end Go.Proofs.YtpfaioncaolmjaaGreat
namespace Go.Proofs.YtpfaioncaolmjaaGreat
open Go.RowKit
/-- What the first call makes of nothing. -/
theorem first_any (os : List (Nat × Nat × ByteArray)) (hz : ∀ o ∈ os, o.1 < 256 ∧ o.2.1 < 18446744073709551616 ∧ o.2.2.size ≤ 1048576) :
    ∃ l1 : List Nat, l1.length ≤ 1048596 ∧ (0 < os.length → ∀ p q B w, WW p q B [] w → Calls Tryz.prog 9 #[.pointer (some ⟨p, 0, none⟩), .pointer (some ⟨q, 0, none⟩), .agg #[.int .u8 (os.getD 0 (0, 0, ByteArray.empty)).1, .int .u64 (os.getD 0 (0, 0, ByteArray.empty)).2.1, .string (os.getD 0 (0, 0, ByteArray.empty)).2.2]] w fun e w' => e = .returned (.bool true) ∧ WW p q B l1 w' ∧ Old p q B w w') := by
  by_cases h : 0 < os.length
  · obtain ⟨h1, h2, h3⟩ := hz _ (opq_mem h)
    obtain ⟨l', hl', hw⟩ := write_any _ _ _ [] h1 h2 (Nat.zero_le _) (Nat.le_trans h3 (by omega))
    exact ⟨l', by rw [List.length_nil] at hl'; omega, fun _ => hw⟩
  · exact ⟨[], by simp, fun h' => absurd h' h⟩
end Go.Proofs.YtpfaioncaolmjaaGreat
namespace Go.Proofs.YtpfaioncaolmjaaGreat
open Go.ChangeShapes Go.WideShapes Go.ChangeAt Go.RowKit Go.Deep
theorem sum_leo {H : Type} (f : Nat → Nat × Nat × ByteArray) (D : Nat → DataW H) : ∀ (l : List Nat), (∀ i ∈ l, (f i).2.2.size + 1 ≤ Rows.uptoBulk (D i)) → l.length ≤ Rows.uptoBulkAll (l.map D) ∧ ∀ i ∈ l, (f i).2.2.size ≤ Rows.uptoBulkAll (l.map D)
  | [], _ => by simp [Rows.uptoBulkAll]
  | i :: l, h => by
    have ih := sum_leo f D l (fun j hj => h j (List.mem_cons_of_mem _ hj))
    have h0 := h i (List.mem_cons_self ..)
    simp only [List.map_cons, Rows.uptoBulkAll, List.length_cons]
    refine ⟨by have := ih.1; omega, fun j hj => ?_⟩
    rcases List.mem_cons.1 hj with rfl | hj
    · omega
    · have := ih.2 j hj
      omega
theorem open_opw {H : Type} {enc : TypeId × Value → H} {W : World} {a : Option Addr} {len cap : Nat} {d : DataW H} {p : List MemPlace} {ST ET T0 T1 TS : TypeId} {f0 f1 f2 : Field}
    (hST : Tryz.prog.underlying ST = some (.slice ET)) (hET : Tryz.prog.underlying ET = some (.struct #[f0, f1, f2])) (hT0 : Tryz.prog.underlying T0 = some (.int .u8)) (hT1 : Tryz.prog.underlying T1 = some (.int .u64)) (hTS : Tryz.prog.underlying TS = some .string)
    (t0 : f0.type = T0) (o0 : f0.offset = 0) (t1 : f1.type = T1) (o1 : f1.offset = 1) (t2 : f2.type = TS) (o2 : f2.offset = 2)
    (hc3 : Tryz.prog.cellsOf ET = 3) (hc0 : Tryz.prog.cellsOf T0 = 1) (hc1 : Tryz.prog.cellsOf T1 = 1) (hcs : Tryz.prog.cellsOf TS = 1)
    (h : DataW.Trod enc Tryz.prog W 0 (fun _ => true) true ST (.slice a len cap) d p) : ∃ os : List (Nat × Nat × ByteArray), os.length = len ∧ Opq W a os ∧ len ≤ cap ∧ os.length ≤ Rows.uptoBulk d ∧ (∀ o ∈ os, o.1 < 256 ∧ o.2.1 < 18446744073709551616 ∧ o.2.2.size ≤ Rows.uptoBulk d) := by
  obtain ⟨fuel, hf⟩ := h
  rcases open_slice hST hf with ⟨hcs', hx⟩ | ⟨x, l, c, m, n, D, Pl, hcs', _, hl, hm, hmm, hx, hel⟩
  · simp [Value.cells] at hcs'
    obtain ⟨rfl, rfl, rfl⟩ := hcs'
    exact ⟨[], rfl, Or.inl rfl, Nat.le_refl _, Nat.zero_le _, by simp⟩
  · simp [Value.cells] at hcs'
    obtain ⟨rfl, rfl, rfl⟩ := hcs'
    simp only [if_true] at hmm
    simp only [Prod.mk.injEq] at hx
    obtain ⟨hd, _⟩ := hx
    have each : ∀ i, i < len → ∃ o : Nat × Nat × ByteArray, W.cell? ((x.add (i * 3)).add 0) = some (.int .u8 (o.1 : Nat)) ∧ W.cell? ((x.add (i * 3)).add 1) = some (.int .u64 (o.2.1 : Nat)) ∧ W.cell? ((x.add (i * 3)).add 2) = some (.string o.2.2) ∧ (o.1 < 256 ∧ o.2.1 < 18446744073709551616) ∧ o.2.2.size + 1 ≤ Rows.uptoBulk (D i) := by
      intro i hi
      obtain ⟨cs', e1, e2⟩ := hel i (by omega)
      rw [hc3] at e1
      obtain ⟨y0, y1, y2, n', hy, hlen, k0, k1, k2⟩ := trod_struct3 hET e2
      rw [t0, o0, hc0] at k0
      rw [t1, o1, hc1] at k1
      rw [t2, o2, hcs] at k2
      obtain ⟨z, q0, r0, wf0⟩ := DataW.trod_int hT0 k0
      obtain ⟨z1, q1, r1, wf1⟩ := DataW.trod_int hT1 k1
      obtain ⟨s, q2, r2, _⟩ := DataW.trod_string hTS k2
      have hb0 := bounds_u8 wf0
      have hb1 := bounds_u64 wf1
      obtain ⟨Z, rfl⟩ := Int.eq_ofNat_of_zero_le hb0.1
      obtain ⟨Z1, rfl⟩ := Int.eq_ofNat_of_zero_le hb1.1
      rw [hc3] at hlen
      match cs', hlen with
      | [u, v, v2], _ =>
        simp at q0 q1 q2
        have g := (World.cells?_some e1)
        refine ⟨(Z, Z1, s), ?_, ?_, ?_, ⟨by show Z < 256; have := hb0.2; omega, by show Z1 < 18446744073709551616; have := hb1.2; omega⟩, ?_⟩
        · rw [g.2.2 0 (by omega)]; simp [q0]
        · rw [g.2.2 1 (by omega)]; simp [q1]
        · rw [g.2.2 2 (by omega)]; simp [q2]
        · have hD : D i = .agg [y0.1, y1.1, y2.1] := congrArg Prod.fst hy
          rw [hD, r0, r1, r2]
          simp [Rows.uptoBulk, Rows.uptoBulkAll]
          omega
    obtain ⟨f, hf⟩ := choose_lt each
    have hsum := sum_leo f D (List.range len) (fun i hi => (hf i (by simpa using hi)).2.2.2.2)
    rw [List.length_range] at hsum
    refine ⟨(List.range len).map f, by simp, ?_, by omega, ?_, ?_⟩
    · by_cases h0 : len = 0
      · left; subst h0; rfl
      · right
        obtain ⟨b, off, spot⟩ := x
        have h00 := (hf 0 (by omega)).1
        have hspot : spot = none := by simpa [Addr.add] using World.cell?_spot h00
        subst hspot
        have hlt := World.block_lt_of_cell? _ _ h00
        refine ⟨b, off, rfl, by simpa [Addr.add] using hlt, fun j hj => ?_⟩
        have hj' : j < len := by simpa using hj
        obtain ⟨k0, k1, k2, _⟩ := hf j hj'
        rw [Go.WideShapes.add_plain, Go.WideShapes.add_plain] at k0 k1 k2
        have eg : ((List.range len).map f).getD j (0, 0, ByteArray.empty) = f j := by
          rw [List.getD_eq_getElem?_getD, List.getElem?_map, List.getElem?_range hj']
          rfl
        rw [eg]
        exact ⟨by simpa using k0, k1, k2⟩
    · rw [hd]
      simp only [Rows.uptoBulk, List.length_map, List.length_range]
      have := hsum.1
      omega
    · intro o ho
      simp only [List.mem_map, List.mem_range] at ho
      obtain ⟨i, hi, rfl⟩ := ho
      refine ⟨(hf i hi).2.2.2.1.1, (hf i hi).2.2.2.1.2, ?_⟩
      rw [hd]
      have := hsum.2 i (by simpa using hi)
      simp only [Rows.uptoBulk]
      omega
end Go.Proofs.YtpfaioncaolmjaaGreat
