/- What Read answers, of whatever bytes; nothing that was there before is turned. -/
import Derived.Test.YtihokphamgkkcaaGreatRdr4
namespace Go.Proofs.YtihokphamgkkcaaGreat
open Go.RowKit
def rd5 (s : ByteArray) (first n : Int) : Except Nat (Rec × Nat) := if ¬ (0 ≤ n ∧ n < 65536) then .error 1 else nxt s 0 first n.toNat
def ReadPost (R : Except Nat (Rec × Nat)) (w : World) (r : Ending) (w' : World) : Prop :=
  Below w.heap.size w w' ∧ match R with
    | .error x => r = .returned (.tuple #[noRec, .int .i64 0, .int .i64 x]) ∧ x ≠ 0
    | .ok y => ∃ a cap, r = .returned (.tuple #[recV y.1 a cap, .int .i64 y.2, .int .i64 0]) ∧ OwnH w' w.heap.size (.slice a y.1.hs.length cap) y.1.hs
theorem newrd_any (s : ByteArray) (w : World) :
    Calls Tryz.prog 75 #[.string s] w fun e w' => e = .returned (.pointer (some ⟨w.heap.size + 1, 0, none⟩)) ∧ w' = (w.alloc (.cells #[.int .i64 0, .string s, .int .i64 0] 172)).alloc (.cells #[.pointer (some ⟨w.heap.size, 0, none⟩), .int .i64 0] 119) := by
  have C := hid (newreader_any s w)
  go_enter Tryz.func75, Tryz.ntmps75
  go_wp2_with (go_at_call 102; refine C.out.mono ?_; rintro e w' ⟨rfl, rfl⟩)
  go_ret
  exact ⟨rfl, rfl⟩
theorem cells7 {x : World} {Q q : Nat} {T U : TypeId} {v0 v1 v2 v3 v4 v5 u0 u1 : Value} (h : x.heap[Q]? = some (.cells #[v0, v1, v2, v3, v4, v5] T (0, 0))) (k : x.heap[q]? = some (.cells #[u0, u1] U (0, 0))) :
    (x.cell? ⟨Q, 0, none⟩ = some v0 ∧ x.cell? ⟨Q, 1, none⟩ = some v1 ∧ x.cell? ⟨Q, 2, none⟩ = some v2 ∧ x.cell? ⟨Q, 3, none⟩ = some v3 ∧ x.cell? ⟨Q, 4, none⟩ = some v4 ∧ x.cell? ⟨Q, 5, none⟩ = some v5) ∧ x.cell? ⟨q, 0, none⟩ = some u0 := ⟨cells6 h, (cell_of k).trans rfl⟩
theorem drew_heap_eq (x : World) (A : Nat) : x.drew.heap[A]? = x.heap[A]? := rfl
theorem store6_eqd {x : World} {A R : Nat} {v0 v1 v2 v3 v4 v5 : Value} (hne : A ≠ R) :
    (((((((x.setCell ⟨R, 0, none⟩ v0).setCell ⟨R, 1, none⟩ v1).setCell ⟨R, 2, none⟩ v2).setCell ⟨R, 3, none⟩ v3).setCell ⟨R, 4, none⟩ v4).setCell ⟨R, 5, none⟩ v5).drew).heap[A]? = x.heap[A]? := (drew_heap_eq _ _).trans (store6_eq hne)
theorem store6_bel {w x : World} {R : Nat} {v0 v1 v2 v3 v4 v5 : Value} (h : Below R w x) :
    Below R w ((((((x.setCell ⟨R, 0, none⟩ v0).setCell ⟨R, 1, none⟩ v1).setCell ⟨R, 2, none⟩ v2).setCell ⟨R, 3, none⟩ v3).setCell ⟨R, 4, none⟩ v4).setCell ⟨R, 5, none⟩ v5) :=
  (((((h.setCell (Nat.le_refl _) _).setCell (Nat.le_refl _) _).setCell (Nat.le_refl _) _).setCell (Nat.le_refl _) _).setCell (Nat.le_refl _) _).setCell (Nat.le_refl _) _
set_option maxHeartbeats 1000000 in
set_option maxRecDepth 20000 in
theorem read5_any (s : ByteArray) (first n : Int) (w : World) (hs : s.size ≤ 9223372036854775807) (hf : I64 first) :
    Calls Tryz.prog 109 #[.string s, .int .i64 first, .int .i64 n] w (ReadPost (rd5 s first n) w) := by
  by_cases hn : 0 ≤ n ∧ n < 65536
  · obtain ⟨N, rfl⟩ : ∃ N : Nat, n = (N : Int) := ⟨n.toNat, by omega⟩
    have e5 : rd5 s first N = nxt s 0 first N := by unfold rd5; rw [if_neg (by simpa using hn), Int.toNat_natCast]
    rw [e5]
    have CI := hid (fun w => isnum_yes N w hn)
    have CN := hid (fun q pb x h hr hq => next_any q pb s 0 first N x h hr hq (Nat.zero_le _) hs hf (by omega))
    clear e5 hs
    go_enter Tryz.func109, Tryz.ntmps109
    go_wp2_with (go_at_call 149; refine (CI.out _).mono ?_; rintro e w' ⟨rfl, rfl⟩)
    refine (newrd_any s _).mono ?_
    rintro r w1 ⟨rfl, rfl⟩
    have hR : (((w.alloc (.cells #[.int .i64 0, .bool false, .string ⟨#[]⟩, .bool false, .string ⟨#[]⟩, .slice none 0 0] 49)).alloc (.cells #[.int .i64 0, .string s, .int .i64 0] 172)).alloc (.cells #[.pointer (some ⟨(w.alloc (.cells #[.int .i64 0, .bool false, .string ⟨#[]⟩, .bool false, .string ⟨#[]⟩, .slice none 0 0] 49)).heap.size, 0, none⟩), .int .i64 0] 119)).heap[w.heap.size]? = some (.cells #[.int .i64 0, .bool false, .string ⟨#[]⟩, .bool false, .string ⟨#[]⟩, .slice none 0 0] 49 (0, 0)) := heap_alloc_at (heap_alloc_at (heap_new _ _))
    have hb : Below w.heap.size w (((w.alloc (.cells #[.int .i64 0, .bool false, .string ⟨#[]⟩, .bool false, .string ⟨#[]⟩, .slice none 0 0] 49)).alloc (.cells #[.int .i64 0, .string s, .int .i64 0] 172)).alloc (.cells #[.pointer (some ⟨(w.alloc (.cells #[.int .i64 0, .bool false, .string ⟨#[]⟩, .bool false, .string ⟨#[]⟩, .slice none 0 0] 49)).heap.size, 0, none⟩), .int .i64 0] 119)) := (((Below.refl _ w).alloc (Nat.le_refl _) _).alloc (by simp) _).alloc (by simp; omega) _
    have hrd : Rd (((w.alloc (.cells #[.int .i64 0, .bool false, .string ⟨#[]⟩, .bool false, .string ⟨#[]⟩, .slice none 0 0] 49)).alloc (.cells #[.int .i64 0, .string s, .int .i64 0] 172)).alloc (.cells #[.pointer (some ⟨(w.alloc (.cells #[.int .i64 0, .bool false, .string ⟨#[]⟩, .bool false, .string ⟨#[]⟩, .slice none 0 0] 49)).heap.size, 0, none⟩), .int .i64 0] 119)) (w.alloc (.cells #[.int .i64 0, .bool false, .string ⟨#[]⟩, .bool false, .string ⟨#[]⟩, .slice none 0 0] 49)).heap.size s 0 0 := heap_alloc_at (heap_new _ _)
    have hrr : RR (((w.alloc (.cells #[.int .i64 0, .bool false, .string ⟨#[]⟩, .bool false, .string ⟨#[]⟩, .slice none 0 0] 49)).alloc (.cells #[.int .i64 0, .string s, .int .i64 0] 172)).alloc (.cells #[.pointer (some ⟨(w.alloc (.cells #[.int .i64 0, .bool false, .string ⟨#[]⟩, .bool false, .string ⟨#[]⟩, .slice none 0 0] 49)).heap.size, 0, none⟩), .int .i64 0] 119)) ((w.alloc (.cells #[.int .i64 0, .bool false, .string ⟨#[]⟩, .bool false, .string ⟨#[]⟩, .slice none 0 0] 49)).heap.size + 1) (w.alloc (.cells #[.int .i64 0, .bool false, .string ⟨#[]⟩, .bool false, .string ⟨#[]⟩, .slice none 0 0] 49)).heap.size 0 := heap_new' _ _ _ (by simp)
    have hz : (w.alloc (.cells #[.int .i64 0, .bool false, .string ⟨#[]⟩, .bool false, .string ⟨#[]⟩, .slice none 0 0] 49)).heap.size = w.heap.size + 1 := by simp
    rw [hz] at hR hb hrd hrr
    go_wp2_with fail
    simp only [hz] at *
    generalize ((w.alloc (.cells #[.int .i64 0, .bool false, .string ⟨#[]⟩, .bool false, .string ⟨#[]⟩, .slice none 0 0] 49)).alloc (.cells #[.int .i64 0, .string s, .int .i64 0] 172)).alloc (.cells #[.pointer (some ⟨w.heap.size + 1, 0, none⟩), .int .i64 0] 119) = w1 at *
    have hd1 : w.heap.size + 1 + 1 ≠ w.heap.size := by omega
    have hd2 : w.heap.size + 1 ≠ w.heap.size := by omega
    have hd3 : w.heap.size + 1 ≠ w.heap.size + 1 + 1 := by omega
    have hd4 : w.heap.size < w.heap.size + 1 := by omega
    generalize w.heap.size + 1 + 1 = q at *
    generalize w.heap.size + 1 = pb at *
    refine (CN.out q pb w1 hrr hrd hd3).mono ?_
    rintro r w2 ⟨hc2, hm⟩
    have HR2 := hid ((hc2.block w.heap.size (lt_of_heap hR) (by omega)).trans hR)
    have HB2 : Hid (Below w.heap.size w w2) := hb.trans (hc2.below hb.size (fun i hi h => by omega))
    have hl1 := lt_of_heap hR
    have hw1 := Nat.le_of_lt hl1
    clear hc2 hR hb hrd hrr CN CI
    cases hx : nxt s 0 first N with
    | error x =>
      rw [hx] at hm
      obtain ⟨rfl, hx0⟩ := hm
      have hne : ((x : Int) != 0) = true := by rw [bne_iff_ne]; omega
      have HX := hid hx
      have HX0 := hid hx0
      clear hx hx0
      unfold noRec
      have gg : w2.heap.size ≠ w.heap.size := by have := lt_of_heap HR2.out; omega
      have HR3 : Hid ((w2.alloc (.cells #[.int .i64 0, .bool false, .string ⟨#[]⟩, .bool false, .string ⟨#[]⟩, .slice none 0 0] 49)).heap[w.heap.size]? = some (.cells #[.int .i64 0, .bool false, .string ⟨#[]⟩, .bool false, .string ⟨#[]⟩, .slice none 0 0] 49 (0, 0))) := heap_alloc_at HR2.out
      have rr := HR3.out
      obtain ⟨m0, m1, m2, m3, m4, m5⟩ := cells6 rr
      have n0 := froz_of (i := 0) rr
      have n1 := froz_of (i := 1) rr
      have n2 := froz_of (i := 2) rr
      have n3 := froz_of (i := 3) rr
      have n4 := froz_of (i := 4) rr
      have n5 := froz_of (i := 5) rr
      clear rr
      go_wp2_with fail
      have f11 : (((((((w2.alloc (.cells #[.int .i64 0, .bool false, .string ⟨#[]⟩, .bool false, .string ⟨#[]⟩, .slice none 0 0] 49)).setCell ⟨w.heap.size, 0, none⟩ (.int .i64 0)).setCell ⟨w.heap.size, 1, none⟩ (.bool false)).setCell ⟨w.heap.size, 2, none⟩ (.string ⟨#[]⟩)).setCell ⟨w.heap.size, 3, none⟩ (.bool false)).setCell ⟨w.heap.size, 4, none⟩ (.string ⟨#[]⟩)).setCell ⟨w.heap.size, 5, none⟩ (.slice none 0 0)).heap[w.heap.size]? = some (.cells #[.int .i64 0, .bool false, .string ⟨#[]⟩, .bool false, .string ⟨#[]⟩, .slice none 0 0] 49 (0, 0)) := heap_set (heap_set (heap_set (heap_set (heap_set (heap_set HR3.out)))))
      obtain ⟨j0, j1, j2, j3, j4, j5⟩ := cells6 f11
      clear f11
      refine bodyPost_ret (v := .tuple #[noRec, .int .i64 0, .int .i64 x]) (by simp [results, noRec, Tryz.results109, go_sem, j0, j1, j2, j3, j4, j5]) rfl ?_
      refine ⟨store6_bel (HB2.out.alloc HB2.out.size _), ?_⟩
      rw [HX.out]
      exact ⟨rfl, HX0.out⟩
    | ok y =>
      rw [hx] at hm
      obtain ⟨a, cap, rfl, ho, h3, hr3, hy⟩ := hm
      have HX := hid hx
      clear hx
      obtain ⟨⟨xt, xkh, xkd, xvh, xvd, xhs⟩, ky⟩ := y
      simp only [recV] at *
      have hg : w2.heap.size ≠ w.heap.size := by have := lt_of_heap HR2.out; omega
      have hq2 := h3.lt
      have hp2 := hr3.lt
      have G3 : (w2.alloc (.cells #[.int .i64 xt, .bool xkh, .string xkd, .bool xvh, .string xvd, .slice a xhs.length cap] 49)).heap[w2.heap.size]? = some (.cells #[.int .i64 xt, .bool xkh, .string xkd, .bool xvh, .string xvd, .slice a xhs.length cap] 49 (0, 0)) := heap_new _ _
      have K3 : (w2.alloc (.cells #[.int .i64 xt, .bool xkh, .string xkd, .bool xvh, .string xvd, .slice a xhs.length cap] 49)).heap[q]? = some (.cells #[.pointer (some ⟨pb, 0, none⟩), .int .i64 0] 119 (0, 0)) := heap_alloc_at h3
      have L3 : Rd (w2.alloc (.cells #[.int .i64 xt, .bool xkh, .string xkd, .bool xvh, .string xvd, .slice a xhs.length cap] 49)) (pb) s ky 0 := hr3.alloc _
      have R3 : (w2.alloc (.cells #[.int .i64 xt, .bool xkh, .string xkd, .bool xvh, .string xvd, .slice a xhs.length cap] 49)).heap[w.heap.size]? = some (.cells #[.int .i64 0, .bool false, .string ⟨#[]⟩, .bool false, .string ⟨#[]⟩, .slice none 0 0] 49 (0, 0)) := heap_alloc_at HR2.out
      have O3 : OwnH (w2.alloc (.cells #[.int .i64 xt, .bool xkh, .string xkd, .bool xvh, .string xvd, .slice a xhs.length cap] 49)) w1.heap.size (.slice a xhs.length cap) xhs := World.ownsRow.alloc ho _
      have B3 : Below w.heap.size w (w2.alloc (.cells #[.int .i64 xt, .bool xkh, .string xkd, .bool xvh, .string xvd, .slice a xhs.length cap] 49)) := HB2.out.alloc HB2.out.size _
      clear ho h3 hr3
      go_wp2_with fail
      generalize w2.alloc (.cells #[.int .i64 xt, .bool xkh, .string xkd, .bool xvh, .string xvd, .slice a xhs.length cap] 49) = w3 at *
      have CA0 := hid (rat_any (pb) s ky 0 w3.drew L3)
      have G3' : w3.drew.heap[w2.heap.size]? = some (.cells #[.int .i64 xt, .bool xkh, .string xkd, .bool xvh, .string xvd, .slice a xhs.length cap] 49 (0, 0)) := G3
      have K3' : w3.drew.heap[q]? = some (.cells #[.pointer (some ⟨pb, 0, none⟩), .int .i64 0] 119 (0, 0)) := K3
      have HG := hid G3
      have HG' := hid G3'
      have HKK := hid K3
      have HKK' := hid K3'
      have HO3 := hid O3
      have HB3 := hid B3
      have HR3 := hid R3
      have rr : w3.heap[w.heap.size]? = some (.cells #[.int .i64 0, .bool false, .string ⟨#[]⟩, .bool false, .string ⟨#[]⟩, .slice none 0 0] 49 (0, 0)) := R3
      obtain ⟨m0, m1, m2, m3, m4, m5⟩ := cells6 rr
      have n0 := froz_of (i := 0) rr
      have n1 := froz_of (i := 1) rr
      have n2 := froz_of (i := 2) rr
      have n3 := froz_of (i := 3) rr
      have n4 := froz_of (i := 4) rr
      have n5 := froz_of (i := 5) rr
      clear rr G3 G3' K3 K3' L3 R3 O3 B3
      have y1 : w2.heap.size ≠ w.heap.size := hg
      have y2 : q ≠ w.heap.size := hd1
      go_region_held3 (fun x => (x.cell? ⟨w2.heap.size, 0, none⟩ = some (.int .i64 xt) ∧ x.cell? ⟨w2.heap.size, 1, none⟩ = some (.bool xkh) ∧ x.cell? ⟨w2.heap.size, 2, none⟩ = some (.string xkd) ∧ x.cell? ⟨w2.heap.size, 3, none⟩ = some (.bool xvh) ∧ x.cell? ⟨w2.heap.size, 4, none⟩ = some (.string xvd) ∧ x.cell? ⟨w2.heap.size, 5, none⟩ = some (.slice a xhs.length cap)) ∧ x.cell? ⟨q, 0, none⟩ = some (.pointer (some ⟨pb, 0, none⟩))) (first | with_reducible exact cells7 HG.out HKK.out | with_reducible exact cells7 HG'.out HKK'.out | with_reducible exact cells7 (World.drew_heap (store6 HG.out y1)) (World.drew_heap (store6 HKK.out y2))) (first | (go_at_call 112; with_reducible refine CA0.out.mono ?_; rintro r w4 ⟨rfl, rfl⟩))
      have f11 : ((((((w3.setCell ⟨w.heap.size, 0, none⟩ (.int .i64 xt)).setCell ⟨w.heap.size, 1, none⟩ (.bool xkh)).setCell ⟨w.heap.size, 2, none⟩ (.string xkd)).setCell ⟨w.heap.size, 3, none⟩ (.bool xvh)).setCell ⟨w.heap.size, 4, none⟩ (.string xvd)).setCell ⟨w.heap.size, 5, none⟩ (.slice a xhs.length cap)).drew.heap[w.heap.size]? = some (.cells #[.int .i64 xt, .bool xkh, .string xkd, .bool xvh, .string xvd, .slice a xhs.length cap] 49 (0, 0)) := World.drew_heap (heap_set (heap_set (heap_set (heap_set (heap_set (heap_set HR3.out))))))
      obtain ⟨j0, j1, j2, j3, j4, j5⟩ := cells6 f11
      clear f11
      go_wp2_with fail
      refine bodyPost_ret (v := .tuple #[.agg #[.int .i64 xt, .bool xkh, .string xkd, .bool xvh, .string xvd, .slice a xhs.length cap], .int .i64 ky, .int .i64 0]) (by simp [results, Tryz.results109, go_sem, j0, j1, j2, j3, j4, j5]) rfl ?_
      refine ⟨(store6_bel HB3.out).drew, ?_⟩
      rw [HX.out]
      have hx : ∀ g, (Value.slice a xhs.length cap).ownBlock = some g → g ≠ w.heap.size := fun g hg h => own_ne HO3.out (h ▸ HR3.out) (by decide) hg
      exact ⟨a, cap, rfl, own_base hw1 (own_apart HO3.out (fun g hg => store6_eqd (hx g hg)))⟩
  · have e5 : rd5 s first n = .error 1 := by unfold rd5; rw [if_pos hn]
    have HX := hid e5
    have CI := hid (fun w => isnum_no n w hn)
    clear e5 hs hn
    go_enter Tryz.func109, Tryz.ntmps109
    go_wp2_with fail
    have HR3 : Hid ((w.alloc (.cells #[.int .i64 0, .bool false, .string ⟨#[]⟩, .bool false, .string ⟨#[]⟩, .slice none 0 0] 49)).heap[w.heap.size]? = some (.cells #[.int .i64 0, .bool false, .string ⟨#[]⟩, .bool false, .string ⟨#[]⟩, .slice none 0 0] 49 (0, 0))) := heap_new _ _
    have HBB : Hid (Below w.heap.size w (w.alloc (.cells #[.int .i64 0, .bool false, .string ⟨#[]⟩, .bool false, .string ⟨#[]⟩, .slice none 0 0] 49))) := (Below.refl _ w).alloc (Nat.le_refl _) _
    generalize w.alloc (.cells #[.int .i64 0, .bool false, .string ⟨#[]⟩, .bool false, .string ⟨#[]⟩, .slice none 0 0] 49) = W at *
    refine (CI.out _).mono ?_
    rintro e W ⟨rfl, rfl⟩
    have rr := HR3.out
    obtain ⟨m0, m1, m2, m3, m4, m5⟩ := cells6 rr
    have n0 := froz_of (i := 0) rr
    have n1 := froz_of (i := 1) rr
    have n2 := froz_of (i := 2) rr
    have n3 := froz_of (i := 3) rr
    have n4 := froz_of (i := 4) rr
    have n5 := froz_of (i := 5) rr
    clear rr
    go_wp2_with fail
    have f11 : ((((((W.setCell ⟨w.heap.size, 0, none⟩ (.int .i64 0)).setCell ⟨w.heap.size, 1, none⟩ (.bool false)).setCell ⟨w.heap.size, 2, none⟩ (.string ⟨#[]⟩)).setCell ⟨w.heap.size, 3, none⟩ (.bool false)).setCell ⟨w.heap.size, 4, none⟩ (.string ⟨#[]⟩)).setCell ⟨w.heap.size, 5, none⟩ (.slice none 0 0)).heap[w.heap.size]? = some (.cells #[.int .i64 0, .bool false, .string ⟨#[]⟩, .bool false, .string ⟨#[]⟩, .slice none 0 0] 49 (0, 0)) := heap_set (heap_set (heap_set (heap_set (heap_set (heap_set HR3.out)))))
    obtain ⟨j0, j1, j2, j3, j4, j5⟩ := cells6 f11
    clear f11
    refine bodyPost_ret (v := .tuple #[noRec, .int .i64 0, .int .i64 1]) (by simp [results, noRec, Tryz.results109, go_sem, j0, j1, j2, j3, j4, j5]) rfl ?_
    refine ⟨store6_bel HBB.out, ?_⟩
    rw [HX.out]
    exact ⟨rfl, by decide⟩
end Go.Proofs.YtihokphamgkkcaaGreat
