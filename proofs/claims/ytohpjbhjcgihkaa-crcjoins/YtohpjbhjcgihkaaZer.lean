/- The document's zeros, Join and Behind; nothing that was there before is turned. -/
import Derived.Test.YtohpjbhjcgihkaaMat
namespace Go.Proofs.Ytohpjbhjcgihkaa
open Go.RowKit
/-- The three blocks: the answer's, out, one. -/
def Z3 (w : World) (z o p : Array Value) (x : World) : Prop :=
  x.heap[w.heap.size]? = some (.cells z 52 (0, 0)) ∧ x.heap[w.heap.size + 1]? = some (.cells o 52 (0, 0)) ∧ x.heap[w.heap.size + 1 + 1]? = some (.cells p 52 (0, 0)) ∧ Below w.heap.size w x
theorem Z3.next {w x y : World} {z o p : Array Value} (h : Z3 w z o p x) (k : Below x.heap.size x y) : Z3 w z o p y :=
  ⟨(k.block _ (lt_of_heap h.1)).trans h.1, (k.block _ (lt_of_heap h.2.1)).trans h.2.1, (k.block _ (lt_of_heap h.2.2.1)).trans h.2.2.1, bel_bel h.2.2.2 k h.2.2.2.size⟩
theorem Z3.set1 {w x : World} {z o p : Array Value} (h : Z3 w z o p x) (i : Nat) (v : Value) : Z3 w z (o.setIfInBounds i v) p (x.setCell ⟨w.heap.size + 1, i, none⟩ v) :=
  ⟨heap_set_far h.1 (by show _ ≠ w.heap.size + 1; omega), heap_set h.2.1, heap_set_far h.2.2.1 (by show _ ≠ w.heap.size + 1; omega), h.2.2.2.setCell (by show w.heap.size ≤ w.heap.size + 1; omega) v⟩
theorem Z3.set2 {w x : World} {z o p : Array Value} (h : Z3 w z o p x) (i : Nat) (v : Value) : Z3 w z o (p.setIfInBounds i v) (x.setCell ⟨w.heap.size + 1 + 1, i, none⟩ v) :=
  ⟨heap_set_far h.1 (by show _ ≠ w.heap.size + 1 + 1; omega), heap_set_far h.2.1 (by show _ ≠ w.heap.size + 1 + 1; omega), heap_set h.2.2.1, h.2.2.2.setCell (by show w.heap.size ≤ w.heap.size + 1 + 1; omega) v⟩
theorem Z3.row1 {w x : World} {z o p : Array Value} (h : Z3 w z o p x) (q : Array Value) : Z3 w z q p (x.setRow (w.heap.size + 1) q) :=
  ⟨(heap_setRow_far x _ _ q (by omega)).trans h.1, setRow_heap _ _ _ q _ _ h.2.1, (heap_setRow_far x _ _ q (by omega)).trans h.2.2.1, bel_setRow h.2.2.2 (by omega) q⟩
theorem Z3.row2 {w x : World} {z o p : Array Value} (h : Z3 w z o p x) (q : Array Value) : Z3 w z o q (x.setRow (w.heap.size + 1 + 1) q) :=
  ⟨(heap_setRow_far x _ _ q (by omega)).trans h.1, (heap_setRow_far x _ _ q (by omega)).trans h.2.1, setRow_heap _ _ _ q _ _ h.2.2.1, bel_setRow h.2.2.2 (by omega) q⟩
theorem mx_size {c : Array Value} {n K : Nat} (h : Mx c n K) : (Try.prog.info? 52).map (·.size) = some c.size := by rw [h.1]; exact (zero_of_info Try.infoMat).2
set_option maxHeartbeats 4000000 in
set_option maxRecDepth 1000000 in
theorem rzeros_any (n : Int) (w : World) (h1 : -9223372036854775808 ≤ n) (h2 : n ≤ 9223372036854775807) :
    Calls Try.prog 32 #[.int .i64 n] w fun e w' => ∃ c, e = .returned (.agg c) ∧ Mx c (8 * n.toNat) 32 ∧ Below w.heap.size w w' := by
  have hv := (zero_of_info Try.infoMat).1
  go_enter Try.func32, Try.ntmps32
  go_wp2_with fail
  clear hv
  have hz (k : Nat) : Mx (Array.replicate 32 (.int .u32 0)) k 0 := by
    refine ⟨by simp, by omega, ?_⟩
    intro v hv
    rw [Array.mem_replicate] at hv
    rw [hv.2]; rfl
  have hK : Z3 w (Array.replicate 32 (.int .u32 0)) (Array.replicate 32 (.int .u32 0)) (Array.replicate 32 (.int .u32 0)) (((w.alloc (.cells (Array.replicate 32 (.int .u32 0)) 52)).alloc (.cells (Array.replicate 32 (.int .u32 0)) 52)).alloc (.cells (Array.replicate 32 (.int .u32 0)) 52)) :=
    ⟨heap_alloc_at (heap_alloc_at (heap_new _ _)), heap_alloc_at (heap_new' _ _ _ (by simp)), heap_new' _ _ _ (by simp), (((Below.refl _ w).alloc (Nat.le_refl _) _).alloc (by simp) _).alloc (by simp; omega) _⟩
  generalize ((w.alloc (.cells (Array.replicate 32 (.int .u32 0)) 52)).alloc (.cells (Array.replicate 32 (.int .u32 0)) 52)).alloc (.cells (Array.replicate 32 (.int .u32 0)) 52) = V at *
  have hzs : (Array.replicate 32 (Value.int .u32 0)).size = 32 := by simp
  generalize Array.replicate 32 (Value.int .u32 0) = z at *
  go_loopg [5] 32 (fun k u wr => ∃ (o p : Array Value) (i : Nat), i + k = 32 ∧ u = .int .i64 i ∧ Mx o 0 i ∧ Mx p 8 i ∧ Z3 w z o p wr)
  case atStart => exact ⟨z, z, 0, by omega, rfl, hz 0, hz 8, hK⟩
  case round =>
    clear hK hz
    obtain ⟨o, p, i, hk, rfl, hO, hP, hK⟩ := hrel
    by_cases hlt : i < 32
    · obtain ⟨k, rfl⟩ : ∃ k, gk = k + 1 := ⟨gk - 1, by omega⟩
      have hlt' : (i : Int) < 32 := by omega
      have hpl := M.pow32_lt hlt
      obtain ⟨v0, hv0⟩ : ∃ v0, o[i]? = some v0 := ⟨o[i]'(by rw [hO.1]; omega), Array.getElem?_eq_getElem _⟩
      obtain ⟨v1, hv1⟩ : ∃ v1, p[i]? = some v1 := ⟨p[i]'(by rw [hP.1]; omega), Array.getElem?_eq_getElem _⟩
      have c0 := (cell_of (i := i) hK.2.1).trans hv0
      have f0 := froz_of (i := i) hK.2.1
      obtain ⟨E, hE⟩ : ∃ E, E = 2 ^ i := ⟨_, rfl⟩
      have hsh : (2 : Int) ^ i % 4294967296 = (E : Int) := by
        have : ((2 ^ i : Nat) : Int) = (2 : Int) ^ i := by simp
        rw [hE, ← this]; omega
      rw [← hE] at hpl
      have ct := fun x => rtake_any E 0 x hpl (by omega)
      rw [show M.tk E 0 = M.mvN 8 E by unfold M.tk; rw [Nat.xor_zero]] at ct
      have hOs : Mx (o.setIfInBounds i (.int .u32 (E : Int))) 0 (i + 1) := hO.step hlt (by rw [← hE]; rfl)
      have hPs : Mx (p.setIfInBounds i (.int .u32 (M.mvN 8 E : Nat))) 8 (i + 1) := hP.step hlt (by rw [← hE])
      have hK1 := hK.set1 i (.int .u32 (E : Int))
      have c1 := (cell_of (i := i) hK1.2.2.1).trans hv1
      have f1 := froz_of (i := i) hK1.2.2.1
      have hK2 := hK1.set2 i (.int .u32 (M.mvN 8 E : Nat))
      generalize M.mvN 8 E = T at *
      clear hE hv0 hv1 hO hP
      go_wp2_with fail
      refine (ct _).mono ?_
      rintro e w1 ⟨rfl, rfl⟩
      clear c0 f0 ct
      go_wp2_with fail
      go_roundg k
      case measure => omega
      case rel => exact ⟨_, _, i + 1, by omega, by first | rfl | simp, hOs, hPs, hK2⟩
    · obtain rfl : i = 32 := by omega
      go_wp2_with fail
      go_loopg [0] n.toNat (fun k u wr => ∃ (N : Int) (o p : Array Value) (P Q : Nat), N.toNat = k ∧ -9223372036854775808 ≤ N ∧ N ≤ 9223372036854775807 ∧ u = .int .i64 N ∧ Mx o (8 * P) 32 ∧ Mx p (8 * Q) 32 ∧ n.toNat = P + k * Q ∧ Z3 w z o p wr)
      case atStart => exact ⟨n, o, p, 0, 1, rfl, h1, h2, rfl, hO, hP, by omega, hK⟩
      case round =>
        clear hO hP hK hk
        obtain ⟨N, o, p, P, Q, hN, hN1, hN2, rfl, hO, hP, hd, hK⟩ := hrel
        have HN : Hid (N.toNat = gk) := hN
        have HD : Hid (n.toNat = P + gk * Q) := hd
        clear hN hd
        have so := mx_size hO
        have sp := mx_size hP
        have lo := load_row hK.2.1 Try.underMat so
        have lp := load_row hK.2.2.1 Try.underMat sp
        by_cases hpos : 0 < N
        · have hdiv : N.tdiv 2 = N / 2 := Int.tdiv_eq_ediv_of_nonneg (by omega)
          have hmod : N.tmod 2 = N % 2 := Int.tmod_eq_emod_of_nonneg (by omega)
          rcases (show N % 2 = 0 ∨ N % 2 = 1 by omega) with ho | ho
          · go_upto_region 11 with fail
            go_step
            go_step
            refine oper_load rfl lp ?_
            go_step
            go_step
            refine oper_load rfl lp ?_
            go_wp2_with fail
            refine (then_any p p (8 * Q) (8 * Q) wr hP hP).mono ?_
            rintro e w9 ⟨q, rfl, hq, hb9⟩
            have hK9 := hK.next hb9
            have hs9 := store_row hK9.2.2.1 (mx_size hq) (by rw [hP.1, hq.1]) hq.2.2
            have hK10 := hK9.row2 q
            generalize w9.setRow (w.heap.size + 1 + 1) q = V9 at *
            have hq2 : Mx q (8 * (Q + Q)) 32 := by rw [Nat.mul_add]; exact hq
            clear hb9 hK9 hK lo lp so sp hq
            dsimp only
            go_step
            go_step
            refine oper_store rfl hs9 ?_
            go_wp2_with fail
            go_roundg (N / 2).toNat
            case measure => have hg := HN.out; omega
            case rel =>
              refine ⟨N / 2, o, q, P, Q + Q, rfl, by omega, by omega, by first | rfl | rw [hdiv], hO, hq2, ?_, hK10⟩
              have hg := HN.out
              have e : gk = (N / 2).toNat * 2 := by omega
              rw [HD.out, e, Nat.mul_assoc, Nat.two_mul]
          · go_upto_region 10 with fail
            go_step
            go_step
            refine oper_load rfl lo ?_
            go_step
            go_step
            refine oper_load rfl lp ?_
            go_wp2_with fail
            refine (then_any o p (8 * P) (8 * Q) wr hO hP).mono ?_
            rintro e w3 ⟨r, rfl, hr, hb3⟩
            have hK3 := hK.next hb3
            have hs3 := store_row hK3.2.1 (mx_size hr) (by rw [hO.1, hr.1]) hr.2.2
            have hK4 := hK3.row1 r
            have lp2 := load_row hK4.2.2.1 Try.underMat sp
            generalize w3.setRow (w.heap.size + 1) r = V3 at *
            have hr2 : Mx r (8 * (P + Q)) 32 := by rw [Nat.mul_add]; exact hr
            clear hb3 hK3 hK lo lp hr
            dsimp only
            go_step
            go_step
            refine oper_store rfl hs3 ?_
            go_upto_region 11 with fail
            go_step
            go_step
            refine oper_load rfl lp2 ?_
            go_step
            go_step
            refine oper_load rfl lp2 ?_
            go_wp2_with fail
            refine (then_any p p (8 * Q) (8 * Q) V3 hP hP).mono ?_
            rintro e w9 ⟨q, rfl, hq, hb9⟩
            have hK9 := hK4.next hb9
            have hs9 := store_row hK9.2.2.1 (mx_size hq) (by rw [hP.1, hq.1]) hq.2.2
            have hK10 := hK9.row2 q
            generalize w9.setRow (w.heap.size + 1 + 1) q = V9 at *
            have hq2 : Mx q (8 * (Q + Q)) 32 := by rw [Nat.mul_add]; exact hq
            clear hb9 hK9 hK4 lp2 so sp hq
            dsimp only
            go_step
            go_step
            refine oper_store rfl hs9 ?_
            go_wp2_with fail
            go_roundg (N / 2).toNat
            case measure => have hg := HN.out; omega
            case rel =>
              refine ⟨N / 2, r, q, P + Q, Q + Q, rfl, by omega, by omega, by first | rfl | rw [hdiv], hr2, hq2, ?_, hK10⟩
              have hg := HN.out
              have e : gk = (N / 2).toNat * 2 + 1 := by omega
              rw [HD.out, e, Nat.add_mul, Nat.mul_assoc, Nat.two_mul]; omega
        · have hg := HN.out
          have hk0 : gk = 0 := by omega
          have hst := store_row hK.1 so (by rw [hO.1]; exact hzs) hO.2.2
          have hg2 := setRow_heap _ _ _ o _ _ hK.1
          have hld2 := run_loadVar_row _ _ _ _ _ _ _ hg2 Try.underMat rfl so
          have W2 : Hid (Below w.heap.size w (wr.setRow w.heap.size o)) := bel_setRow hK.2.2.2 (Nat.le_refl _) o
          generalize wr.setRow w.heap.size o = V2 at *
          have hO2 : Mx o (8 * n.toNat) 32 := by rw [HD.out, hk0, Nat.zero_mul, Nat.add_zero]; exact hO
          clear hg2 hK so sp lp
          go_upto_region 13 with fail
          go_step
          go_step
          refine oper_load rfl lo ?_
          go_step
          go_step
          refine oper_store rfl hst ?_
          go_wp2
          exact bodyPost_ret (v := .agg o) (results_ptr rfl rfl hld2) rfl ⟨o, rfl, hO2, W2⟩
set_option maxHeartbeats 1000000 in
theorem rjoin_any (a b : Nat) (n : Int) (w : World) (ha : a < 4294967296) (hb : b < 4294967296) (h1 : -9223372036854775808 ≤ n) (h2 : n ≤ 9223372036854775807) :
    Calls Try.prog 15 #[.int .u32 a, .int .u32 b, .int .i64 n] w fun e w' => e = .returned (.int .u32 (M.join a b n.toNat : Nat)) ∧ Below w.heap.size w w' := by
  have hz := rzeros_any n w h1 h2
  have hx := xor_nat (M.zer_lt (n := n.toNat) ha) hb
  rw [show M.zer n.toNat a ^^^ b = M.join a b n.toNat from rfl] at hx
  have HO : Hid (∀ c v, Mx c (8 * n.toNat) 32 → Calls Try.prog 33 #[.agg c, .int .u32 a] v fun e w' => e = .returned (.int .u32 (M.zer n.toNat a : Nat)) ∧ Below v.heap.size v w') := fun c v h => of_any c _ a v h ha
  generalize M.join a b n.toNat = R at *
  generalize M.zer n.toNat a = Y at *
  go_enter Try.func15, Try.ntmps15
  go_wp2_with fail
  refine hz.mono ?_
  rintro e w1 ⟨c, rfl, hM, hb1⟩
  go_wp2_with fail
  refine (HO.out c w1 hM).mono ?_
  rintro e w2 ⟨rfl, k2⟩
  have hb2 := bel_bel hb1 k2 hb1.size
  go_wp2_with fail
  go_ret
  exact ⟨rfl, hb2⟩
set_option maxHeartbeats 1000000 in
theorem rbehind_any (a b : Nat) (n : Int) (w : World) (ha : a < 4294967296) (hb : b < 4294967296) (h1 : -9223372036854775808 ≤ n) (h2 : n ≤ 9223372036854775807) :
    Calls Try.prog 17 #[.int .u32 b, .int .u32 a, .int .i64 n] w fun e w' => e = .returned (.int .u32 (M.join a b n.toNat : Nat)) ∧ Below w.heap.size w w' := by
  have hz := rzeros_any n w h1 h2
  have hx := xor_nat (M.zer_lt (n := n.toNat) ha) hb
  rw [show M.zer n.toNat a ^^^ b = M.join a b n.toNat from rfl] at hx
  have HO : Hid (∀ c v, Mx c (8 * n.toNat) 32 → Calls Try.prog 33 #[.agg c, .int .u32 a] v fun e w' => e = .returned (.int .u32 (M.zer n.toNat a : Nat)) ∧ Below v.heap.size v w') := fun c v h => of_any c _ a v h ha
  generalize M.join a b n.toNat = R at *
  generalize M.zer n.toNat a = Y at *
  go_enter Try.func17, Try.ntmps17
  go_wp2_with fail
  refine hz.mono ?_
  rintro e w1 ⟨c, rfl, hM, hb1⟩
  go_wp2_with fail
  refine (HO.out c w1 hM).mono ?_
  rintro e w2 ⟨rfl, k2⟩
  have hb2 := bel_bel hb1 k2 hb1.size
  go_wp2_with fail
  go_ret
  exact ⟨rfl, hb2⟩
end Go.Proofs.Ytohpjbhjcgihkaa
