/- Texts of the proof, put together: Gn6. -/
import Derived.Test.YtlbkkeoffeohnabGN
namespace Go.Proofs.Ytlbkkeoffeohnab
open Go.RowKit
theorem zb_at {x : World} {p : Nat} {z0 z1 z2 z3 z4 v0 v1 v2 v3 v4 : Value} {T : TypeId} (h : x.heap[p]? = some (.cells #[z0, z1, z2, z3, z4] T (0, 0))) :
    (((((x.setCell ⟨p, 0, none⟩ v0).setCell ⟨p, 1, none⟩ v1).setCell ⟨p, 2, none⟩ v2).setCell ⟨p, 3, none⟩ v3).setCell ⟨p, 4, none⟩ v4).heap[p]? = some (.cells #[v0, v1, v2, v3, v4] T (0, 0)) := heap_set (heap_set (heap_set (heap_set (heap_set h))))
theorem hb_nb {v : Value} {l : List Rec} {x : World} {T : Nat → Prop} {p : Nat} {c : Array Value} (h : Hb v l x T) (hp : x.heap[p]? = some (.cells c 28 (0, 0))) : ¬ T p := by
  obtain ⟨rs, h1, _, rfl⟩ := h
  rintro (e | ⟨q, hq, e⟩)
  · exact own_ne h1.row hp (by decide) e
  · exact own_ne (h1.hds q hq) hp (by decide) e
theorem hb_al {v : Value} {l : List Rec} {x : World} {T : Nat → Prop} (h : Hb v l x T) (o : Obj) : Hb v l (x.alloc o) T := (Hb.stab v l).keep h ((Ch.refl (fun _ => False) x).alloc o) (fun _ _ e => e)
theorem hb_ch {v : Value} {l : List Rec} {x y : World} {S T : Nat → Prop} (h : Hb v l x T) (k : Ch S x y) (hn : ∀ i, T i → ¬ S i) : Hb v l y T := (Hb.stab v l).keep h k hn
set_option maxRecDepth 20000 in
set_option maxHeartbeats 8000000 in
theorem none_walk (a : Option Addr) (cap : Nat) (os : List GOp) (w : World) (V : Gops w a os) (ht : ∀ o ∈ os, I64 o.x.r.t) (hm : ∀ o ∈ os, Mod o.x.r) (_hz : ∀ o ∈ os, o.x.r.hs.length ≤ 9223372036854775807) (hl : os.length * 80 ≤ 140737488355328) :
    Calls Try.prog 3 #[.slice a os.length cap] w fun e w' => e = .returned (.bool true) ∧ Below w.heap.size w w' := by
  have HFX : Hid (∀ x, Calls Try.prog 4 #[] x fun e w' => e = .returned (.bool true) ∧ Below x.heap.size x w') := fun x => fixed_any x
  have HN : Hid (∀ x, Calls Try.prog 5 #[.agg #[.int .i64 0, .int .i64 0, .int .i64 0, .int .i64 0, .bool false, .int .i64 (-1), .int .i32 (-1)]] x fun e w' => ∃ g jb bb S, e = .returned (.tuple #[.pointer (some ⟨g, 0, none⟩), .int .i64 0]) ∧ Gq g jb bb (Gs0 bL) Non w' S ∧ (∀ i, S i → x.heap.size ≤ i) ∧ Below x.heap.size x w') := fun x => gq_new bL x (by decide)
  have HV := hid V
  have HT := hid ht
  have HM := hid hm
  have HLn := hid hl
  clear V ht hm _hz hl
  go_enter Try.func3, Try.ntmps3
  go_wp2_with (first | (go_at_call 4; refine (HFX.out _).mono ?_; rintro e w1 ⟨rfl, hb⟩; have B1 := hid hb; clear hb) | (go_at_call 5; refine (HN.out _).mono ?_; rintro e w2 ⟨g, jb, bb, S0, rfl, hG, hS, hb⟩; have G2 := hid hG; have SS2 := hid hS; have B2 := hid hb; clear hG hS hb))
  have HI0 : Hid (∃ S, N0 w w1.heap.size g (Gs0 bL) (Gs0 bL) w2 S) := by
    have hb := B2.out
    have hz : Zcell w2 w1.heap.size := (hb.block w1.heap.size (by simp)).trans (heap_new _ _)
    have hs1 := B1.out.size
    have hz1 : ∀ i, S0 i → w1.heap.size + 1 ≤ i := fun i hi => by have := SS2.out i hi; simpa using this
    refine ⟨fun i => i = w1.heap.size ∨ S0 i, Or.inl ⟨rfl, jb, bb, fun i => i = w1.heap.size, S0, ⟨hz, rfl⟩, G2.out, fun i e f => ?_, fun i => Iff.rfl⟩, fun i hi => ?_, (B1.out.alloc hs1 _).trans (hb.mono (by simp; omega)), sL_ok, sL_ok, fun y hy => by simp [Gs0] at hy⟩
    · subst e; have := hz1 _ f; omega
    · rcases hi with rfl | hi
      · exact hs1
      · have := hz1 i hi; omega
  clear HN HFX G2 SS2 B1 B2
  generalize w1.heap.size = z at *
  go_loopg [7] os.length (fun k vi wr => ∃ (j : Nat) (s : Gs) (S : Nat → Prop), j + k = os.length ∧ vi = .int .i64 j ∧ Hid (N0 w z g s s wr S))
  case atStart =>
    obtain ⟨S, h⟩ := HI0.out
    exact ⟨0, Gs0 bL, S, by omega, rfl, h⟩
  case round =>
    obtain ⟨j, s, S, hk, rfl, HI⟩ := hrel
    clear HI0
    have HNC : Hid (∀ x, Calls Try.prog 11 #[.pointer none] x fun e w' => e = .returned (.pointer none) ∧ w' = x) := fun x => nil_clone x
    by_cases hlt : j < os.length
    · obtain ⟨k, rfl⟩ : ∃ k, gk = k + 1 := ⟨gk - 1, by omega⟩
      have hgo := goD_mem hlt
      have hTt := HT.out _ hgo
      have hMm := HM.out _ hgo
      have hVr := HV.out.1 _ hgo
      rcases HV.out.2 with h | ⟨cb, off, rfl, hbl, hc⟩
      · rw [h] at hlt; simp at hlt
      obtain ⟨q0, q1, q2, q3, q4, q5, q6⟩ := hc j hlt
      have hcl := fun o => HI.out.bel.cell (p := ⟨cb, o, none⟩) hbl
      have l0 := (hcl _).trans q0
      have l1 := (hcl _).trans q1
      have l2 := (hcl _).trans q2
      have l3 := (hcl _).trans q3
      have l4 := (hcl _).trans q4
      have l5 := (hcl _).trans q5
      have l6 := (hcl _).trans q6
      clear hc q0 q1 q2 q3 q4 q5 q6 hcl hgo
      generalize os.getD j dgo = o at *
      obtain ⟨ok, ⟨⟨t, kh, kd, vh, vd, hs⟩, xa, xc⟩⟩ := o
      dsimp only at hTt hMm hVr l0 l1 l2 l3 l4 l5 l6
      have i1 : (0 : Int) ≤ (j : Int) := by omega
      have i2 : (j : Int) < os.length := by omega
      have hjb : (j : Int) ≤ 2000000000000 := by have := HLn.out; omega
      have HNA : Hid (∀ x, Calls Try.prog 6 #[.pointer none, .agg #[.int .i64 t, .bool kh, .string kd, .bool vh, .string vd, .slice xa hs.length xc]] x fun e w' => e = .returned (.tuple #[.agg #[.int .i64 0, .bool false, .int .i64 0, .int .i32 0, .slice none 0 0], .bool false, .int .i64 4]) ∧ Below x.heap.size x w') := fun x => nil_add ⟨t, kh, kd, vh, vd, hs⟩ xa xc x
      have HNF : Hid (∀ x, Calls Try.prog 7 #[.pointer none] x fun e w' => e = .returned (.tuple #[.agg #[.int .i64 0, .bool false, .int .i64 0, .int .i32 0, .slice none 0 0], .bool false]) ∧ Below x.heap.size x w') := fun x => nil_flush x
      have HNW : Hid (∀ x, Calls Try.prog 8 #[.pointer none] x fun e w' => e = .returned (.tuple #[.int .i64 0, .int .i64 0]) ∧ w' = x) := fun x => nil_waiting x
      have HNS : Hid (∀ x, Calls Try.prog 9 #[.pointer none] x fun e w' => e = .returned (.int .i32 0) ∧ w' = x) := fun x => nil_seq x
      have HP := hid (heap_new wr (.cells #[.int .i64 ok, .int .i64 t, .bool kh, .string kd, .bool vh, .string vd, .slice xa hs.length xc] 42))
      have HIa := hid (HI.out.al (.cells #[.int .i64 ok, .int .i64 t, .bool kh, .string kd, .bool vh, .string vd, .slice xa hs.length xc] 42))
      have HNO := hid HI.out.no
      have HSZ := hid HI.out.bel.size
      by_cases hk1 : ok = 1
      · subst hk1
        have HLB : Hid ((addL s ⟨t, kh, kd, vh, vd, hs⟩).length ≤ 65536 ∧ ∀ y ∈ addL s ⟨t, kh, kd, vh, vd, hs⟩, y.hs.length ≤ 1024) := by
          show _ ∧ _
          unfold addL
          split
          · exact ⟨HI.out.o1.ok.n, HI.out.hh⟩
          · exact ⟨Nat.zero_le _, fun y hy => by simp at hy⟩
        have HZA : Hid (∀ x S, N0 w z g s s x S → Calls Try.prog 6 #[.pointer (some ⟨z, 0, none⟩), .agg #[.int .i64 t, .bool kh, .string kd, .bool vh, .string vd, .slice xa hs.length xc]] x fun e x' => ∃ pk pr q av cv T S', e = .returned (.tuple #[.agg #[.int .i64 0, .bool pk, .int .i64 pr, .int .i32 q, .slice av (addL s ⟨t, kh, kd, vh, vd, hs⟩).length cv], .bool (addO s ⟨t, kh, kd, vh, vd, hs⟩), .int .i64 (addE s ⟨t, kh, kd, vh, vd, hs⟩)]) ∧ AddQ s ⟨t, kh, kd, vh, vd, hs⟩ pk pr q ∧ Hb (.slice av (addL s ⟨t, kh, kd, vh, vd, hs⟩).length cv) (addL s ⟨t, kh, kd, vh, vd, hs⟩) x' T ∧ (∀ i, T i → ¬ S' i) ∧ Ch S x x' ∧ N0 w z g (addS s ⟨t, kh, kd, vh, vd, hs⟩) s x' S' ∧ ∀ p o, x.heap[p]? = some o → ¬ S p → x'.heap[p]? = some o ∧ ¬ S' p) := fun x S h => n_zadd h ⟨t, kh, kd, vh, vd, hs⟩ xa xc hVr hTt hMm
        have HGA : Hid (∀ x S, N0 w z g (addS s ⟨t, kh, kd, vh, vd, hs⟩) s x S → Calls Try.prog 6 #[.pointer (some ⟨g, 0, none⟩), .agg #[.int .i64 t, .bool kh, .string kd, .bool vh, .string vd, .slice xa hs.length xc]] x fun e x' => ∃ pk pr q av cv T S', e = .returned (.tuple #[.agg #[.int .i64 0, .bool pk, .int .i64 pr, .int .i32 q, .slice av (addL s ⟨t, kh, kd, vh, vd, hs⟩).length cv], .bool (addO s ⟨t, kh, kd, vh, vd, hs⟩), .int .i64 (addE s ⟨t, kh, kd, vh, vd, hs⟩)]) ∧ AddQ s ⟨t, kh, kd, vh, vd, hs⟩ pk pr q ∧ Hb (.slice av (addL s ⟨t, kh, kd, vh, vd, hs⟩).length cv) (addL s ⟨t, kh, kd, vh, vd, hs⟩) x' T ∧ (∀ i, T i → ¬ S' i) ∧ Ch S x x' ∧ N0 w z g (addS s ⟨t, kh, kd, vh, vd, hs⟩) (addS s ⟨t, kh, kd, vh, vd, hs⟩) x' S' ∧ ∀ p o, x.heap[p]? = some o → ¬ S p → x'.heap[p]? = some o ∧ ¬ S' p) := fun x S h => n_gadd h ⟨t, kh, kd, vh, vd, hs⟩ xa xc hVr hTt hMm
        generalize addS s ⟨t, kh, kd, vh, vd, hs⟩ = s2 at *
        generalize addO s ⟨t, kh, kd, vh, vd, hs⟩ = O at *
        generalize addE s ⟨t, kh, kd, vh, vd, hs⟩ = E at *
        generalize hL : addL s ⟨t, kh, kd, vh, vd, hs⟩ = L at *
        clear hVr hTt hMm hL HNC
        go_wp2_with (first | (go_at_call 6; refine (HNA.out _).mono ?_; rintro e x1 ⟨rfl, hb1⟩; clear HNA; have I1 := hid ((HIa.out.new hb1).al (.cells #[.int .i64 0, .bool false, .int .i64 0, .int .i32 0, .slice none 0 0] 28)); have P1 := hid (heap_alloc_at (o' := (.cells #[.int .i64 0, .bool false, .int .i64 0, .int .i32 0, .slice none 0 0] 28)) ((hb1.block _ (lt_of_heap HP.out)).trans HP.out)); have Q1 := hid (heap_new x1 (.cells #[.int .i64 0, .bool false, .int .i64 0, .int .i32 0, .slice none 0 0] 28)); have Z1 : Hid (wr.heap.size < x1.heap.size) := (by have := hb1.size; simp at this; show _ < _; omega); obtain ⟨p0, p1, p2, p3, p4, p5, p6⟩ := cells7 P1.out; clear hb1) | (go_at_call 7; refine (HNF.out _).mono ?_; rintro e x2 ⟨rfl, hb2⟩; clear HNF; have I2 := hid ((I1.out.new hb2).al (.cells #[.int .i64 0, .bool false, .int .i64 0, .int .i32 0, .slice none 0 0] 28)); have P2 := hid (heap_alloc_at (o' := (.cells #[.int .i64 0, .bool false, .int .i64 0, .int .i32 0, .slice none 0 0] 28)) ((hb2.block _ (lt_of_heap P1.out)).trans P1.out)); have Q2 := hid (heap_alloc_at (o' := (.cells #[.int .i64 0, .bool false, .int .i64 0, .int .i32 0, .slice none 0 0] 28)) ((hb2.block _ (lt_of_heap Q1.out)).trans Q1.out)); have R2 := hid (heap_new x2 (.cells #[.int .i64 0, .bool false, .int .i64 0, .int .i32 0, .slice none 0 0] 28)); have Z2 : Hid (x1.heap.size < x2.heap.size) := (by have := hb2.size; simp at this; show _ < _; omega); obtain ⟨p0, p1, p2, p3, p4, p5, p6⟩ := cells7 P2.out; obtain ⟨a0, a1, a2, a3, a4⟩ := cells5 Q2.out; obtain ⟨b0, b1, b2, b3, b4⟩ := cells5 R2.out; clear hb2) | (go_at_call 8; refine (HNW.out _).mono ?_; rintro e w' ⟨rfl, rfl⟩; clear HNW) | (go_at_call 9; refine (HNS.out _).mono ?_; rintro e w' ⟨rfl, rfl⟩; clear HNS) | (go_at_call 6; refine (HZA.out _ S I2.out).mono ?_; rintro e x3 ⟨pk, pr, q, av, cv, T3, S3, rfl, hq, hB, hTS, _, hI, hf⟩; clear HZA; have HQ := hid hq; have HB3 := hid (hb_al hB (.cells #[.int .i64 0, .bool pk, .int .i64 pr, .int .i32 q, .slice av L.length cv] 28)); have HTS := hid hTS; have I3 := hid (hI.al (.cells #[.int .i64 0, .bool pk, .int .i64 pr, .int .i32 q, .slice av L.length cv] 28)); obtain ⟨hp, np⟩ := hf _ _ P2.out (HNO.out _ (Nat.le_refl _)); have P3 := hid (heap_alloc_at (o' := (.cells #[.int .i64 0, .bool pk, .int .i64 pr, .int .i32 q, .slice av L.length cv] 28)) hp); have U3 := hid (heap_new x3 (.cells #[.int .i64 0, .bool pk, .int .i64 pr, .int .i32 q, .slice av L.length cv] 28)); have NU : Hid (¬ S3 x3.heap.size) := hI.no _ (Nat.le_refl _); obtain ⟨p0, p1, p2, p3, p4, p5, p6⟩ := cells7 P3.out; obtain ⟨u0, u1, u2, u3, u4⟩ := cells5 U3.out; clear hq hB hTS hI hf hp np) | (go_at_call 6; refine (HGA.out _ S3 I3.out).mono ?_; rintro e x4 ⟨pk2, pr2, q2, av2, cv2, T4, S4, rfl, hq, hB, _, hC, hI, hf⟩; clear HGA; obtain ⟨rfl, rfl⟩ := HQ.out.eq hq; have HB4 := hid (hb_al (hb_ch HB3.out hC HTS.out) (.cells #[.int .i64 0, .bool pk2, .int .i64 pr2, .int .i32 q2, .slice av2 L.length cv2] 28)); have HG4 := hid (hb_al hB (.cells #[.int .i64 0, .bool pk2, .int .i64 pr2, .int .i32 q2, .slice av2 L.length cv2] 28)); have I4 := hid (hI.al (.cells #[.int .i64 0, .bool pk2, .int .i64 pr2, .int .i32 q2, .slice av2 L.length cv2] 28)); obtain ⟨hu, _⟩ := hf _ _ U3.out NU.out; have U4 := hid (heap_alloc_at (o' := (.cells #[.int .i64 0, .bool pk2, .int .i64 pr2, .int .i32 q2, .slice av2 L.length cv2] 28)) hu); have V4 := hid (heap_new x4 (.cells #[.int .i64 0, .bool pk2, .int .i64 pr2, .int .i32 q2, .slice av2 L.length cv2] 28)); obtain ⟨u0, u1, u2, u3, u4⟩ := cells5 U4.out; obtain ⟨v0, v1, v2, v3, v4⟩ := cells5 V4.out; clear hq hB hC hI hf hu) | (go_at_call 10; refine (n_same HB4.out HG4.out HLB.out.1 HLB.out.2).mono ?_; rintro e x5 ⟨rfl, hb5⟩; have I5 := hid (I4.out.new hb5); have hu5 := (hb5.block _ (lt_of_heap U4.out)).trans U4.out; have hv5 := (hb5.block _ (lt_of_heap V4.out)).trans V4.out; obtain ⟨u0, u1, u2, u3, u4⟩ := cells5 hu5; obtain ⟨v0, v1, v2, v3, v4⟩ := cells5 hv5; clear hb5 hu5 hv5))
        go_roundg k
        case measure => omega
        case rel => exact ⟨j + 1, s2, S4, by omega, by go_num, I5.out⟩
      · have hk1I : ¬ (ok : Int) = 1 := hk1
        have HLB : Hid (s.l.length ≤ 65536 ∧ ∀ y ∈ s.l, y.hs.length ≤ 1024) := ⟨HI.out.o1.ok.n, HI.out.hh⟩
        obtain ⟨D, hD⟩ : ∃ D, D = decide (0 < s.l.length) := ⟨_, rfl⟩
        have HZF : Hid (∀ x S, N0 w z g s s x S → Calls Try.prog 7 #[.pointer (some ⟨z, 0, none⟩)] x fun e x' => ∃ pk pr q av cv T S', e = .returned (.tuple #[.agg #[.int .i64 0, .bool pk, .int .i64 pr, .int .i32 q, .slice av s.l.length cv], .bool D]) ∧ Hb (.slice av s.l.length cv) s.l x' T ∧ (∀ i, T i → ¬ S' i) ∧ Ch S x x' ∧ N0 w z g (flS s) s x' S' ∧ ∀ p o, x.heap[p]? = some o → ¬ S p → x'.heap[p]? = some o ∧ ¬ S' p) := fun x S h => by rw [hD]; exact n_zflush h
        have HGF : Hid (∀ x S, N0 w z g (flS s) s x S → Calls Try.prog 7 #[.pointer (some ⟨g, 0, none⟩)] x fun e x' => ∃ pk pr q av cv T S', e = .returned (.tuple #[.agg #[.int .i64 0, .bool pk, .int .i64 pr, .int .i32 q, .slice av s.l.length cv], .bool D]) ∧ Hb (.slice av s.l.length cv) s.l x' T ∧ (∀ i, T i → ¬ S' i) ∧ Ch S x x' ∧ N0 w z g (flS s) (flS s) x' S' ∧ ∀ p o, x.heap[p]? = some o → ¬ S p → x'.heap[p]? = some o ∧ ¬ S' p) := fun x S h => by rw [hD]; exact n_gflush h
        have HZS : Hid (∀ x S, N0 w z g (flS s) (flS s) x S → Calls Try.prog 9 #[.pointer (some ⟨z, 0, none⟩)] x fun e x' => e = .returned (.int .i32 (flS s).q) ∧ x' = x) := fun x S h => two_zseq h.two
        have HGS : Hid (∀ x S, N0 w z g (flS s) (flS s) x S → Calls Try.prog 9 #[.pointer (some ⟨g, 0, none⟩)] x fun e x' => e = .returned (.int .i32 (flS s).q) ∧ x' = x) := fun x S h => two_gseq h.two
        generalize flS s = s2 at *
        clear hVr hTt hMm hD HNC
        go_wp2_with (first | (go_at_call 6; refine (HNA.out _).mono ?_; rintro e x1 ⟨rfl, hb1⟩; clear HNA; have I1 := hid ((HIa.out.new hb1).al (.cells #[.int .i64 0, .bool false, .int .i64 0, .int .i32 0, .slice none 0 0] 28)); have P1 := hid (heap_alloc_at (o' := (.cells #[.int .i64 0, .bool false, .int .i64 0, .int .i32 0, .slice none 0 0] 28)) ((hb1.block _ (lt_of_heap HP.out)).trans HP.out)); have Q1 := hid (heap_new x1 (.cells #[.int .i64 0, .bool false, .int .i64 0, .int .i32 0, .slice none 0 0] 28)); have Z1 : Hid (wr.heap.size < x1.heap.size) := (by have := hb1.size; simp at this; show _ < _; omega); obtain ⟨p0, p1, p2, p3, p4, p5, p6⟩ := cells7 P1.out; clear hb1) | (go_at_call 7; refine (HNF.out _).mono ?_; rintro e x2 ⟨rfl, hb2⟩; clear HNF; have I2 := hid ((I1.out.new hb2).al (.cells #[.int .i64 0, .bool false, .int .i64 0, .int .i32 0, .slice none 0 0] 28)); have P2 := hid (heap_alloc_at (o' := (.cells #[.int .i64 0, .bool false, .int .i64 0, .int .i32 0, .slice none 0 0] 28)) ((hb2.block _ (lt_of_heap P1.out)).trans P1.out)); have Q2 := hid (heap_alloc_at (o' := (.cells #[.int .i64 0, .bool false, .int .i64 0, .int .i32 0, .slice none 0 0] 28)) ((hb2.block _ (lt_of_heap Q1.out)).trans Q1.out)); have R2 := hid (heap_new x2 (.cells #[.int .i64 0, .bool false, .int .i64 0, .int .i32 0, .slice none 0 0] 28)); have Z2 : Hid (x1.heap.size < x2.heap.size) := (by have := hb2.size; simp at this; show _ < _; omega); obtain ⟨p0, p1, p2, p3, p4, p5, p6⟩ := cells7 P2.out; obtain ⟨a0, a1, a2, a3, a4⟩ := cells5 Q2.out; obtain ⟨b0, b1, b2, b3, b4⟩ := cells5 R2.out; clear hb2) | (go_at_call 8; refine (HNW.out _).mono ?_; rintro e w' ⟨rfl, rfl⟩; clear HNW) | (go_at_call 9; refine (HNS.out _).mono ?_; rintro e w' ⟨rfl, rfl⟩; clear HNS) | (go_at_call 7; refine (HZF.out _ S I2.out).mono ?_; rintro e x3 ⟨pk, pr, q, av, cv, T3, S3, rfl, hB, hTS, _, hI, hf⟩; clear HZF; obtain ⟨q3, nq3⟩ := hf _ _ Q2.out (HNO.out _ (Nat.le_of_lt Z1.out)); obtain ⟨r3, nr3⟩ := hf _ _ R2.out (HNO.out _ (Nat.le_of_lt (Nat.lt_trans Z1.out Z2.out))); have K3 := hid (zb_end2 (v0 := .int .i64 0) (v1 := .bool pk) (v2 := .int .i64 pr) (v3 := .int .i32 q) (v4 := .slice av s.l.length cv) q3).2; have I3 := hid (hI.far (Nat.le_trans HSZ.out (Nat.le_of_lt Z1.out)) nq3 K3.out); have Q3 := hid (zb_at (v0 := .int .i64 0) (v1 := .bool pk) (v2 := .int .i64 pr) (v3 := .int .i32 q) (v4 := .slice av s.l.length cv) q3); have R3 := hid ((K3.out.block _ (lt_of_heap r3) (fun e => Nat.lt_irrefl _ (e ▸ Z2.out))).trans r3); have NQ := hid nq3; have NR := hid nr3; have HB3 := hid (hb_ch hB K3.out (fun i a e => hb_nb hB q3 (e ▸ a))); have HTS := hid hTS; obtain ⟨a0, a1, a2, a3, a4⟩ := cells5 q3; have fa := fun o => froz_of (i := o) q3; have q3' := hid q3; clear hB hTS hI hf q3 nq3 r3 nr3) | (go_at_call 7; refine (HGF.out _ S3 I3.out).mono ?_; rintro e x4 ⟨pk2, pr2, q2, av2, cv2, T4, S4, rfl, hB, _, hC, hI, hf⟩; clear HGF; obtain ⟨q4, nq4⟩ := hf _ _ Q3.out NQ.out; obtain ⟨r4, nr4⟩ := hf _ _ R3.out NR.out; have K4 := hid (zb_end2 (v0 := .int .i64 0) (v1 := .bool pk2) (v2 := .int .i64 pr2) (v3 := .int .i32 q2) (v4 := .slice av2 s.l.length cv2) r4).2; have I4 := hid (hI.far (Nat.le_trans HSZ.out (Nat.le_of_lt (Nat.lt_trans Z1.out Z2.out))) nr4 K4.out); have R4 := hid (zb_at (v0 := .int .i64 0) (v1 := .bool pk2) (v2 := .int .i64 pr2) (v3 := .int .i32 q2) (v4 := .slice av2 s.l.length cv2) r4); have Q4 := hid ((K4.out.block _ (lt_of_heap q4) (fun e => Nat.lt_irrefl _ (e ▸ Z2.out))).trans q4); have hB3' := hb_ch HB3.out hC HTS.out; have HB4 := hid (hb_ch hB3' K4.out (fun i a e => hb_nb hB3' r4 (e ▸ a))); have HG4 := hid (hb_ch hB K4.out (fun i a e => hb_nb hB r4 (e ▸ a))); obtain ⟨b0, b1, b2, b3, b4⟩ := cells5 r4; have fb := fun o => froz_of (i := o) r4; obtain ⟨a0, a1, a2, a3, a4⟩ := cells5 Q4.out; obtain ⟨c0, c1, c2, c3, c4⟩ := cells5 R4.out; clear hB hC hI hf q4 nq4 r4 nr4 hB3') | (go_at_call 10; refine (n_same HB4.out HG4.out HLB.out.1 HLB.out.2).mono ?_; rintro e x5 ⟨rfl, hb5⟩; have I5 := hid (I4.out.new hb5); clear hb5) | (go_at_call 9; refine (HZS.out _ S4 I5.out).mono ?_; rintro e w' ⟨rfl, rfl⟩; clear HZS) | (go_at_call 9; refine (HGS.out _ S4 I5.out).mono ?_; rintro e w' ⟨rfl, rfl⟩))
        go_roundg k
        case measure => omega
        case rel => exact ⟨j + 1, s2, S4, by omega, by go_num, I5.out⟩
    · have hj : j = os.length := by omega
      have i2 : ¬ (j : Int) < os.length := by omega
      have HZC := hid (n_zclone HI.out)
      clear HV HT HM
      go_wp2_with (first | (go_at_call 11; refine (HNC.out _).mono ?_; rintro e w' ⟨rfl, rfl⟩; clear HNC) | (go_at_call 11; refine HZC.out.mono ?_; rintro e w' ⟨rfl, hb⟩; have HB := hid hb; clear hb))
      go_ret
      exact ⟨rfl, HI.out.bel.trans (HB.out.mono HI.out.bel.size)⟩
end Go.Proofs.Ytlbkkeoffeohnab
