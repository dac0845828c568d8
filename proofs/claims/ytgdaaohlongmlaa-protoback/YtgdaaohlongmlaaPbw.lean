/- What is written is read again; with a byte more, or fewer, it isn't: plain facts, and the walk. -/
import Derived.Test.YtgdaaohlongmlaaPun
import Derived.Deep.OwnRows
namespace Go.Proofs.Ytgdaaohlongmlaa
open Go.RowKit
theorem row1 {w : World} {g V : Nat} (h : w.heap[g]? = some (.cells #[.int .u8 V] 5 (0, 0))) : w.ownsRow g 5 1 (.slice (some ⟨g, 0, none⟩) 1 1) 1 (bc [V]) :=
  ⟨rfl, Or.inr ⟨g, 1, _, rfl, Nat.le_refl _, h, Nat.le_refl _, by unfold maxLen; omega, rfl, rfl⟩⟩
theorem bl_apd (s t : ByteArray) : bl (s ++ t) = bl s ++ bl t := by unfold bl; simp
theorem cut_bl {s : ByteArray} {c : Nat} (h : c < s.size) : ∃ t, t ≠ [] ∧ bl s = bl (s.extract 0 c) ++ t := by
  refine ⟨(bl s).drop c, ?_, ?_⟩
  · intro h2
    have := congrArg List.length h2
    rw [List.length_drop, bl_len] at this
    simp at this; omega
  · rw [bl_ext, List.drop_zero, Nat.sub_zero, List.take_append_drop]
theorem ra_cut {r : Rq} {c E : Nat} {x : Rq} (h : askE r = 0) (ho : I64 r.o) (ht : I64 r.t) (hm : I64 r.m) (hc : c < (askS r).size) (hx : raQ ((askS r).extract 0 c) = (x, E)) : E ≠ 0 := by
  intro hE
  subst hE
  obtain ⟨hg, hb⟩ := raQ_0 hx
  obtain ⟨t, ht0, hs⟩ := cut_bl hc
  rw [hb] at hs
  have h1 := raQ_of hg hs
  rw [ra_ask h ho ht hm, if_neg ht0] at h1
  have := congrArg Prod.snd h1
  simp [finQ] at this
theorem ra_more {r : Rq} (b : Nat) (h : askE r = 0) (ho : I64 r.o) (ht : I64 r.t) (hm : I64 r.m) : raQ (askS r ++ bs [b]) = (zq, 22) := by
  have e : askS r = bs (askL r) := by unfold askS; rw [if_pos h]
  have h2 : bl (askS r ++ bs [b]) = askL (nrm r) ++ bl (bs [b]) := by rw [bl_apd, e, bl_bs _ (askL_byte r), askL_nrm]
  rw [raQ_of (Gq_nrm h ho ht hm) h2]
  have : bl (bs [b]) ≠ [] := by
    intro h3
    have := congrArg List.length h3
    rw [bl_len, size_bs] at this
    simp at this
  rw [if_neg this]; rfl
theorem rr_cut {r : Rp} {c E : Nat} {x : Rp} (h : repE r = 0) (ho : I64 r.o) (hn : I64 r.n) (hc : c < (repS r).size) (hx : rrQ ((repS r).extract 0 c) = (x, E)) : E ≠ 0 := by
  intro hE
  subst hE
  obtain ⟨hg, hb⟩ := rrQ_0 hx
  obtain ⟨t, ht0, hs⟩ := cut_bl hc
  rw [hb] at hs
  have h1 := rrQ_of hg hs
  rw [ra_rep h ho hn, if_neg ht0] at h1
  have := congrArg Prod.snd h1
  simp [finP] at this
theorem rr_more {r : Rp} (b : Nat) (h : repE r = 0) (ho : I64 r.o) (hn : I64 r.n) : rrQ (repS r ++ bs [b]) = (zp, 22) := by
  have e : repS r = bs (repL r) := by unfold repS; rw [if_pos h]
  have h2 : bl (repS r ++ bs [b]) = repL (nrmP r) ++ bl (bs [b]) := by rw [bl_apd, e, bl_bs _ (repL_byte r), repL_nrm]
  rw [rrQ_of (Gp_nrm h ho hn) h2]
  have : bl (bs [b]) ≠ [] := by
    intro h3
    have := congrArg List.length h3
    rw [bl_len, size_bs] at this
    simp at this
  rw [if_neg this]; rfl
theorem askS_pos {r : Rq} (h : askE r = 0) : 1 ≤ (askS r).size ∧ (askS r).size ≤ 16777300 := by
  unfold askS; rw [if_pos h, size_bs]; exact askL_len h
theorem repS_pos {r : Rp} (h : repE r = 0) : 1 ≤ (repS r).size ∧ (repS r).size ≤ 1073741900 := by
  unfold repS; rw [if_pos h, size_bs]; exact repL_len h
theorem readask_cut (r : Rq) (S : ByteArray) (hS : askS r = S) (h : askE r = 0) (ho : I64 r.o) (ht : I64 r.t) (hm : I64 r.m) (c : Nat) (hc : c < S.size) (w : World) :
    Calls Try.prog 8 #[.string (S.extract 0 c)] w fun e w' => ∃ (k : Int) (d : ByteArray) (o t m : Int) (E : Nat), e = .returned (.tuple #[.agg #[.int .i64 k, .string d, .int .i64 o, .int .i64 t, .int .i64 m], .int .i64 E]) ∧ ((E : Int) == 0) = false ∧ Below w.heap.size w w' := by
  subst hS
  refine (readask_any _ w ?_).mono ?_
  · have := askS_pos h; rw [ByteArray.size_extract]; omega
  · rintro e w' ⟨rfl, b⟩
    obtain ⟨⟨⟨k, d, o, t, m⟩, E⟩, hx⟩ : ∃ x, raQ ((askS r).extract 0 c) = x := ⟨_, rfl⟩
    rw [hx]
    have hE := ra_cut h ho ht hm hc hx
    exact ⟨k, d, o, t, m, E, rfl, by rw [beq_eq_false_iff_ne]; omega, b⟩
theorem readreply_cut (r : Rp) (S : ByteArray) (hS : repS r = S) (h : repE r = 0) (ho : I64 r.o) (hn : I64 r.n) (c : Nat) (hc : c < S.size) (w : World) :
    Calls Try.prog 12 #[.string (S.extract 0 c)] w fun e w' => ∃ (k rr : Int) (b : Bool) (o n : Int) (d : ByteArray) (E : Nat), e = .returned (.tuple #[.agg #[.int .i64 k, .int .i64 rr, .bool b, .int .i64 o, .int .i64 n, .string d], .int .i64 E]) ∧ ((E : Int) != 0) = true ∧ Below w.heap.size w w' := by
  subst hS
  refine (readreply_any _ w ?_).mono ?_
  · have := repS_pos h; rw [ByteArray.size_extract]; omega
  · rintro e w' ⟨rfl, b⟩
    obtain ⟨⟨⟨k, rr, bb, o, n, d⟩, E⟩, hx⟩ : ∃ x, rrQ ((repS r).extract 0 c) = x := ⟨_, rfl⟩
    rw [hx]
    have hE := rr_cut h ho hn hc hx
    exact ⟨k, rr, bb, o, n, d, E, rfl, by rw [bne_iff_ne]; omega, b⟩
set_option maxHeartbeats 2000000 in
set_option maxRecDepth 20000 in
theorem back_walk (k : Int) (d : ByteArray) (o t m : Int) (pk pr : Int) (pb : Bool) (po pn : Int) (pd : ByteArray) (cut more : Nat) (w : World) (ho : I64 o) (ht : I64 t) (hm : I64 m) (hpo : I64 po) (hpn : I64 pn) (hcut : cut < 65536) (hmore : more < 256) :
    Calls Try.prog 3 #[.agg #[.int .i64 k, .string d, .int .i64 o, .int .i64 t, .int .i64 m], .agg #[.int .i64 pk, .int .i64 pr, .bool pb, .int .i64 po, .int .i64 pn, .string pd], .int .u16 cut, .int .u8 more] w fun e w' => e = .returned (.bool true) ∧ Below w.heap.size w w' := by
  have CS := hid (fun w1 => speaks_any w1)
  have CA := hid (fun w1 => ask_any ⟨k, d, o, t, m⟩ w1)
  have CP := hid (fun w1 => reply_any ⟨pk, pr, pb, po, pn, pd⟩ w1)
  have g0 : ((w.alloc (.cells #[.int .i64 k, .string d, .int .i64 o, .int .i64 t, .int .i64 m] 24)).alloc (.cells #[.int .i64 pk, .int .i64 pr, .bool pb, .int .i64 po, .int .i64 pn, .string pd] 27)).heap[w.heap.size]? = some (.cells #[.int .i64 k, .string d, .int .i64 o, .int .i64 t, .int .i64 m] 24 (0, 0)) := heap_alloc_at (heap_new _ _)
  have g1 : ((w.alloc (.cells #[.int .i64 k, .string d, .int .i64 o, .int .i64 t, .int .i64 m] 24)).alloc (.cells #[.int .i64 pk, .int .i64 pr, .bool pb, .int .i64 po, .int .i64 pn, .string pd] 27)).heap[w.heap.size + 1]? = some (.cells #[.int .i64 pk, .int .i64 pr, .bool pb, .int .i64 po, .int .i64 pn, .string pd] 27 (0, 0)) := heap_new' _ _ _ (by simp)
  have b0 : Below w.heap.size w ((w.alloc (.cells #[.int .i64 k, .string d, .int .i64 o, .int .i64 t, .int .i64 m] 24)).alloc (.cells #[.int .i64 pk, .int .i64 pr, .bool pb, .int .i64 po, .int .i64 pn, .string pd] 27)) := ((Below.refl _ _).alloc (Nat.le_refl _) _).alloc (by simp) _
  go_enter Try.func3, Try.ntmps3
  go_wp2_with fail
  generalize (w.alloc (.cells #[.int .i64 k, .string d, .int .i64 o, .int .i64 t, .int .i64 m] 24)).alloc (.cells #[.int .i64 pk, .int .i64 pr, .bool pb, .int .i64 po, .int .i64 pn, .string pd] 27) = w0 at *
  refine (CS.out w0).mono ?_
  rintro e w1 ⟨rfl, b1⟩
  have G0 := hid ((b1.block _ (lt_of_heap g0)).trans g0)
  have G1 := hid ((b1.block _ (lt_of_heap g1)).trans g1)
  have B1 := hid (b0.trans (b1.mono b0.size))
  clear g0 g1 b0 b1 CS
  have c0 : w1.cell? ⟨w.heap.size, 0, none⟩ = some (.int .i64 k) := (cell_of G0.out).trans rfl
  have c1 : w1.cell? ⟨w.heap.size, 1, none⟩ = some (.string d) := (cell_of G0.out).trans rfl
  have c2 : w1.cell? ⟨w.heap.size, 2, none⟩ = some (.int .i64 o) := (cell_of G0.out).trans rfl
  have c3 : w1.cell? ⟨w.heap.size, 3, none⟩ = some (.int .i64 t) := (cell_of G0.out).trans rfl
  have c4 : w1.cell? ⟨w.heap.size, 4, none⟩ = some (.int .i64 m) := (cell_of G0.out).trans rfl
  go_wp2_with fail
  have CA1 := CA.out w1
  by_cases hE : askE ⟨k, d, o, t, m⟩ = 0
  · obtain ⟨N, hN⟩ : ∃ N, nrm ⟨k, d, o, t, m⟩ = N := ⟨_, rfl⟩
    obtain ⟨S, hS⟩ : ∃ S, askS ⟨k, d, o, t, m⟩ = S := ⟨_, rfl⟩
    have hS1 := askS_pos hE
    have CR := hid (fun w1 => readask_any (askS ⟨k, d, o, t, m⟩) w1 (askS_size _))
    rw [ra_ask hE ho ht hm, hN, hS] at CR
    have CSA := hid (fun w1 => sameask_any N ⟨k, d, o, t, m⟩ w1)
    rw [sameQ_yes (by rw [← hN, askE_nrm]; exact hE) hE (by rw [← hN]; exact askL_nrm _)] at CSA
    have CC := hid (fun c hc w1 => readask_cut ⟨k, d, o, t, m⟩ S hS hE ho ht hm c hc w1)
    have CM := hid (fun w1 => readask_any (askS ⟨k, d, o, t, m⟩ ++ bs [more]) w1 (by rw [ByteArray.size_append, size_bs]; simp; omega))
    rw [ra_more more hE ho ht hm, hS, show rqV (zq, 22) = .tuple #[.agg #[.int .i64 0, .string ⟨#[]⟩, .int .i64 0, .int .i64 0, .int .i64 0], .int .i64 22] from rfl] at CM
    rw [asV_ok hE, show bs (askL ⟨k, d, o, t, m⟩) = S by rw [← hS]; unfold askS; rw [if_pos hE]] at CA1
    rw [hS] at hS1
    have hmk : N.k = k := by rw [← hN]; rfl
    obtain ⟨nk, nd, no, nt, nm⟩ := N
    dsimp only at hmk
    subst hmk
    clear hE hN hS CA
    refine CA1.mono ?_
    rintro e w2 ⟨rfl, b2⟩
    have H0 := hid ((b2.block _ (lt_of_heap G0.out)).trans G0.out)
    clear G0
    have G0 := H0
    clear H0
    have H1 := hid ((b2.block _ (lt_of_heap G1.out)).trans G1.out)
    clear G1
    have G1 := H1
    clear H1
    have B2 := hid (B1.out.trans (b2.mono B1.out.size))
    clear b2 B1 c0 c1 c2 c3 c4
    go_wp2_with fail
    refine (CR.out w2).mono ?_
    rintro e w3 ⟨rfl, b3⟩
    have H0 := hid ((b3.block _ (lt_of_heap G0.out)).trans G0.out)
    clear G0
    have G0 := H0
    clear H0
    have H1 := hid ((b3.block _ (lt_of_heap G1.out)).trans G1.out)
    clear G1
    have G1 := H1
    clear H1
    have B3 := hid (B2.out.trans (b3.mono B2.out.size))
    have hlg := lt_of_heap G0.out
    clear b3 B2 CR
    rw [show rqV (⟨nk, nd, no, nt, nm⟩, 0) = .tuple #[.agg #[.int .i64 nk, .string nd, .int .i64 no, .int .i64 nt, .int .i64 nm], .int .i64 0] from rfl]
    have c0 : w3.cell? ⟨w.heap.size, 0, none⟩ = some (.int .i64 nk) := (cell_of G0.out).trans rfl
    have c1 : w3.cell? ⟨w.heap.size, 1, none⟩ = some (.string d) := (cell_of G0.out).trans rfl
    have c2 : w3.cell? ⟨w.heap.size, 2, none⟩ = some (.int .i64 o) := (cell_of G0.out).trans rfl
    have c3 : w3.cell? ⟨w.heap.size, 3, none⟩ = some (.int .i64 t) := (cell_of G0.out).trans rfl
    have c4 : w3.cell? ⟨w.heap.size, 4, none⟩ = some (.int .i64 m) := (cell_of G0.out).trans rfl
    go_wp2_with fail
    have X0 : Hid ((w3.alloc (.cells #[.int .i64 nk, .string nd, .int .i64 no, .int .i64 nt, .int .i64 nm] 24)).heap[w3.heap.size]? = some (.cells #[.int .i64 nk, .string nd, .int .i64 no, .int .i64 nt, .int .i64 nm] 24 (0, 0))) := hid (heap_new _ _)
    have X1 : Hid ((w3.alloc (.cells #[.int .i64 nk, .string nd, .int .i64 no, .int .i64 nt, .int .i64 nm] 24)).heap[w.heap.size]? = _) := hid (heap_alloc_at G0.out)
    have X2 : Hid ((w3.alloc (.cells #[.int .i64 nk, .string nd, .int .i64 no, .int .i64 nt, .int .i64 nm] 24)).heap[w.heap.size + 1]? = _) := hid (heap_alloc_at G1.out)
    have B4 := hid (B3.out.alloc B3.out.size (.cells #[.int .i64 nk, .string nd, .int .i64 no, .int .i64 nt, .int .i64 nm] 24))
    generalize w3.alloc (.cells #[.int .i64 nk, .string nd, .int .i64 no, .int .i64 nt, .int .i64 nm] 24) = w4 at *
    generalize w3.heap.size = QB at *
    clear c0 c1 c2 c3 c4 B3 G0 G1 hlg
    refine (CSA.out w4).mono ?_
    rintro e w5 ⟨rfl, b5⟩
    have Y0 := hid ((b5.block _ (lt_of_heap X0.out)).trans X0.out)
    have Y1 := hid ((b5.block _ (lt_of_heap X1.out)).trans X1.out)
    have G1 := hid ((b5.block _ (lt_of_heap X2.out)).trans X2.out)
    have B5 := hid (B4.out.trans (b5.mono B4.out.size))
    clear b5 B4 X0 X1 X2 CSA
    have c0 : w5.cell? ⟨QB, 0, none⟩ = some (.int .i64 nk) := (cell_of Y0.out).trans rfl
    have d0 : w5.cell? ⟨w.heap.size, 0, none⟩ = some (.int .i64 nk) := (cell_of Y1.out).trans rfl
    have hSz : ¬ (S.size : Int) = 0 := by omega
    obtain ⟨c, hc⟩ : ∃ c : Nat, (cut : Int) % (S.size : Int) = c := ⟨((cut : Int) % (S.size : Int)).toNat, by have := Int.emod_nonneg (cut : Int) hSz; omega⟩
    have hcl : c < S.size := by have := Int.emod_lt_of_pos (cut : Int) (show (0 : Int) < S.size by omega); omega
    have hct : (cut : Int).tmod (S.size : Int) = c := by rw [Int.tmod_eq_emod_of_nonneg (by omega)]; exact hc
    have hwc : IntKind.i64.wrap (cut : Int) = cut := wrapY (by omega) (by omega)
    have hcI : (c : Int) ≤ (S.size : Int) := by omega
    have hwcc : IntKind.i64.wrap (c : Int) = c := wrapY (by omega) (by omega)
    go_wp2_with fail
    refine (CC.out c hcl w5).mono ?_
    rintro e w6 ⟨ck, cd, co, ct, cm, CE, rfl, hce, b6⟩
    have H1 := hid ((b6.block _ (lt_of_heap G1.out)).trans G1.out)
    clear G1
    have G1 := H1
    clear H1
    have B6 := hid (B5.out.trans (b6.mono B5.out.size))
    clear b6 B5 Y0 Y1 CC c0 d0 hc hct hcl hcI hwcc hwc
    have hcv := conv_own (w := w6.alloc (.cells #[.int .u8 more] 5)) (l := [more]) (by intro b hb; rw [List.mem_singleton] at hb; omega) (row1 (heap_new _ _))
    have hz1 : (bs [more]).size = 1 := by rw [size_bs]; rfl
    have hsum : ¬ 9223372036854775807 < S.size + (bs [more]).size := by omega
    have B7 := hid (B6.out.alloc B6.out.size (.cells #[.int .u8 more] 5))
    have G7 : Hid ((w6.alloc (.cells #[.int .u8 more] 5)).heap[w.heap.size + 1]? = _) := hid (heap_alloc_at G1.out)
    go_wp2_with fail
    refine (CM.out _).mono ?_
    rintro e w8 ⟨rfl, b8⟩
    have B8 := hid (B7.out.trans (b8.mono B7.out.size))
    have G8 := hid ((b8.block _ (lt_of_heap G7.out)).trans G7.out)
    have hlg := lt_of_heap G8.out
    clear b8 B7 CM hcv G1 G7 B6
    go_upto_region 14 with fail
    have B9 := hid (B8.out.alloc B8.out.size (.cells #[.int .i64 0, .string ⟨#[]⟩, .int .i64 0, .int .i64 0, .int .i64 0] 24))
    have G1 : Hid ((w8.alloc (.cells #[.int .i64 0, .string ⟨#[]⟩, .int .i64 0, .int .i64 0, .int .i64 0] 24)).heap[w.heap.size + 1]? = _) := hid (heap_alloc_at G8.out)
    clear hlg G8 B8 hS1 hSz hsum hz1 hce
    generalize w8.alloc (.cells #[.int .i64 0, .string ⟨#[]⟩, .int .i64 0, .int .i64 0, .int .i64 0] 24) = w9 at *
    have c0 : w9.cell? ⟨w.heap.size + 1, 0, none⟩ = some (.int .i64 pk) := (cell_of G1.out).trans rfl
    have c1 : w9.cell? ⟨w.heap.size + 1, 1, none⟩ = some (.int .i64 pr) := (cell_of G1.out).trans rfl
    have c2 : w9.cell? ⟨w.heap.size + 1, 2, none⟩ = some (.bool pb) := (cell_of G1.out).trans rfl
    have c3 : w9.cell? ⟨w.heap.size + 1, 3, none⟩ = some (.int .i64 po) := (cell_of G1.out).trans rfl
    have c4 : w9.cell? ⟨w.heap.size + 1, 4, none⟩ = some (.int .i64 pn) := (cell_of G1.out).trans rfl
    have c5 : w9.cell? ⟨w.heap.size + 1, 5, none⟩ = some (.string pd) := (cell_of G1.out).trans rfl
    go_wp2_with fail
    by_cases hF : repE ⟨pk, pr, pb, po, pn, pd⟩ = 0
    · obtain ⟨M, hM⟩ : ∃ M, nrmP ⟨pk, pr, pb, po, pn, pd⟩ = M := ⟨_, rfl⟩
      obtain ⟨V, hV⟩ : ∃ V, repS ⟨pk, pr, pb, po, pn, pd⟩ = V := ⟨_, rfl⟩
      have hV1 := repS_pos hF
      have CR := hid (fun w1 => readreply_any (repS ⟨pk, pr, pb, po, pn, pd⟩) w1 (repS_size _))
      rw [ra_rep hF hpo hpn, hM, hV] at CR
      have CSA := hid (fun w1 => samereply_any M ⟨pk, pr, pb, po, pn, pd⟩ w1)
      rw [sameP_yes (by rw [← hM, repE_nrm]; exact hF) hF (by rw [← hM]; exact repL_nrm _)] at CSA
      have CC := hid (fun c hc w1 => readreply_cut ⟨pk, pr, pb, po, pn, pd⟩ V hV hF hpo hpn c hc w1)
      have CM := hid (fun w1 => readreply_any (repS ⟨pk, pr, pb, po, pn, pd⟩ ++ bs [more]) w1 (by rw [ByteArray.size_append, size_bs]; simp; omega))
      rw [rr_more more hF hpo hpn, hV, show rpV (zp, 22) = .tuple #[.agg #[.int .i64 0, .int .i64 0, .bool false, .int .i64 0, .int .i64 0, .string ⟨#[]⟩], .int .i64 22] from rfl] at CM
      have CP1 := CP.out w9
      rw [rsV_ok hF, show bs (repL ⟨pk, pr, pb, po, pn, pd⟩) = V by rw [← hV]; unfold repS; rw [if_pos hF]] at CP1
      rw [hV] at hV1
      have hmk : M.k = pk ∧ M.r = pr := by rw [← hM]; exact ⟨rfl, rfl⟩
      obtain ⟨mk, mr, mb, mo, mn, md⟩ := M
      obtain ⟨h1, h2⟩ := hmk
      dsimp only at h1 h2
      subst h1 h2
      clear hF hM hV CP
      refine CP1.mono ?_
      rintro e w10 ⟨rfl, b10⟩
      have H1 := hid ((b10.block _ (lt_of_heap G1.out)).trans G1.out)
      clear G1
      have G1 := H1
      clear H1
      have B10 := hid (B9.out.trans (b10.mono B9.out.size))
      clear b10 B9 c0 c1 c2 c3 c4 c5
      go_wp2_with fail
      refine (CR.out w10).mono ?_
      rintro e w11 ⟨rfl, b11⟩
      have H1 := hid ((b11.block _ (lt_of_heap G1.out)).trans G1.out)
      clear G1
      have G1 := H1
      clear H1
      have B11 := hid (B10.out.trans (b11.mono B10.out.size))
      have hlg := lt_of_heap G1.out
      clear b11 B10 CR
      rw [show rpV (⟨mk, mr, mb, mo, mn, md⟩, 0) = .tuple #[.agg #[.int .i64 mk, .int .i64 mr, .bool mb, .int .i64 mo, .int .i64 mn, .string md], .int .i64 0] from rfl]
      have c0 : w11.cell? ⟨w.heap.size + 1, 0, none⟩ = some (.int .i64 mk) := (cell_of G1.out).trans rfl
      have c1 : w11.cell? ⟨w.heap.size + 1, 1, none⟩ = some (.int .i64 mr) := (cell_of G1.out).trans rfl
      have c2 : w11.cell? ⟨w.heap.size + 1, 2, none⟩ = some (.bool pb) := (cell_of G1.out).trans rfl
      have c3 : w11.cell? ⟨w.heap.size + 1, 3, none⟩ = some (.int .i64 po) := (cell_of G1.out).trans rfl
      have c4 : w11.cell? ⟨w.heap.size + 1, 4, none⟩ = some (.int .i64 pn) := (cell_of G1.out).trans rfl
      have c5 : w11.cell? ⟨w.heap.size + 1, 5, none⟩ = some (.string pd) := (cell_of G1.out).trans rfl
      go_wp2_with fail
      have X0 : Hid ((w11.alloc (.cells #[.int .i64 mk, .int .i64 mr, .bool mb, .int .i64 mo, .int .i64 mn, .string md] 27)).heap[w11.heap.size]? = some (.cells #[.int .i64 mk, .int .i64 mr, .bool mb, .int .i64 mo, .int .i64 mn, .string md] 27 (0, 0))) := hid (heap_new _ _)
      have X1 : Hid ((w11.alloc (.cells #[.int .i64 mk, .int .i64 mr, .bool mb, .int .i64 mo, .int .i64 mn, .string md] 27)).heap[w.heap.size + 1]? = _) := hid (heap_alloc_at G1.out)
      have B12 := hid (B11.out.alloc B11.out.size (.cells #[.int .i64 mk, .int .i64 mr, .bool mb, .int .i64 mo, .int .i64 mn, .string md] 27))
      generalize w11.alloc (.cells #[.int .i64 mk, .int .i64 mr, .bool mb, .int .i64 mo, .int .i64 mn, .string md] 27) = w12 at *
      generalize w11.heap.size = PB at *
      clear c0 c1 c2 c3 c4 c5 B11 G1
      refine (CSA.out w12).mono ?_
      rintro e w13 ⟨rfl, b13⟩
      have Y0 := hid ((b13.block _ (lt_of_heap X0.out)).trans X0.out)
      have Y1 := hid ((b13.block _ (lt_of_heap X1.out)).trans X1.out)
      have B13 := hid (B12.out.trans (b13.mono B12.out.size))
      clear b13 B12 X0 X1 CSA
      have c0 : w13.cell? ⟨PB, 0, none⟩ = some (.int .i64 mk) := (cell_of Y0.out).trans rfl
      have c1 : w13.cell? ⟨PB, 1, none⟩ = some (.int .i64 mr) := (cell_of Y0.out).trans rfl
      have d0 : w13.cell? ⟨w.heap.size + 1, 0, none⟩ = some (.int .i64 mk) := (cell_of Y1.out).trans rfl
      have d1 : w13.cell? ⟨w.heap.size + 1, 1, none⟩ = some (.int .i64 mr) := (cell_of Y1.out).trans rfl
      have hVz : ¬ (V.size : Int) = 0 := by omega
      obtain ⟨c, hc⟩ : ∃ c : Nat, (cut : Int) % (V.size : Int) = c := ⟨((cut : Int) % (V.size : Int)).toNat, by have := Int.emod_nonneg (cut : Int) hVz; omega⟩
      have hcl : c < V.size := by have := Int.emod_lt_of_pos (cut : Int) (show (0 : Int) < V.size by omega); omega
      have hct : (cut : Int).tmod (V.size : Int) = c := by rw [Int.tmod_eq_emod_of_nonneg (by omega)]; exact hc
      have hwc : IntKind.i64.wrap (cut : Int) = cut := wrapY (by omega) (by omega)
      have hcI : (c : Int) ≤ (V.size : Int) := by omega
      have hwcc : IntKind.i64.wrap (c : Int) = c := wrapY (by omega) (by omega)
      go_wp2_with fail
      refine (CC.out c hcl w13).mono ?_
      rintro e w14 ⟨ck, cr, cb, co, cn, cd, CE, rfl, hce, b14⟩
      have B14 := hid (B13.out.trans (b14.mono B13.out.size))
      clear b14 B13 Y0 Y1 CC c0 c1 d0 d1 hc hct hcl hcI hwcc hwc
      have hcv := conv_own (w := w14.alloc (.cells #[.int .u8 more] 5)) (l := [more]) (by intro b hb; rw [List.mem_singleton] at hb; omega) (row1 (heap_new _ _))
      have hz1 : (bs [more]).size = 1 := by rw [size_bs]; rfl
      have hsum : ¬ 9223372036854775807 < V.size + (bs [more]).size := by omega
      have B15 := hid (B14.out.alloc B14.out.size (.cells #[.int .u8 more] 5))
      go_wp2_with fail
      refine (CM.out _).mono ?_
      rintro e w16 ⟨rfl, b16⟩
      have B16 := hid (B15.out.trans (b16.mono B15.out.size))
      clear b16 B15 CM hcv
      go_wp2_with fail
      go_ret
      exact ⟨rfl, B16.out.alloc B16.out.size _⟩
    · have hS0 : repS ⟨pk, pr, pb, po, pn, pd⟩ = ⟨#[]⟩ := by unfold repS; rw [if_neg hF]
      have CSA := hid (fun w1 => samereply_any ⟨pk, pr, pb, po, pn, pd⟩ ⟨pk, pr, pb, po, pn, pd⟩ w1)
      rw [sameP_no hF] at CSA
      have CP1 := CP.out w9
      unfold rsV at CP1
      rw [hS0] at CP1
      have hnf : ((repE ⟨pk, pr, pb, po, pn, pd⟩ : Int) != 0) = true := by rw [bne_iff_ne]; omega
      generalize repE ⟨pk, pr, pb, po, pn, pd⟩ = F at *
      clear hS0 hF CP
      refine CP1.mono ?_
      rintro e w10 ⟨rfl, b10⟩
      have H1 := hid ((b10.block _ (lt_of_heap G1.out)).trans G1.out)
      clear G1
      have G1 := H1
      clear H1
      have B10 := hid (B9.out.trans (b10.mono B9.out.size))
      clear b10 B9 c0 c1 c2 c3 c4 c5
      have c0 : w10.cell? ⟨w.heap.size + 1, 0, none⟩ = some (.int .i64 pk) := (cell_of G1.out).trans rfl
      have c1 : w10.cell? ⟨w.heap.size + 1, 1, none⟩ = some (.int .i64 pr) := (cell_of G1.out).trans rfl
      have c2 : w10.cell? ⟨w.heap.size + 1, 2, none⟩ = some (.bool pb) := (cell_of G1.out).trans rfl
      have c3 : w10.cell? ⟨w.heap.size + 1, 3, none⟩ = some (.int .i64 po) := (cell_of G1.out).trans rfl
      have c4 : w10.cell? ⟨w.heap.size + 1, 4, none⟩ = some (.int .i64 pn) := (cell_of G1.out).trans rfl
      have c5 : w10.cell? ⟨w.heap.size + 1, 5, none⟩ = some (.string pd) := (cell_of G1.out).trans rfl
      go_wp2_with fail
      refine (CSA.out w10).mono ?_
      rintro e w11 ⟨rfl, b11⟩
      have B11 := hid (B10.out.trans (b11.mono B10.out.size))
      go_wp2_with fail
      go_ret
      exact ⟨rfl, B11.out⟩
  · have hS0 : askS ⟨k, d, o, t, m⟩ = ⟨#[]⟩ := by unfold askS; rw [if_neg hE]
    have CSA := hid (fun w1 => sameask_any ⟨k, d, o, t, m⟩ ⟨k, d, o, t, m⟩ w1)
    rw [sameQ_no hE] at CSA
    unfold asV at CA1
    rw [hS0] at CA1
    have hne : ((askE ⟨k, d, o, t, m⟩ : Int) == 0) = false := by rw [beq_eq_false_iff_ne]; omega
    generalize askE ⟨k, d, o, t, m⟩ = E at *
    clear hS0 hE CA
    refine CA1.mono ?_
    rintro e w2 ⟨rfl, b2⟩
    have H0 := hid ((b2.block _ (lt_of_heap G0.out)).trans G0.out)
    clear G0
    have G0 := H0
    clear H0
    have H1 := hid ((b2.block _ (lt_of_heap G1.out)).trans G1.out)
    clear G1
    have G1 := H1
    clear H1
    have B2 := hid (B1.out.trans (b2.mono B1.out.size))
    clear b2 B1 c0 c1 c2 c3 c4
    have c0 : w2.cell? ⟨w.heap.size, 0, none⟩ = some (.int .i64 k) := (cell_of G0.out).trans rfl
    have c1 : w2.cell? ⟨w.heap.size, 1, none⟩ = some (.string d) := (cell_of G0.out).trans rfl
    have c2 : w2.cell? ⟨w.heap.size, 2, none⟩ = some (.int .i64 o) := (cell_of G0.out).trans rfl
    have c3 : w2.cell? ⟨w.heap.size, 3, none⟩ = some (.int .i64 t) := (cell_of G0.out).trans rfl
    have c4 : w2.cell? ⟨w.heap.size, 4, none⟩ = some (.int .i64 m) := (cell_of G0.out).trans rfl
    go_wp2_with fail
    refine (CSA.out w2).mono ?_
    rintro e w3 ⟨rfl, b3⟩
    have H1 := hid ((b3.block _ (lt_of_heap G1.out)).trans G1.out)
    clear G1
    have G1 := H1
    clear H1
    have B3 := hid (B2.out.trans (b3.mono B2.out.size))
    clear b3 B2 CSA G0 c0 c1 c2 c3 c4
    have c0 : w3.cell? ⟨w.heap.size + 1, 0, none⟩ = some (.int .i64 pk) := (cell_of G1.out).trans rfl
    have c1 : w3.cell? ⟨w.heap.size + 1, 1, none⟩ = some (.int .i64 pr) := (cell_of G1.out).trans rfl
    have c2 : w3.cell? ⟨w.heap.size + 1, 2, none⟩ = some (.bool pb) := (cell_of G1.out).trans rfl
    have c3 : w3.cell? ⟨w.heap.size + 1, 3, none⟩ = some (.int .i64 po) := (cell_of G1.out).trans rfl
    have c4 : w3.cell? ⟨w.heap.size + 1, 4, none⟩ = some (.int .i64 pn) := (cell_of G1.out).trans rfl
    have c5 : w3.cell? ⟨w.heap.size + 1, 5, none⟩ = some (.string pd) := (cell_of G1.out).trans rfl
    go_wp2_with fail
    by_cases hF : repE ⟨pk, pr, pb, po, pn, pd⟩ = 0
    · obtain ⟨M, hM⟩ : ∃ M, nrmP ⟨pk, pr, pb, po, pn, pd⟩ = M := ⟨_, rfl⟩
      obtain ⟨V, hV⟩ : ∃ V, repS ⟨pk, pr, pb, po, pn, pd⟩ = V := ⟨_, rfl⟩
      have hV1 := repS_pos hF
      have CR := hid (fun w1 => readreply_any (repS ⟨pk, pr, pb, po, pn, pd⟩) w1 (repS_size _))
      rw [ra_rep hF hpo hpn, hM, hV] at CR
      have CSA := hid (fun w1 => samereply_any M ⟨pk, pr, pb, po, pn, pd⟩ w1)
      rw [sameP_yes (by rw [← hM, repE_nrm]; exact hF) hF (by rw [← hM]; exact repL_nrm _)] at CSA
      have CC := hid (fun c hc w1 => readreply_cut ⟨pk, pr, pb, po, pn, pd⟩ V hV hF hpo hpn c hc w1)
      have CM := hid (fun w1 => readreply_any (repS ⟨pk, pr, pb, po, pn, pd⟩ ++ bs [more]) w1 (by rw [ByteArray.size_append, size_bs]; simp; omega))
      rw [rr_more more hF hpo hpn, hV, show rpV (zp, 22) = .tuple #[.agg #[.int .i64 0, .int .i64 0, .bool false, .int .i64 0, .int .i64 0, .string ⟨#[]⟩], .int .i64 22] from rfl] at CM
      have CP1 := CP.out w3
      rw [rsV_ok hF, show bs (repL ⟨pk, pr, pb, po, pn, pd⟩) = V by rw [← hV]; unfold repS; rw [if_pos hF]] at CP1
      rw [hV] at hV1
      have hmk : M.k = pk ∧ M.r = pr := by rw [← hM]; exact ⟨rfl, rfl⟩
      obtain ⟨mk, mr, mb, mo, mn, md⟩ := M
      obtain ⟨h1, h2⟩ := hmk
      dsimp only at h1 h2
      subst h1 h2
      clear hF hM hV CP
      refine CP1.mono ?_
      rintro e w4 ⟨rfl, b4⟩
      have H1 := hid ((b4.block _ (lt_of_heap G1.out)).trans G1.out)
      clear G1
      have G1 := H1
      clear H1
      have B4 := hid (B3.out.trans (b4.mono B3.out.size))
      clear b4 B3 c0 c1 c2 c3 c4 c5
      go_wp2_with fail
      refine (CR.out w4).mono ?_
      rintro e w5 ⟨rfl, b5⟩
      have H1 := hid ((b5.block _ (lt_of_heap G1.out)).trans G1.out)
      clear G1
      have G1 := H1
      clear H1
      have B5 := hid (B4.out.trans (b5.mono B4.out.size))
      have hlg := lt_of_heap G1.out
      clear b5 B4 CR
      rw [show rpV (⟨mk, mr, mb, mo, mn, md⟩, 0) = .tuple #[.agg #[.int .i64 mk, .int .i64 mr, .bool mb, .int .i64 mo, .int .i64 mn, .string md], .int .i64 0] from rfl]
      have c0 : w5.cell? ⟨w.heap.size + 1, 0, none⟩ = some (.int .i64 mk) := (cell_of G1.out).trans rfl
      have c1 : w5.cell? ⟨w.heap.size + 1, 1, none⟩ = some (.int .i64 mr) := (cell_of G1.out).trans rfl
      have c2 : w5.cell? ⟨w.heap.size + 1, 2, none⟩ = some (.bool pb) := (cell_of G1.out).trans rfl
      have c3 : w5.cell? ⟨w.heap.size + 1, 3, none⟩ = some (.int .i64 po) := (cell_of G1.out).trans rfl
      have c4 : w5.cell? ⟨w.heap.size + 1, 4, none⟩ = some (.int .i64 pn) := (cell_of G1.out).trans rfl
      have c5 : w5.cell? ⟨w.heap.size + 1, 5, none⟩ = some (.string pd) := (cell_of G1.out).trans rfl
      go_wp2_with fail
      have X0 : Hid ((w5.alloc (.cells #[.int .i64 mk, .int .i64 mr, .bool mb, .int .i64 mo, .int .i64 mn, .string md] 27)).heap[w5.heap.size]? = some (.cells #[.int .i64 mk, .int .i64 mr, .bool mb, .int .i64 mo, .int .i64 mn, .string md] 27 (0, 0))) := hid (heap_new _ _)
      have X1 : Hid ((w5.alloc (.cells #[.int .i64 mk, .int .i64 mr, .bool mb, .int .i64 mo, .int .i64 mn, .string md] 27)).heap[w.heap.size + 1]? = _) := hid (heap_alloc_at G1.out)
      have B6 := hid (B5.out.alloc B5.out.size (.cells #[.int .i64 mk, .int .i64 mr, .bool mb, .int .i64 mo, .int .i64 mn, .string md] 27))
      generalize w5.alloc (.cells #[.int .i64 mk, .int .i64 mr, .bool mb, .int .i64 mo, .int .i64 mn, .string md] 27) = w6 at *
      generalize w5.heap.size = PB at *
      clear c0 c1 c2 c3 c4 c5 B5 G1
      refine (CSA.out w6).mono ?_
      rintro e w7 ⟨rfl, b7⟩
      have Y0 := hid ((b7.block _ (lt_of_heap X0.out)).trans X0.out)
      have Y1 := hid ((b7.block _ (lt_of_heap X1.out)).trans X1.out)
      have B7 := hid (B6.out.trans (b7.mono B6.out.size))
      clear b7 B6 X0 X1 CSA
      have c0 : w7.cell? ⟨PB, 0, none⟩ = some (.int .i64 mk) := (cell_of Y0.out).trans rfl
      have c1 : w7.cell? ⟨PB, 1, none⟩ = some (.int .i64 mr) := (cell_of Y0.out).trans rfl
      have d0 : w7.cell? ⟨w.heap.size + 1, 0, none⟩ = some (.int .i64 mk) := (cell_of Y1.out).trans rfl
      have d1 : w7.cell? ⟨w.heap.size + 1, 1, none⟩ = some (.int .i64 mr) := (cell_of Y1.out).trans rfl
      have hVz : ¬ (V.size : Int) = 0 := by omega
      obtain ⟨c, hc⟩ : ∃ c : Nat, (cut : Int) % (V.size : Int) = c := ⟨((cut : Int) % (V.size : Int)).toNat, by have := Int.emod_nonneg (cut : Int) hVz; omega⟩
      have hcl : c < V.size := by have := Int.emod_lt_of_pos (cut : Int) (show (0 : Int) < V.size by omega); omega
      have hct : (cut : Int).tmod (V.size : Int) = c := by rw [Int.tmod_eq_emod_of_nonneg (by omega)]; exact hc
      have hwc : IntKind.i64.wrap (cut : Int) = cut := wrapY (by omega) (by omega)
      have hcI : (c : Int) ≤ (V.size : Int) := by omega
      have hwcc : IntKind.i64.wrap (c : Int) = c := wrapY (by omega) (by omega)
      go_wp2_with fail
      refine (CC.out c hcl w7).mono ?_
      rintro e w8 ⟨ck, cr, cb, co, cn, cd, CE, rfl, hce, b8⟩
      have B8 := hid (B7.out.trans (b8.mono B7.out.size))
      clear b8 B7 Y0 Y1 CC c0 c1 d0 d1 hc hct hcl hcI hwcc hwc
      have hcv := conv_own (w := w8.alloc (.cells #[.int .u8 more] 5)) (l := [more]) (by intro b hb; rw [List.mem_singleton] at hb; omega) (row1 (heap_new _ _))
      have hz1 : (bs [more]).size = 1 := by rw [size_bs]; rfl
      have hsum : ¬ 9223372036854775807 < V.size + (bs [more]).size := by omega
      have B9 := hid (B8.out.alloc B8.out.size (.cells #[.int .u8 more] 5))
      go_wp2_with fail
      refine (CM.out _).mono ?_
      rintro e w10 ⟨rfl, b10⟩
      have B10 := hid (B9.out.trans (b10.mono B9.out.size))
      clear b10 B9 CM hcv
      go_wp2_with fail
      go_ret
      exact ⟨rfl, B10.out.alloc B10.out.size _⟩
    · have hS0 : repS ⟨pk, pr, pb, po, pn, pd⟩ = ⟨#[]⟩ := by unfold repS; rw [if_neg hF]
      have CSA := hid (fun w1 => samereply_any ⟨pk, pr, pb, po, pn, pd⟩ ⟨pk, pr, pb, po, pn, pd⟩ w1)
      rw [sameP_no hF] at CSA
      have CP1 := CP.out w3
      unfold rsV at CP1
      rw [hS0] at CP1
      have hnf : ((repE ⟨pk, pr, pb, po, pn, pd⟩ : Int) != 0) = true := by rw [bne_iff_ne]; omega
      generalize repE ⟨pk, pr, pb, po, pn, pd⟩ = F at *
      clear hS0 hF CP
      refine CP1.mono ?_
      rintro e w4 ⟨rfl, b4⟩
      have H1 := hid ((b4.block _ (lt_of_heap G1.out)).trans G1.out)
      clear G1
      have G1 := H1
      clear H1
      have B4 := hid (B3.out.trans (b4.mono B3.out.size))
      clear b4 B3 c0 c1 c2 c3 c4 c5
      have c0 : w4.cell? ⟨w.heap.size + 1, 0, none⟩ = some (.int .i64 pk) := (cell_of G1.out).trans rfl
      have c1 : w4.cell? ⟨w.heap.size + 1, 1, none⟩ = some (.int .i64 pr) := (cell_of G1.out).trans rfl
      have c2 : w4.cell? ⟨w.heap.size + 1, 2, none⟩ = some (.bool pb) := (cell_of G1.out).trans rfl
      have c3 : w4.cell? ⟨w.heap.size + 1, 3, none⟩ = some (.int .i64 po) := (cell_of G1.out).trans rfl
      have c4 : w4.cell? ⟨w.heap.size + 1, 4, none⟩ = some (.int .i64 pn) := (cell_of G1.out).trans rfl
      have c5 : w4.cell? ⟨w.heap.size + 1, 5, none⟩ = some (.string pd) := (cell_of G1.out).trans rfl
      go_wp2_with fail
      refine (CSA.out w4).mono ?_
      rintro e w5 ⟨rfl, b5⟩
      have B5 := hid (B4.out.trans (b5.mono B4.out.size))
      go_wp2_with fail
      go_ret
      exact ⟨rfl, B5.out⟩
theorem back_any (k : Int) (d : ByteArray) (o t m : Int) (pk pr : Int) (pb : Bool) (po pn : Int) (pd : ByteArray) (cut more : Int) (w : World) (ho : I64 o) (ht : I64 t) (hm : I64 m) (hpo : I64 po) (hpn : I64 pn) (h0 : 0 ≤ cut) (h1 : cut ≤ 65535) (h2 : 0 ≤ more) (h3 : more ≤ 255) :
    Calls Try.prog 3 #[.agg #[.int .i64 k, .string d, .int .i64 o, .int .i64 t, .int .i64 m], .agg #[.int .i64 pk, .int .i64 pr, .bool pb, .int .i64 po, .int .i64 pn, .string pd], .int .u16 cut, .int .u8 more] w fun e w' => e = .returned (.bool true) ∧ Below w.heap.size w w' := by
  obtain ⟨C, rfl⟩ : ∃ C : Nat, cut = C := ⟨cut.toNat, by omega⟩
  obtain ⟨B, rfl⟩ : ∃ B : Nat, more = B := ⟨more.toNat, by omega⟩
  exact back_walk k d o t m pk pr pb po pn pd C B w ho ht hm hpo hpn (by omega) (by omega)
end Go.Proofs.Ytgdaaohlongmlaa
