/- Note of a good head; Check. -/
import Derived.Test.YtolobmhbmajolaaPd8
namespace Go.Proofs.Ytolobmhbmajolaa
open Go.RowKit
theorem cells8 {w : World} {p : Nat} {T : TypeId} {fz : Nat × Nat} {v0 v1 v2 v3 v4 v5 v6 v7 : Value} (h : w.heap[p]? = some (.cells #[v0, v1, v2, v3, v4, v5, v6, v7] T fz)) :
    w.cell? ⟨p, 0, none⟩ = some v0 ∧ w.cell? ⟨p, 1, none⟩ = some v1 ∧ w.cell? ⟨p, 2, none⟩ = some v2 ∧ w.cell? ⟨p, 3, none⟩ = some v3 ∧ w.cell? ⟨p, 4, none⟩ = some v4 ∧ w.cell? ⟨p, 5, none⟩ = some v5 ∧ w.cell? ⟨p, 6, none⟩ = some v6 ∧ w.cell? ⟨p, 7, none⟩ = some v7 :=
  ⟨(cell_of h).trans rfl, (cell_of h).trans rfl, (cell_of h).trans rfl, (cell_of h).trans rfl, (cell_of h).trans rfl, (cell_of h).trans rfl, (cell_of h).trans rfl, (cell_of h).trans rfl⟩
structure Nb (w0 : World) (B : Nat) (c : Array Value) (y : World) : Prop where
  b : Below w0.heap.size w0 y
  f : y.heap[B]? = some (.cells c 29 (0, 0))
theorem Nb.call {w : World} {B : Nat} {c : Array Value} {y y' : World} (h : Nb w B c y) (k : Below y.heap.size y y') : Nb w B c y' := ⟨h.b.trans (k.mono h.b.size), (k.block B (lt_of_heap h.f)).trans h.f⟩
theorem Nb.drew {w : World} {B : Nat} {c : Array Value} {y : World} (h : Nb w B c y) : Nb w B c y.drew := h.call ⟨rfl, rfl, rfl, Nat.le_refl _, fun _ _ => rfl⟩
theorem Beh.bel {w W : World} {b : Nat} {m : Option Nat} {fs : List Tl} {F : Int → List Nt} {k : Nat} {w' : World} (hb : Below w.heap.size w W) (h : Beh W b m fs F k w') : Beh w b m fs F k w' := h.pre (Ch.of_below hb)
set_option maxHeartbeats 2000000 in
set_option maxRecDepth 20000 in
theorem note_good (b : Nat) (m : Option Nat) (fs : List Tl) (base len : Int) (pk : Bool) (cnt fst gr prod seq : Int) (hg : goodB base cnt prod seq = true) (hs : seq < 2147483648) (hp : 0 ≤ prod) (hp1 : prod < 9223372036854775808) (hm : fs.length < 4611686018427387904) (w : World) (h : Bk w b m fs) :
    Calls Try.prog 20 #[.pointer (some ⟨b, 0, none⟩), hdV base len pk cnt fst gr prod seq] w fun e w' => e = .returned (.int .i64 0) ∧ Beh w b m fs (kpF fs prod ⟨base, cnt, seq⟩) 1 w' := by
  have hx : NtOk ⟨base, cnt, seq⟩ := by
    unfold goodB sndB at hg
    rw [if_neg (by omega)] at hg
    simp only [Bool.and_eq_true, decide_eq_true_eq] at hg
    exact ⟨hg.1.2, hg.2, hg.1.1.1.2, hg.1.1.2, hg.1.1.1.1.2, hs⟩
  have HG := Hid.mk (good_any base len pk cnt fst gr prod seq (w.alloc (.cells #[.int .i64 base, .int .i64 len, .bool pk, .int .i64 cnt, .int .i64 fst, .int .i64 gr, .int .i64 prod, .int .i32 seq] 29)))
  rw [hg, World.size_alloc] at HG
  have hpd : decide (prod = -1) = false := by simp; omega
  have hpn : ¬ prod = -1 := by omega
  have hce : ∀ w1, Below (w.heap.size + 1) (w.alloc (.cells #[.int .i64 base, .int .i64 len, .bool pk, .int .i64 cnt, .int .i64 fst, .int .i64 gr, .int .i64 prod, .int .i32 seq] 29)) w1 → w1.cell? ⟨w.heap.size, 6, none⟩ = some (.int .i64 prod) ∧ Nb w w.heap.size #[.int .i64 base, .int .i64 len, .bool pk, .int .i64 cnt, .int .i64 fst, .int .i64 gr, .int .i64 prod, .int .i32 seq] w1 := fun w1 hb => by
    have := (hb.block w.heap.size (by omega)).trans (heap_new w _)
    exact ⟨(cell_of this).trans rfl, ((Below.refl _ w).alloc (Nat.le_refl _) _).trans (hb.mono (by omega)), this⟩
  have HE := Hid.mk hce
  clear hce
  have CN : Hid (∀ y, Nb w w.heap.size #[.int .i64 base, .int .i64 len, .bool pk, .int .i64 cnt, .int .i64 fst, .int .i64 gr, .int .i64 prod, .int .i32 seq] y → Calls Try.prog 42 #[hdV base len pk cnt fst gr prod seq] y fun e w' => e = .returned (.agg #[.int .i64 base, .int .i32 cnt, .int .i32 seq]) ∧ Nb w w.heap.size #[.int .i64 base, .int .i64 len, .bool pk, .int .i64 cnt, .int .i64 fst, .int .i64 gr, .int .i64 prod, .int .i32 seq] w') := fun y hy =>
    (noted_any base len pk cnt fst gr prod seq (by have : 1 ≤ cnt := hx.c0; omega) hx.c1 y).mono fun e w' h => ⟨h.1, hy.call h.2⟩
  have CK : Hid (∀ y, Nb w w.heap.size #[.int .i64 base, .int .i64 len, .bool pk, .int .i64 cnt, .int .i64 fst, .int .i64 gr, .int .i64 prod, .int .i32 seq] y → Calls Try.prog 41 #[.pointer (some ⟨b, 0, none⟩), .int .i64 prod, .agg #[.int .i64 base, .int .i32 cnt, .int .i32 seq]] y fun e w' => e = .returned (.tuple #[]) ∧ Beh w b m fs (kpF fs prod ⟨base, cnt, seq⟩) 1 w' ∧ w'.heap[w.heap.size]? = some (.cells #[.int .i64 base, .int .i64 len, .bool pk, .int .i64 cnt, .int .i64 fst, .int .i64 gr, .int .i64 prod, .int .i32 seq] 29 (0, 0))) := fun y hy =>
    (keep_any b m fs prod ⟨base, cnt, seq⟩ hp hp1 hx hm y (h.bel hy.b)).mono fun e w' hk => ⟨hk.1, hk.2.bel hy.b, by
      obtain ⟨m', fs', _, _, _, hc, _⟩ := hk.2
      exact (hc.block _ (lt_of_heap hy.f) (fun hft => by have := Ft.lt h hft; omega)).trans hy.f⟩
  clear h
  go_enter Try.func20, Try.ntmps20
  go_wp2_with (go_at_call 38; refine HG.out.mono ?_; rintro e w1 ⟨rfl, hb1⟩; obtain ⟨k6, N0⟩ := HE.out w1 hb1; clear hb1)
  clear k6
  go_region_held3 (fun y => y.cell? ⟨w.heap.size, 0, none⟩ = some (.int .i64 base) ∧ y.cell? ⟨w.heap.size, 1, none⟩ = some (.int .i64 len) ∧ y.cell? ⟨w.heap.size, 2, none⟩ = some (.bool pk) ∧ y.cell? ⟨w.heap.size, 3, none⟩ = some (.int .i64 cnt) ∧ y.cell? ⟨w.heap.size, 4, none⟩ = some (.int .i64 fst) ∧ y.cell? ⟨w.heap.size, 5, none⟩ = some (.int .i64 gr) ∧ y.cell? ⟨w.heap.size, 6, none⟩ = some (.int .i64 prod) ∧ y.cell? ⟨w.heap.size, 7, none⟩ = some (.int .i32 seq)) (first | with_reducible exact cells8 N0.f | with_reducible exact cells8 N0.drew.f | with_reducible exact cells8 N1.f | with_reducible exact cells8 N1.drew.f | with_reducible exact cells8 N2) (first | (go_at_call 42; with_reducible refine (CN.out _ ?_).mono ?_; (first | with_reducible exact N0.drew | with_reducible exact N0); rintro e w2 ⟨rfl, N1⟩) | (go_at_call 41; with_reducible refine (CK.out _ ?_).mono ?_; (first | with_reducible exact N1 | with_reducible exact N1.drew); rintro e w3 ⟨rfl, hbeh, N2⟩; have HBE := Hid.mk hbeh; clear hbeh))
  go_wp2
  go_ret
  exact ⟨rfl, HBE.out⟩
/-- What Check answers of a producer's batches. -/
def chk (l : List Nt) (p seq cnt : Int) : Int × Int :=
  if goodB 0 cnt p seq = false then (0, 1) else
  match l.getLast? with
  | none => (0, 0)
  | some x => if seq = nx x then (0, 0) else
    match fnd (bkw l l.length) seq cnt with
    | some y => (y.b, 62)
    | none => if (seq - nx x) % 2147483648 < 1073741824 then (0, 63) else (0, 64)
theorem nx_b (x : Nt) : 0 ≤ nx x ∧ nx x < 2147483648 := by unfold nx; omega
abbrev chV (c : Int × Int) : Value := .tuple #[.int .i64 c.1, .int .i64 c.2]
theorem check_bad (q : Option Addr) (p seq cnt : Int) (hg : goodB 0 cnt p seq = false) (w : World) :
    Calls Try.prog 19 #[.pointer q, .int .i64 p, .int .i32 seq, .int .i64 cnt] w fun e w' => e = .returned (.tuple #[.int .i64 0, .int .i64 1]) ∧ Below w.heap.size w w' := by
  have HG := Hid.mk (good_any 0 0 false cnt 0 0 p seq w)
  rw [hg] at HG
  go_enter Try.func19, Try.ntmps19
  go_wp2_with (go_at_call 38; refine HG.out.mono ?_; rintro e w1 ⟨rfl, hb1⟩; have HB := Hid.mk hb1; clear hb1)
  go_ret2
  exact ⟨rfl, HB.out⟩
set_option maxHeartbeats 2000000 in
set_option maxRecDepth 20000 in
theorem check_any (b : Nat) (m : Option Nat) (fs : List Tl) (p seq cnt : Int) (h0 : -9223372036854775808 ≤ p) (h1 : p < 9223372036854775808) (hs : seq < 2147483648) (w : World) (h : Bk w b m fs) :
    Calls Try.prog 19 #[.pointer (some ⟨b, 0, none⟩), .int .i64 p, .int .i32 seq, .int .i64 cnt] w fun e w' => e = .returned (chV (chk (fv fs p) p seq cnt)) ∧ Below w.heap.size w w' := by
  by_cases hg : goodB 0 cnt p seq = false
  · have e : chk (fv fs p) p seq cnt = (0, 1) := by unfold chk; rw [if_pos hg]
    rw [e]
    exact check_bad _ p seq cnt hg w
  · have hg' : goodB 0 cnt p seq = true := by simpa using hg
    have HG := Hid.mk (good_any 0 0 false cnt 0 0 p seq w)
    rw [hg'] at HG
    have HT : Hid (∀ y, Below w.heap.size w y → Calls Try.prog 36 #[.pointer (some ⟨b, 0, none⟩), .int .i64 p] y fun e w' => e = .returned (.pointer (bkOf (look p fs))) ∧ w' = y) := fun y hy => btail_any b m fs p h0 h1 y (h.bel hy)
    have hc0 : chk (fv fs p) p seq cnt = match (fv fs p).getLast? with
      | none => (0, 0)
      | some x => if seq = nx x then (0, 0) else
        match fnd (bkw (fv fs p) (fv fs p).length) seq cnt with
        | some y => (y.b, 62)
        | none => if (seq - nx x) % 2147483648 < 1073741824 then (0, 63) else (0, 64) := by unfold chk; rw [if_neg hg]
    cases hl : look p fs with
    | none =>
      rw [fv_no hl] at hc0 ⊢
      rw [hc0]
      rw [hl] at HT
      simp only [bkOf] at HT
      clear hc0 h hl hg
      go_enter Try.func19, Try.ntmps19
      go_wp2_with (first | (go_at_call 38; refine HG.out.mono ?_; rintro e w1 ⟨rfl, hb1⟩; have HB := Hid.mk hb1; clear hb1) | (go_at_call 36; refine (HT.out _ HB.out).mono ?_; rintro e w2 ⟨rfl, rfl⟩))
      go_ret2
      exact ⟨rfl, HB.out⟩
    | some f =>
      obtain ⟨hf, hid⟩ := look_mem hl
      obtain ⟨hne, hok, hp0⟩ := h.ok f hf
      obtain ⟨x, hx, hm⟩ := last_of hne
      have HN : Hid (∀ y, Below w.heap.size w y → Calls Try.prog 37 #[.pointer (some ⟨f.bk, 0, none⟩)] y fun e w' => e = .returned (.int .i32 (nx x)) ∧ Below w.heap.size w w') := fun y hy =>
        (next_any f.bk f.ns x y (hok x hm) ((h.til f hf).at (hy.block _ (h.til f hf).lt)) hx).mono fun e w' hk => ⟨hk.1, hy.trans (hk.2.mono hy.size)⟩
      have HF : Hid (∀ y, Below w.heap.size w y → Calls Try.prog 39 #[.pointer (some ⟨f.bk, 0, none⟩), .int .i32 seq, .int .i64 cnt] y fun e w' => e = .returned (fndV (fnd (bkw f.ns f.ns.length) seq cnt)) ∧ Below w.heap.size w w') := fun y hy =>
        (find_any f.bk f.ns seq cnt hok y ((h.til f hf).at (hy.block _ (h.til f hf).lt))).mono fun e w' hk => ⟨hk.1, hy.trans (hk.2.mono hy.size)⟩
      have hs0 : 0 ≤ seq := by
        unfold goodB sndB at hg'
        rw [if_neg (by omega)] at hg'
        simp only [Bool.and_eq_true, decide_eq_true_eq] at hg'
        exact hg'.1.1.1.1.2
      obtain ⟨n0, n1⟩ := nx_b x
      rw [fv_of hl] at hc0 ⊢
      rw [hx] at hc0
      dsimp only at hc0
      rw [hl] at HT
      simp only [bkOf] at HT
      generalize nx x = N at *
      generalize f.bk = B at *
      have HA := Hid.mk (ahead_any seq N hs0 hs n0 n1)
      by_cases t1 : seq = N
      · rw [if_pos t1] at hc0
        rw [hc0]
        subst t1
        clear hc0 h hl hg hf hok hx hm hne
        go_enter Try.func19, Try.ntmps19
        go_wp2_with (first | (go_at_call 38; refine HG.out.mono ?_; rintro e w1 ⟨rfl, hb1⟩; have HB := Hid.mk hb1; clear hb1) | (go_at_call 36; refine (HT.out _ HB.out).mono ?_; rintro e w2 ⟨rfl, rfl⟩) | (go_at_call 37; refine (HN.out _ HB.out).mono ?_; rintro e w3 ⟨rfl, hb3⟩; have HB3 := Hid.mk hb3; clear hb3))
        go_ret2
        exact ⟨rfl, HB3.out⟩
      · rw [if_neg t1] at hc0
        have t1' : decide (seq = N) = false := by simpa using t1
        cases hfn : fnd (bkw f.ns f.ns.length) seq cnt with
        | some y =>
          rw [hfn] at hc0 HF
          dsimp only at hc0
          simp only [fndV] at HF
          rw [hc0]
          clear hc0 h hl hg hf hok hx hm hne hfn
          go_enter Try.func19, Try.ntmps19
          go_wp2_with (first | (go_at_call 38; refine HG.out.mono ?_; rintro e w1 ⟨rfl, hb1⟩; have HB := Hid.mk hb1; clear hb1) | (go_at_call 36; refine (HT.out _ HB.out).mono ?_; rintro e w2 ⟨rfl, rfl⟩) | (go_at_call 37; refine (HN.out _ HB.out).mono ?_; rintro e w3 ⟨rfl, hb3⟩; have HB3 := Hid.mk hb3; clear hb3) | (go_at_call 39; refine (HF.out _ HB3.out).mono ?_; rintro e w4 ⟨rfl, hb4⟩; have HB4 := Hid.mk hb4; clear hb4))
          go_ret2
          exact ⟨rfl, HB4.out⟩
        | none =>
          rw [hfn] at hc0 HF
          dsimp only at hc0
          simp only [fndV] at HF
          by_cases t2 : (seq - N) % 2147483648 < 1073741824
          · rw [if_pos t2] at hc0
            rw [hc0]
            have t2' : decide ((seq - N) % 2147483648 < 1073741824) = true := by simpa using t2
            rw [t2'] at HA
            clear hc0 h hl hg hf hok hx hm hne hfn
            go_enter Try.func19, Try.ntmps19
            go_wp2_with (first | (go_at_call 38; refine HG.out.mono ?_; rintro e w1 ⟨rfl, hb1⟩; have HB := Hid.mk hb1; clear hb1) | (go_at_call 36; refine (HT.out _ HB.out).mono ?_; rintro e w2 ⟨rfl, rfl⟩) | (go_at_call 37; with_reducible refine (HN.out _ HB4.out).mono ?_; rintro e w5 ⟨rfl, hb5⟩; have HB5 := Hid.mk hb5; clear hb5) | (go_at_call 37; with_reducible refine (HN.out _ HB.out).mono ?_; rintro e w3 ⟨rfl, hb3⟩; have HB3 := Hid.mk hb3; clear hb3) | (go_at_call 39; refine (HF.out _ HB3.out).mono ?_; rintro e w4 ⟨rfl, hb4⟩; have HB4 := Hid.mk hb4; clear hb4) | (go_at_call 40; refine (HA.out _).mono ?_; rintro e w6 ⟨rfl, rfl⟩))
            go_ret2
            exact ⟨rfl, HB5.out⟩
          · rw [if_neg t2] at hc0
            rw [hc0]
            have t2' : decide ((seq - N) % 2147483648 < 1073741824) = false := by simpa using t2
            rw [t2'] at HA
            clear hc0 h hl hg hf hok hx hm hne hfn
            go_enter Try.func19, Try.ntmps19
            go_wp2_with (first | (go_at_call 38; refine HG.out.mono ?_; rintro e w1 ⟨rfl, hb1⟩; have HB := Hid.mk hb1; clear hb1) | (go_at_call 36; refine (HT.out _ HB.out).mono ?_; rintro e w2 ⟨rfl, rfl⟩) | (go_at_call 37; with_reducible refine (HN.out _ HB4.out).mono ?_; rintro e w5 ⟨rfl, hb5⟩; have HB5 := Hid.mk hb5; clear hb5) | (go_at_call 37; with_reducible refine (HN.out _ HB.out).mono ?_; rintro e w3 ⟨rfl, hb3⟩; have HB3 := Hid.mk hb3; clear hb3) | (go_at_call 39; refine (HF.out _ HB3.out).mono ?_; rintro e w4 ⟨rfl, hb4⟩; have HB4 := Hid.mk hb4; clear hb4) | (go_at_call 40; refine (HA.out _).mono ?_; rintro e w6 ⟨rfl, rfl⟩))
            go_ret2
            exact ⟨rfl, HB5.out⟩
end Go.Proofs.Ytolobmhbmajolaa
