/- keep and Note. -/
import Derived.Test.YtolobmhbmajolaaPd7
namespace Go.Proofs.Ytolobmhbmajolaa
open Go.RowKit
theorem ta_new (W : World) : TA (W.alloc (.cells #[.int .i64 0, .int .i64 0, .int .i32 0, .int .i32 0, .int .i64 0, .int .i32 0, .int .i32 0, .int .i64 0, .int .i32 0, .int .i32 0, .int .i64 0, .int .i32 0, .int .i32 0, .int .i64 0, .int .i32 0, .int .i32 0] 71)) W.heap.size [] :=
  ⟨nt0, nt0, nt0, nt0, nt0, by decide, rfl, heap_new _ _⟩
/-- A producer that is new: what the walk meets behind the map. -/
theorem keep_new (b mb : Nat) (fs : List Tl) (id : Int) (x : Nt) (h0 : 0 ≤ id) (h1 : id < 9223372036854775808) (hx : NtOk x) (hm : fs.length < 4611686018427387904) (W : World) (h : Bk W b (some mb) fs) (hl : look id fs = none) :
    (Instr.lookup 58 (.map (some mb)) (.int .i64 id) false).run Try.prog W = .ok (.pointer none) W ∧
    ∃ W4, (Instr.mapUpdate 58 (.map (some mb)) (.int .i64 id) (.pointer (some ⟨W.heap.size, 0, none⟩))).run Try.prog (W.alloc (.cells #[.int .i64 0, .int .i64 0, .int .i32 0, .int .i32 0, .int .i64 0, .int .i32 0, .int .i32 0, .int .i64 0, .int .i32 0, .int .i32 0, .int .i64 0, .int .i32 0, .int .i32 0, .int .i64 0, .int .i32 0, .int .i32 0] 71)) = .ok () W4 ∧
      (∀ i, i < W.heap.size → i ≠ mb → W4.heap[i]? = W.heap[i]?) ∧
      Calls Try.prog 47 #[.pointer (some ⟨W.heap.size, 0, none⟩), ntV x] W4 fun e w' => e = .returned (.tuple #[]) ∧ Beh W b (some mb) fs (kpF fs id x) 1 w' := by
  have hkey := keyI (x := id) (by omega) h1
  have hrun : (Instr.lookup 58 (.map (some mb)) (.int .i64 id) false).run Try.prog W = .ok (.pointer none) W := by
    have ho : W.ownsMap Try.prog 2 RP mb fs.length (dm fs) := h.map
    obtain ⟨v, ps, hr, hv⟩ := ho.lookup klaw Try.underMap (Try.zeroTail W) RP_none hkey
    rw [atKey_dm, hl] at hv
    rw [hr, RP_inv_nil hv]
  refine ⟨hrun, ?_⟩
  obtain ⟨W2, hW2⟩ : ∃ W2, W.alloc (.cells #[.int .i64 0, .int .i64 0, .int .i32 0, .int .i32 0, .int .i64 0, .int .i32 0, .int .i32 0, .int .i64 0, .int .i32 0, .int .i32 0, .int .i64 0, .int .i32 0, .int .i32 0, .int .i64 0, .int .i32 0, .int .i32 0] 71) = W2 := ⟨_, rfl⟩
  have hT2 : TA W2 W.heap.size [] := by rw [← hW2]; exact ta_new W
  have hc2 : Ch (fun _ => False) W W2 := by rw [← hW2]; exact (Ch.refl _ W).alloc _
  rw [hW2]
  have ho2 : W2.ownsMap Try.prog 2 RP mb fs.length (dm fs) := map_ch (m := some mb) h.map hc2 (fun _ _ e => e)
  obtain ⟨W4, hr, ho, hg4⟩ := ho2.update klaw Try.underMap (by unfold maxLen; omega) hkey (RP_some W.heap.size)
  have hc4 : Ch (fun i => i = mb) W2 W4 := ⟨hg4.os, hg4.tape, hg4.output, hg4.size, fun k hk hs => hg4.block k hk (fun e => hs (by injection e))⟩
  have hc : Ch (fun i => i = mb) W W4 := (hc2.mono (fun _ _ e => e.elim)).trans hc4
  have hmb : mb < W.heap.size := Ft.lt h (Or.inr (Or.inl rfl))
  have hT4 : TA W4 W.heap.size [] := hT2.at (hc4.block _ hT2.lt (by omega))
  refine ⟨W4, hr, fun i hi hne => hc.block i hi hne, ?_⟩
  refine (add_any W.heap.size [] x W4 hT4).mono ?_
  rintro e w' ⟨rfl, hc5, hT5⟩
  refine ⟨rfl, ?_⟩
  have hc6 : Ch (fun i => i = mb) W w' := hc.then hc5 (fun i hi e => by
    have e' : i = W.heap.size := e
    omega)
  have := bk_ins h hl h0 hc6 (Nat.le_refl _) hT5 (kp_ne [] x) (kp_ok (fun _ hy => by cases hy) hx) (by
    obtain ⟨es, clock, hb, r⟩ := ho
    exact ⟨es, clock, (hc5.block mb (lt_of_heap hb) (by omega)).trans hb, r⟩)
  have e : (fun q => if q = id then kp ([] ++ [x]) else fv fs q) = kpF fs id x := funext fun q => by unfold kpF; rw [fv_no hl]
  rw [e] at this
  exact this
theorem Beh.pre {w W : World} {b : Nat} {m : Option Nat} {fs : List Tl} {F : Int → List Nt} {k : Nat} {w' : World} (hb : Ch (Ft b m fs) w W) (h : Beh W b m fs F k w') : Beh w b m fs F k w' := by
  obtain ⟨m', fs', h1, h2, h3, h4, h5⟩ := h
  exact ⟨m', fs', h1, h2, h3, hb.trans h4, fun i hi => (h5 i hi).imp id (fun h => Nat.le_trans hb.size h)⟩
theorem Beh.mono {w : World} {b : Nat} {m : Option Nat} {fs : List Tl} {F : Int → List Nt} {k k' : Nat} {w' : World} (h : Beh w b m fs F k w') (hk : k ≤ k') : Beh w b m fs F k' w' := by
  obtain ⟨m', fs', h1, h2, h3, h4, h5⟩ := h
  exact ⟨m', fs', h1, h2, by omega, h4, h5⟩
set_option maxHeartbeats 2000000 in
set_option maxRecDepth 20000 in
theorem keep_any (b : Nat) (m : Option Nat) (fs : List Tl) (id : Int) (x : Nt) (h0 : 0 ≤ id) (h1 : id < 9223372036854775808) (hx : NtOk x) (hm : fs.length < 4611686018427387904) (w : World) (h : Bk w b m fs) :
    Calls Try.prog 41 #[.pointer (some ⟨b, 0, none⟩), .int .i64 id, ntV x] w fun e w' => e = .returned (.tuple #[]) ∧ Beh w b m fs (kpF fs id x) 1 w' := by
  obtain ⟨W, hW⟩ : ∃ W, w.alloc (.cells #[.int .i64 x.b, .int .i32 x.c, .int .i32 x.s] 68) = W := ⟨_, rfl⟩
  have hcW : Ch (fun _ => False) w W := by rw [← hW]; exact (Ch.refl _ w).alloc _
  have hN : W.heap[w.heap.size]? = some (.cells #[.int .i64 x.b, .int .i32 x.c, .int .i32 x.s] 68 (0, 0)) := by rw [← hW]; exact heap_new _ _
  have hsz : W.heap.size = w.heap.size + 1 := by rw [← hW]; simp
  have hB : Bk W b m fs := h.ch hcW (fun _ _ e => e)
  have hbl : b < w.heap.size := lt_of_heap h.blk
  have hpre : ∀ w', Beh W b m fs (kpF fs id x) 1 w' → Beh w b m fs (kpF fs id x) 1 w' := fun w' h => h.pre (hcW.mono (fun _ _ e => e.elim))
  have xc : ∀ V : World, V.heap[w.heap.size]? = W.heap[w.heap.size]? → V.cell? ⟨w.heap.size, 0, none⟩ = some (.int .i64 x.b) ∧ V.cell? ⟨w.heap.size, 1, none⟩ = some (.int .i32 x.c) ∧ V.cell? ⟨w.heap.size, 2, none⟩ = some (.int .i32 x.s) := fun V hV => by
    have := hV.trans hN
    exact ⟨(cell_of this).trans rfl, (cell_of this).trans rfl, (cell_of this).trans rfl⟩
  obtain ⟨x0, x1, x2⟩ := xc W rfl
  have c0 : W.cell? ⟨b, 0, none⟩ = some (.map m) := (cell_of hB.blk).trans rfl
  have hq := run_eql_map_nil (P := Try.prog) W 58 2 66 m Try.underMap
  cases hl : look id fs with
  | some f =>
    obtain ⟨hf, hid⟩ := look_mem hl
    obtain ⟨hne, hok, _⟩ := h.ok f hf
    cases m with
    | none =>
      have e : fs = [] := h.map
      subst e
      cases hf
    | some mb =>
      have HA : Hid (Calls Try.prog 47 #[.pointer (some ⟨f.bk, 0, none⟩), ntV x] W fun e w' => e = .returned (.tuple #[]) ∧ Beh w b (some mb) fs (kpF fs id x) 1 w') := by
        refine (add_any f.bk f.ns x W (hB.til f hf)).mono ?_
        rintro e w' ⟨rfl, hc, hT⟩
        refine ⟨rfl, hpre _ ?_⟩
        have := bk_upd hB (f := f) (by rw [hid]; exact hl) hc hT (kp_ne _ _) (kp_ok hok hx)
        rw [hid] at this
        have e : (fun q => if q = id then kp (f.ns ++ [x]) else fv fs q) = kpF fs id x := funext fun q => by unfold kpF; rw [fv_of hl]
        rw [e] at this
        exact this.mono (by omega)
      have hrun : (Instr.lookup 58 (.map (some mb)) (.int .i64 id) false).run Try.prog W = .ok (.pointer (some ⟨f.bk, 0, none⟩)) W := by
        have ho : W.ownsMap Try.prog 2 RP mb fs.length (dm fs) := hB.map
        obtain ⟨v, ps, hr, hv⟩ := ho.lookup klaw Try.underMap (Try.zeroTail W) RP_none (keyI (x := id) (by omega) h1)
        rw [atKey_dm, hl] at hv
        rw [hr, RP_inv hv]
      simp only [Option.isNone_some] at hq
      clear h hB hl hok hne hpre xc hN hcW hf
      go_enter Try.func41, Try.ntmps41
      go_wp2_with (go_at_call 47; refine HA.out.mono ?_; rintro e w' ⟨rfl, hb⟩; have HB := Hid.mk hb; clear hb)
      go_end0
      exact ⟨rfl, HB.out⟩
  | none =>
    cases m with
    | some mb =>
      obtain ⟨hrun, W4, hup, hk4, hadd⟩ := keep_new b mb fs id x h0 h1 hx hm W hB hl
      have hmb : mb < w.heap.size := Ft.lt h (Or.inr (Or.inl rfl))
      obtain ⟨y0, y1, y2⟩ := xc W4 (hk4 _ (by omega) (by omega))
      have HA : Hid (Calls Try.prog 47 #[.pointer (some ⟨W.heap.size, 0, none⟩), ntV x] W4 fun e w' => e = .returned (.tuple #[]) ∧ Beh w b (some mb) fs (kpF fs id x) 1 w') := hadd.mono fun e w' h => ⟨h.1, hpre _ h.2⟩
      simp only [Option.isNone_some] at hq
      rw [hsz] at hup HA
      clear h hB hl hpre xc hN hcW hk4 hadd
      have hbl' : b < W.heap.size := by omega
      go_enter Try.func41, Try.ntmps41
      go_wp2_with (go_at_call 47; refine HA.out.mono ?_; rintro e w' ⟨rfl, hb⟩; have HB := Hid.mk hb; clear hb)
      go_end0
      exact ⟨rfl, HB.out⟩
    | none =>
      have e : fs = [] := h.map
      subst e
      obtain ⟨W1, hW1⟩ : ∃ W1, (W.alloc (.map #[] 0)).setCell ⟨b, 0, none⟩ (.map (some W.heap.size)) = W1 := ⟨_, rfl⟩
      have hs1 : W1.heap.size = w.heap.size + 1 + 1 := by rw [← hW1, ← hsz]; simp [World.setCell]
      have hc1 : Ch (Ft b none []) w W1 := by
        rw [← hW1]
        exact ((hcW.mono (fun _ _ e => e.elim)).alloc _).setCell _ _ (fun _ => Or.inl rfl)
      have hB1 : Bk W1 b (some W.heap.size) [] := by
        rw [← hW1]
        refine ⟨heap_set (heap_alloc_at hB.blk), ?_, (fun f hf => by cases hf), List.Pairwise.nil, List.Pairwise.nil, (fun f hf => by cases hf)⟩
        exact (World.ownsMap_made W Try.prog 2 RP).setCell (by show W.heap.size ≠ b; omega) _
      have hN1 : W1.heap[w.heap.size]? = W.heap[w.heap.size]? := by
        rw [← hW1]
        exact (Below.heap_setCell _ ⟨b, 0, none⟩ _ _ (by show w.heap.size ≠ b; omega)).trans (Below.heap_alloc _ _ _ (by omega))
      obtain ⟨hrun, W4, hup, hk4, hadd⟩ := keep_new b W.heap.size [] id x h0 h1 hx hm W1 hB1 rfl
      obtain ⟨y0, y1, y2⟩ := xc W4 ((hk4 _ (by omega) (by omega)).trans hN1)
      have HA : Hid (Calls Try.prog 47 #[.pointer (some ⟨W1.heap.size, 0, none⟩), ntV x] W4 fun e w' => e = .returned (.tuple #[]) ∧ Beh w b none [] (kpF [] id x) 1 w') := hadd.mono fun e w' h => ⟨h.1, by
        obtain ⟨m', fs', p1, p2, p3, p4, p5⟩ := h.2
        refine ⟨m', fs', p1, p2, p3, hc1.then p4 (fun i hi hft => ?_), fun i hi => ?_⟩
        · rcases hft with e | e | ⟨f, hf, _⟩
          · exact Or.inl e
          · injection e with e; omega
          · cases hf
        · rcases p5 i hi with (e | e | ⟨f, hf, _⟩) | e
          · exact Or.inl (Or.inl e)
          · injection e with e; exact Or.inr (by omega)
          · cases hf
          · exact Or.inr (by omega)⟩
      have d0 : W1.cell? ⟨b, 0, none⟩ = some (.map (some W.heap.size)) := (cell_of hB1.blk).trans rfl
      have d1 : (W1.alloc (.cells #[.int .i64 0, .int .i64 0, .int .i32 0, .int .i32 0, .int .i64 0, .int .i32 0, .int .i32 0, .int .i64 0, .int .i32 0, .int .i32 0, .int .i64 0, .int .i32 0, .int .i32 0, .int .i64 0, .int .i32 0, .int .i32 0] 71)).cell? ⟨b, 0, none⟩ = some (.map (some W.heap.size)) := (cell_of (heap_alloc_at hB1.blk)).trans rfl
      have f0 : W.frozen? ⟨b, 0, none⟩ = false := froz_of hB.blk
      simp only [Option.isNone_none] at hq
      have hmm := @run_makeMap Try.prog
      rw [hsz] at hup hW1 d0 d1 hrun
      rw [hs1] at hup HA
      clear h hB hl hpre xc hN hcW hk4 hadd hB1 hN1 hc1
      have hbl' : b < W.heap.size := by omega
      go_enter Try.func41, Try.ntmps41
      go_wp2_with (go_at_call 47; refine HA.out.mono ?_; rintro e w' ⟨rfl, hb⟩; have HB := Hid.mk hb; clear hb)
      go_end0
      exact ⟨rfl, HB.out⟩
set_option maxHeartbeats 2000000 in
set_option maxRecDepth 20000 in
theorem note_bad (p : Option Addr) (base len : Int) (pk : Bool) (cnt fst gr prod seq : Int) (hg : goodB base cnt prod seq = false) (w : World) :
    Calls Try.prog 20 #[.pointer p, hdV base len pk cnt fst gr prod seq] w fun e w' => e = .returned (.int .i64 1) ∧ Below w.heap.size w w' := by
  have HG := Hid.mk (good_any base len pk cnt fst gr prod seq (w.alloc (.cells #[.int .i64 base, .int .i64 len, .bool pk, .int .i64 cnt, .int .i64 fst, .int .i64 gr, .int .i64 prod, .int .i32 seq] 29)))
  rw [hg, World.size_alloc] at HG
  go_enter Try.func20, Try.ntmps20
  go_wp2_with (go_at_call 38; refine HG.out.mono ?_; rintro e w1 ⟨rfl, hb1⟩; have HB := Hid.mk hb1; clear hb1)
  go_ret
  exact ⟨rfl, ((Below.refl _ w).alloc (Nat.le_refl _) _).trans (HB.out.mono (by omega))⟩
set_option maxHeartbeats 2000000 in
set_option maxRecDepth 20000 in
/-- A batch without a producer. -/
theorem note_none (b : Nat) (base len : Int) (pk : Bool) (cnt fst gr prod seq : Int) (hg : goodB base cnt prod seq = true) (hp : prod = -1) (w : World) :
    Calls Try.prog 20 #[.pointer (some ⟨b, 0, none⟩), hdV base len pk cnt fst gr prod seq] w fun e w' => e = .returned (.int .i64 0) ∧ Below w.heap.size w w' := by
  subst hp
  have HG := Hid.mk (good_any base len pk cnt fst gr (-1) seq (w.alloc (.cells #[.int .i64 base, .int .i64 len, .bool pk, .int .i64 cnt, .int .i64 fst, .int .i64 gr, .int .i64 (-1), .int .i32 seq] 29)))
  rw [hg, World.size_alloc] at HG
  have hce : ∀ w1, Below (w.heap.size + 1) (w.alloc (.cells #[.int .i64 base, .int .i64 len, .bool pk, .int .i64 cnt, .int .i64 fst, .int .i64 gr, .int .i64 (-1), .int .i32 seq] 29)) w1 → w1.cell? ⟨w.heap.size, 6, none⟩ = some (.int .i64 (-1)) := fun w1 hb => by
    have := (hb.block w.heap.size (by omega)).trans (heap_new w _)
    exact (cell_of this).trans rfl
  have HE := Hid.mk hce
  clear hce
  go_enter Try.func20, Try.ntmps20
  go_wp2_with (go_at_call 38; refine HG.out.mono ?_; rintro e w1 ⟨rfl, hb1⟩; have k6 := HE.out w1 hb1; have HB := Hid.mk hb1; clear hb1)
  go_ret
  exact ⟨rfl, ((Below.refl _ w).alloc (Nat.le_refl _) _).trans (HB.out.mono (by omega))⟩
end Go.Proofs.Ytolobmhbmajolaa
