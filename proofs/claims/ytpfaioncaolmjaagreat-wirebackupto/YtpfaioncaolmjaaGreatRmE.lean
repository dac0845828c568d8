/- What a reader's calls for bytes and texts answer, of whatever bytes, wherever it stands, with or without an error. -/
import Derived.Test.YtpfaioncaolmjaaGreatRmC
namespace Go.Proofs.YtpfaioncaolmjaaGreat
open Go.RowKit
theorem cOpt_in (args : Array Value) (w : World) : (callFunc 99 args).run Tryz.prog w = .ok (.enter 99 args) w := by
  simp [go_sem]
set_option maxHeartbeats 1000000 in
set_option maxRecDepth 20000 in
theorem cOpt_bad (b p : Nat) (s : ByteArray) (k : Nat) (n : Int) (w : World) (h : Rd w b s k 0) (hp : w.cell? ⟨p, 0, none⟩ = some (.int .i64 n)) (hk : k ≤ s.size) (hs : s.size ≤ 9223372036854775807) (he : ¬ rde (tl s k) = 0) :
    Calls Tryz.prog 99 #[.pointer (some ⟨b, 0, none⟩), .pointer (some ⟨p, 0, none⟩)] w (Quits b s (rde (tl s k)) w) := by
  have lp : p < w.heap.size := World.block_lt_of_cell? _ _ hp
  have l0 := h.lt
  go_enter Tryz.func99, Tryz.ntmps99
  go_wp2_with fail
  refine (opt_bad b s k n _ (h.alloc _) hk hs he).mono ?_
  rintro e w' ⟨rfl, hrd, hch⟩
  exact ⟨rfl, rfl, hrd, ((Ch.refl _ _).alloc _).trans hch⟩
set_option maxHeartbeats 1000000 in
set_option maxRecDepth 20000 in
theorem cOpt_neg (b p : Nat) (s : ByteArray) (k : Nat) (n : Int) (w : World) (h : Rd w b s k 0) (hp : w.cell? ⟨p, 0, none⟩ = some (.int .i64 n)) (hk : k ≤ s.size) (hs : s.size ≤ 9223372036854775807) (he : rde (tl s k) = 0) (hn : M.uz (rdv (tl s k)) < -1) :
    Calls Tryz.prog 99 #[.pointer (some ⟨b, 0, none⟩), .pointer (some ⟨p, 0, none⟩)] w (Quits b s 21 w) := by
  have lp : p < w.heap.size := World.block_lt_of_cell? _ _ hp
  have l0 := h.lt
  go_enter Tryz.func99, Tryz.ntmps99
  go_wp2_with fail
  refine (opt_neg b s k n _ (h.alloc _) hk hs he hn).mono ?_
  rintro e w' ⟨rfl, hrd, hch⟩
  exact ⟨rfl, rfl, hrd, ((Ch.refl _ _).alloc _).trans hch⟩
set_option maxHeartbeats 1000000 in
set_option maxRecDepth 20000 in
theorem cOpt_null (b p : Nat) (s : ByteArray) (k : Nat) (n : Int) (w : World) (h : Rd w b s k 0) (hp : w.cell? ⟨p, 0, none⟩ = some (.int .i64 n)) (hk : k ≤ s.size) (hs : s.size ≤ 9223372036854775807) (he : rde (tl s k) = 0) (hn : M.uz (rdv (tl s k)) = -1) :
    Calls Tryz.prog 99 #[.pointer (some ⟨b, 0, none⟩), .pointer (some ⟨p, 0, none⟩)] w (Gets b s (.agg #[.bool false, .string ⟨#[]⟩]) (k + rdn (tl s k)) w) := by
  have lp : p < w.heap.size := World.block_lt_of_cell? _ _ hp
  have l0 := h.lt
  go_enter Tryz.func99, Tryz.ntmps99
  go_wp2_with fail
  refine (opt_null b s k n _ (h.alloc _) hk hs he hn).mono ?_
  rintro e w' ⟨rfl, hrd, hch⟩
  have gv : w'.heap[w.heap.size]? = some (.cells #[.bool false, .string ⟨#[]⟩] 76 (0, 0)) := (hch.block _ (by simp) (by omega)).trans (heap_new _ _)
  have c3 : w'.cell? ⟨w.heap.size, 0, none⟩ = some (.bool false) := (cell_of gv).trans rfl
  have c4 : w'.cell? ⟨w.heap.size, 1, none⟩ = some (.string ⟨#[]⟩) := (cell_of gv).trans rfl
  have f3 := froz_of (i := 0) gv
  have f4 := froz_of (i := 1) gv
  have HV := Hid.mk gv
  have HC : Hid (Ch (fun i => i = b) w w') := ((Ch.refl _ _).alloc _).trans hch
  clear gv hch
  generalize hKK : k + rdn (tl s k) = K' at *
  clear hKK
  go_wp2
  have HF : Rd ((w'.setCell ⟨w.heap.size, 0, none⟩ (.bool false)).setCell ⟨w.heap.size, 1, none⟩ (.string ⟨#[]⟩)) b s K' 0 := (hrd.far _ (by show b ≠ w.heap.size; omega)).far _ (by show b ≠ w.heap.size; omega)
  have c7 : ((w'.setCell ⟨w.heap.size, 0, none⟩ (.bool false)).setCell ⟨w.heap.size, 1, none⟩ (.string ⟨#[]⟩)).cell? ⟨w.heap.size, 0, none⟩ = some (.bool false) := (cell_of (heap_set (heap_set HV.out))).trans rfl
  have c8 : ((w'.setCell ⟨w.heap.size, 0, none⟩ (.bool false)).setCell ⟨w.heap.size, 1, none⟩ (.string ⟨#[]⟩)).cell? ⟨w.heap.size, 1, none⟩ = some (.string ⟨#[]⟩) := (cell_of (heap_set (heap_set HV.out))).trans rfl
  exact bodyPost_ret (v := .agg #[.bool false, .string ⟨#[]⟩]) (by simp [results, Tryz.results99, go_sem, c7, c8]) rfl ⟨rfl, HF, ((HC.out.setCell _ _ (fun h => absurd h (by simp))).setCell _ _ (fun h => absurd h (by simp)))⟩
set_option maxHeartbeats 1000000 in
set_option maxRecDepth 20000 in
theorem cOpt_long1 (b p : Nat) (s : ByteArray) (k : Nat) (n : Int) (w : World) (h : Rd w b s k 0) (hp : w.cell? ⟨p, 0, none⟩ = some (.int .i64 n)) (hk : k ≤ s.size) (hs : s.size ≤ 9223372036854775807) (hm1 : -9223372036854775808 ≤ n) (hm2 : n ≤ 9223372036854775807) (N : Nat) (he : rde (tl s k) = 0) (hn : M.uz (rdv (tl s k)) = N) (h1 : n < (N : Int)) (h2 : 0 < N) :
    Calls Tryz.prog 99 #[.pointer (some ⟨b, 0, none⟩), .pointer (some ⟨p, 0, none⟩)] w (Quits b s 21 w) := by
  have lp : p < w.heap.size := World.block_lt_of_cell? _ _ hp
  have l0 := h.lt
  go_enter Tryz.func99, Tryz.ntmps99
  go_wp2_with fail
  refine (opt_long1 b s k n _ (h.alloc _) hk hs hm1 hm2 N he hn h1 h2).mono ?_
  rintro e w' ⟨rfl, hrd, hch⟩
  exact ⟨rfl, rfl, hrd, ((Ch.refl _ _).alloc _).trans hch⟩
set_option maxHeartbeats 1000000 in
set_option maxRecDepth 20000 in
theorem cOpt_long2 (b p : Nat) (s : ByteArray) (k : Nat) (n : Int) (w : World) (h : Rd w b s k 0) (hp : w.cell? ⟨p, 0, none⟩ = some (.int .i64 n)) (hk : k ≤ s.size) (hs : s.size ≤ 9223372036854775807) (hm1 : -9223372036854775808 ≤ n) (hm2 : n ≤ 9223372036854775807) (N : Nat) (he : rde (tl s k) = 0) (hn : M.uz (rdv (tl s k)) = N) (h1 : (N : Int) ≤ n ∨ N = 0) (h2 : s.size < k + rdn (tl s k) + N) :
    Calls Tryz.prog 99 #[.pointer (some ⟨b, 0, none⟩), .pointer (some ⟨p, 0, none⟩)] w (Quits b s 21 w) := by
  have lp : p < w.heap.size := World.block_lt_of_cell? _ _ hp
  have l0 := h.lt
  go_enter Tryz.func99, Tryz.ntmps99
  go_wp2_with fail
  refine (opt_long2 b s k n _ (h.alloc _) hk hs hm1 hm2 N he hn h1 h2).mono ?_
  rintro e w' ⟨rfl, hrd, hch⟩
  exact ⟨rfl, rfl, hrd, ((Ch.refl _ _).alloc _).trans hch⟩
set_option maxHeartbeats 1000000 in
set_option maxRecDepth 20000 in
theorem cOpt_ok (b p : Nat) (s : ByteArray) (k : Nat) (n : Int) (w : World) (h : Rd w b s k 0) (hp : w.cell? ⟨p, 0, none⟩ = some (.int .i64 n)) (hk : k ≤ s.size) (hs : s.size ≤ 9223372036854775807) (hm1 : -9223372036854775808 ≤ n) (hm2 : n ≤ 9223372036854775807) (N : Nat) (he : rde (tl s k) = 0) (hn : M.uz (rdv (tl s k)) = N) (h1 : (N : Int) ≤ n ∨ N = 0) (h2 : k + rdn (tl s k) + N ≤ s.size) :
    Calls Tryz.prog 99 #[.pointer (some ⟨b, 0, none⟩), .pointer (some ⟨p, 0, none⟩)] w (Gets b s (.agg #[.bool true, .string (s.extract (k + rdn (tl s k)) (k + rdn (tl s k) + N))]) (k + rdn (tl s k) + N) w) := by
  have lp : p < w.heap.size := World.block_lt_of_cell? _ _ hp
  have l0 := h.lt
  go_enter Tryz.func99, Tryz.ntmps99
  go_wp2_with fail
  refine (opt_ok b s k n _ (h.alloc _) hk hs hm1 hm2 N he hn h1 h2).mono ?_
  rintro e w' ⟨rfl, hrd, hch⟩
  have gv : w'.heap[w.heap.size]? = some (.cells #[.bool false, .string ⟨#[]⟩] 76 (0, 0)) := (hch.block _ (by simp) (by omega)).trans (heap_new _ _)
  have c3 : w'.cell? ⟨w.heap.size, 0, none⟩ = some (.bool false) := (cell_of gv).trans rfl
  have c4 : w'.cell? ⟨w.heap.size, 1, none⟩ = some (.string ⟨#[]⟩) := (cell_of gv).trans rfl
  have f3 := froz_of (i := 0) gv
  have f4 := froz_of (i := 1) gv
  have HV := Hid.mk gv
  have HC : Hid (Ch (fun i => i = b) w w') := ((Ch.refl _ _).alloc _).trans hch
  clear gv hch
  generalize hd : (s.extract (k + rdn (tl s k)) (k + rdn (tl s k) + N)) = d at *
  generalize hKK : k + rdn (tl s k) + N = K' at *
  clear hd hKK
  go_wp2
  have HF : Rd ((w'.setCell ⟨w.heap.size, 0, none⟩ (.bool true)).setCell ⟨w.heap.size, 1, none⟩ (.string d)) b s K' 0 := (hrd.far _ (by show b ≠ w.heap.size; omega)).far _ (by show b ≠ w.heap.size; omega)
  have c7 : ((w'.setCell ⟨w.heap.size, 0, none⟩ (.bool true)).setCell ⟨w.heap.size, 1, none⟩ (.string d)).cell? ⟨w.heap.size, 0, none⟩ = some (.bool true) := (cell_of (heap_set (heap_set HV.out))).trans rfl
  have c8 : ((w'.setCell ⟨w.heap.size, 0, none⟩ (.bool true)).setCell ⟨w.heap.size, 1, none⟩ (.string d)).cell? ⟨w.heap.size, 1, none⟩ = some (.string d) := (cell_of (heap_set (heap_set HV.out))).trans rfl
  exact bodyPost_ret (v := .agg #[.bool true, .string d]) (by simp [results, Tryz.results99, go_sem, c7, c8]) rfl ⟨rfl, HF, ((HC.out.setCell _ _ (fun h => absurd h (by simp))).setCell _ _ (fun h => absurd h (by simp)))⟩
set_option maxHeartbeats 1000000 in
set_option maxRecDepth 20000 in
theorem ropt_of (b : Nat) (s : ByteArray) (k' e' : Nat) (n : Int) (vb : Bool) (vd : ByteArray) (w : World) (hlt : b < w.heap.size)
    (ha : Calls Tryz.prog 98 #[.pointer (some ⟨b, 0, none⟩), .func (.func 99) #[] #[.pointer (some ⟨w.heap.size, 0, none⟩)]] ((w.alloc (.cells #[.int .i64 n] 3)).alloc (.cells #[.bool false, .string ⟨#[]⟩] 76)) (Ans b s (.agg #[.bool vb, .string vd]) k' e' ((w.alloc (.cells #[.int .i64 n] 3)).alloc (.cells #[.bool false, .string ⟨#[]⟩] 76)))) :
    Calls Tryz.prog 57 #[.pointer (some ⟨b, 0, none⟩), .int .i64 n] w (Ans b s (.agg #[.bool vb, .string vd]) k' e' w) := by
  have hmf : ∀ (fn : Fn) (first cap : Array Value) (w : World), (Instr.makeFunc fn first cap).run Tryz.prog w = .ok (.func fn first cap) w := fun _ _ _ _ => rfl
  go_enter Tryz.func57, Tryz.ntmps57
  go_wp2_with fail
  refine ha.mono ?_
  rintro e w' ⟨rfl, hrd, hch⟩
  have gv : w'.heap[w.heap.size + 1]? = some (.cells #[.bool false, .string ⟨#[]⟩] 76 (0, 0)) := (hch.block _ (by simp) (by omega)).trans (heap_new' _ _ _ (by simp))
  have c3 : w'.cell? ⟨w.heap.size + 1, 0, none⟩ = some (.bool false) := (cell_of gv).trans rfl
  have c4 : w'.cell? ⟨w.heap.size + 1, 1, none⟩ = some (.string ⟨#[]⟩) := (cell_of gv).trans rfl
  have f3 := froz_of (i := 0) gv
  have f4 := froz_of (i := 1) gv
  have HV := Hid.mk gv
  have HC : Hid (Ch (fun i => i = b) w w') := (((Ch.refl _ _).alloc _).alloc _).trans hch
  clear gv hch ha
  go_wp2
  have HF : Rd ((w'.setCell ⟨w.heap.size + 1, 0, none⟩ (.bool vb)).setCell ⟨w.heap.size + 1, 1, none⟩ (.string vd)) b s k' e' := (hrd.far _ (by show b ≠ w.heap.size + 1; omega)).far _ (by show b ≠ w.heap.size + 1; omega)
  have c7 : ((w'.setCell ⟨w.heap.size + 1, 0, none⟩ (.bool vb)).setCell ⟨w.heap.size + 1, 1, none⟩ (.string vd)).cell? ⟨w.heap.size + 1, 0, none⟩ = some (.bool vb) := (cell_of (heap_set (heap_set HV.out))).trans rfl
  have c8 : ((w'.setCell ⟨w.heap.size + 1, 0, none⟩ (.bool vb)).setCell ⟨w.heap.size + 1, 1, none⟩ (.string vd)).cell? ⟨w.heap.size + 1, 1, none⟩ = some (.string vd) := (cell_of (heap_set (heap_set HV.out))).trans rfl
  exact bodyPost_ret (v := .tuple #[.agg #[.bool vb, .string vd], .int .i64 e']) (by simp [results, Tryz.results57, go_sem, c7, c8]) rfl ⟨rfl, HF, ((HC.out.setCell _ _ (fun h => absurd h (by simp))).setCell _ _ (fun h => absurd h (by simp)))⟩
set_option maxHeartbeats 1000000 in
set_option maxRecDepth 20000 in
theorem ropt_any (b : Nat) (s : ByteArray) (k e : Nat) (n : Int) (w : World) (h : Rd w b s k e) (hk : k ≤ s.size) (hs : s.size ≤ 9223372036854775807) (hm1 : -9223372036854775808 ≤ n) (hm2 : n ≤ 9223372036854775807) :
    Calls Tryz.prog 57 #[.pointer (some ⟨b, 0, none⟩), .int .i64 n] w (Ans b s (.agg #[.bool (oq n s k e).1, .string (oq n s k e).2.1]) (oq n s k e).2.2.1 (oq n s k e).2.2.2 w) := by
  have hp : ∀ w1, Below ((w.alloc (.cells #[.int .i64 n] 3)).alloc (.cells #[.bool false, .string ⟨#[]⟩] 76)).heap.size ((w.alloc (.cells #[.int .i64 n] 3)).alloc (.cells #[.bool false, .string ⟨#[]⟩] 76)) w1 → w1.cell? ⟨w.heap.size, 0, none⟩ = some (.int .i64 n) := fun w1 hb => ((hb.cell (p := ⟨w.heap.size, 0, none⟩) (by simp; omega)).trans (cell_of (heap_alloc_at (heap_new _ _)))).trans rfl
  have hr : ∀ w1, Below ((w.alloc (.cells #[.int .i64 n] 3)).alloc (.cells #[.bool false, .string ⟨#[]⟩] 76)).heap.size ((w.alloc (.cells #[.int .i64 n] 3)).alloc (.cells #[.bool false, .string ⟨#[]⟩] 76)) w1 → Rd w1 b s k e := fun w1 hb => ((h.alloc _).alloc _).below hb (by have := h.lt; simp; omega)
  have h' := (h.alloc (.cells #[.int .i64 n] 3)).alloc (.cells #[.bool false, .string ⟨#[]⟩] 76)
  by_cases he : e = 0
  · subst he
    by_cases hl : rde (tl s k) = 0
    · by_cases hz : M.uz (rdv (tl s k)) = -1
      · rw [oq_null hl hz]
        dsimp only
        have ha := att_ok_opt b s k _ 99 #[.pointer (some ⟨w.heap.size, 0, none⟩)] _ _ ((w.alloc (.cells #[.int .i64 n] 3)).alloc (.cells #[.bool false, .string ⟨#[]⟩] 76)) h' cOpt_in (fun w1 hb => by simpa using cOpt_null b w.heap.size s k n w1 (hr w1 hb) (hp w1 hb) hk hs hl hz)
        clear hp hr hl hz
        generalize k + rdn (tl s k) = K at ha ⊢
        exact ropt_of b s _ _ n _ _ w h.lt (ha)
      · by_cases hx : 0 ≤ M.uz (rdv (tl s k)) ∧ (M.uz (rdv (tl s k)) ≤ n ∨ M.uz (rdv (tl s k)) = 0) ∧ k + rdn (tl s k) + (M.uz (rdv (tl s k))).toNat ≤ s.size
        · obtain ⟨N, hN⟩ : ∃ N : Nat, M.uz (rdv (tl s k)) = (N : Int) := ⟨(M.uz (rdv (tl s k))).toNat, by omega⟩
          rw [hN] at hx
          rw [oq_ok hl hN (by omega) (by omega)]
          dsimp only
          have ha := att_ok_opt b s k _ 99 #[.pointer (some ⟨w.heap.size, 0, none⟩)] _ _ ((w.alloc (.cells #[.int .i64 n] 3)).alloc (.cells #[.bool false, .string ⟨#[]⟩] 76)) h' cOpt_in (fun w1 hb => by simpa using cOpt_ok b w.heap.size s k n w1 (hr w1 hb) (hp w1 hb) hk hs hm1 hm2 N hl hN (by omega) (by omega))
          clear hp hr hx hl hz hN
          generalize s.extract (k + rdn (tl s k)) (k + rdn (tl s k) + N) = d at ha ⊢
          generalize k + rdn (tl s k) + N = K at ha ⊢
          exact ropt_of b s _ _ n _ _ w h.lt (ha)
        · rw [oq_long hl hz hx]
          dsimp only
          have ha := att_quit_opt b s k 21 99 #[.pointer (some ⟨w.heap.size, 0, none⟩)] ((w.alloc (.cells #[.int .i64 n] 3)).alloc (.cells #[.bool false, .string ⟨#[]⟩] 76)) h' cOpt_in (fun w1 hb => by
            by_cases h0 : 0 ≤ M.uz (rdv (tl s k))
            · obtain ⟨N, hN⟩ : ∃ N : Nat, M.uz (rdv (tl s k)) = (N : Int) := ⟨(M.uz (rdv (tl s k))).toNat, by omega⟩
              rw [hN] at hx
              by_cases h1 : (N : Int) ≤ n ∨ N = 0
              · simpa using cOpt_long2 b w.heap.size s k n w1 (hr w1 hb) (hp w1 hb) hk hs hm1 hm2 N hl hN h1 (by omega)
              · simpa using cOpt_long1 b w.heap.size s k n w1 (hr w1 hb) (hp w1 hb) hk hs hm1 hm2 N hl hN (by omega) (by omega)
            · simpa using cOpt_neg b w.heap.size s k n w1 (hr w1 hb) (hp w1 hb) hk hs hl (by omega))
          clear hp hr hx hl hz
          exact ropt_of b s _ _ n _ _ w h.lt (ha)
    · rw [oq_bad hl]
      dsimp only
      have ha := att_quit_opt b s k _ 99 #[.pointer (some ⟨w.heap.size, 0, none⟩)] ((w.alloc (.cells #[.int .i64 n] 3)).alloc (.cells #[.bool false, .string ⟨#[]⟩] 76)) h' cOpt_in (fun w1 hb => by simpa using cOpt_bad b w.heap.size s k n w1 (hr w1 hb) (hp w1 hb) hk hs hl)
      clear hp hr hl
      generalize rde (tl s k) = E at ha ⊢
      exact ropt_of b s _ _ n _ _ w h.lt (ha)
  · rw [oq_stale he]
    dsimp only
    have ha := fun fv => att_stale_opt b s k e fv ((w.alloc (.cells #[.int .i64 n] 3)).alloc (.cells #[.bool false, .string ⟨#[]⟩] 76)) h' he
    clear he hp hr
    exact ropt_of b s _ _ n _ _ w h.lt (ha _)
end Go.Proofs.YtpfaioncaolmjaaGreat
