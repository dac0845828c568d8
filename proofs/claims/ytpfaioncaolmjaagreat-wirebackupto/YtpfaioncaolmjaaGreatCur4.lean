/- What a cursor's call for a text or null answers. -/
import Derived.Test.YtpfaioncaolmjaaGreatAnsd
namespace Go.Proofs.YtpfaioncaolmjaaGreat
open Go.RowKit
set_option maxHeartbeats 1000000 in
set_option maxRecDepth 20000 in
theorem opt_bad (b : Nat) (s : ByteArray) (k : Nat) (most : Int) (w : World) (h : Rd w b s k 0) (hk : k ≤ s.size) (hs : s.size ≤ 9223372036854775807) (he : ¬ rde (tl s k) = 0) :
    Calls Tryz.prog 100 #[.pointer (some ⟨b, 0, none⟩), .int .i64 most] w (Quits b s (rde (tl s k)) w) := by
  go_enter Tryz.func100, Tryz.ntmps100
  go_wp2_with (go_at_call 95; refine (vi_bad b s k _ (h.alloc _) hk hs he).mono ?_; rintro e w' ⟨rfl, hrd, hch⟩)
  exact ⟨rfl, rfl, hrd, ((Ch.refl _ _).alloc _).trans hch⟩
set_option maxHeartbeats 1000000 in
set_option maxRecDepth 20000 in
theorem opt_null (b : Nat) (s : ByteArray) (k : Nat) (most : Int) (w : World) (h : Rd w b s k 0) (hk : k ≤ s.size) (hs : s.size ≤ 9223372036854775807) (he : rde (tl s k) = 0) (hn : M.uz (rdv (tl s k)) = -1) :
    Calls Tryz.prog 100 #[.pointer (some ⟨b, 0, none⟩), .int .i64 most] w (Gets b s (.agg #[.bool false, .string ⟨#[]⟩]) (k + rdn (tl s k)) w) := by
  have hu := fun w' h' => vi_ok b s k w' h' hk hs he
  have hb := rd_bds (tl s k)
  have hz := tl_size s k
  generalize hK : k + rdn (tl s k) = K at *
  have hub := M.uz_bd (u := (rdv (tl s k) : Int)) (by omega) hb.1
  generalize M.uz (rdv (tl s k)) = u at *
  obtain ⟨hb1, hb2, hb3⟩ := hb
  obtain ⟨hu1, hu2⟩ := hub
  have hKs : K ≤ s.size := by omega
  have l0 := h.lt
  clear hK he hb1 hb2 hb3 hz
  subst hn
  go_enter Tryz.func100, Tryz.ntmps100
  go_wp2_with fail
  refine (hu _ (h.alloc _)).mono ?_
  rintro e w' ⟨rfl, hrd, hch⟩
  have gv : w'.heap[w.heap.size]? = some (.cells #[.bool false, .string ⟨#[]⟩] 76 (0, 0)) := (hch.block _ (by simp) (by omega)).trans (heap_new _ _)
  have c3 : w'.cell? ⟨w.heap.size, 0, none⟩ = some (.bool false) := (cell_of gv).trans rfl
  have c4 : w'.cell? ⟨w.heap.size, 1, none⟩ = some (.string ⟨#[]⟩) := (cell_of gv).trans rfl
  have f3 := froz_of (i := 0) gv
  have f4 := froz_of (i := 1) gv
  have HV := Hid.mk gv
  have HC : Hid (Ch (fun i => i = b) w w') := ((Ch.refl _ _).alloc _).trans hch
  clear gv hch
  go_wp2
  have HF : Rd ((w'.setCell ⟨w.heap.size, 0, none⟩ (.bool false)).setCell ⟨w.heap.size, 1, none⟩ (.string ⟨#[]⟩)) b s K 0 := (hrd.far _ (by show b ≠ w.heap.size; omega)).far _ (by show b ≠ w.heap.size; omega)
  have c7 : ((w'.setCell ⟨w.heap.size, 0, none⟩ (.bool false)).setCell ⟨w.heap.size, 1, none⟩ (.string ⟨#[]⟩)).cell? ⟨w.heap.size, 0, none⟩ = some (.bool false) := (cell_of (heap_set (heap_set HV.out))).trans rfl
  have c8 : ((w'.setCell ⟨w.heap.size, 0, none⟩ (.bool false)).setCell ⟨w.heap.size, 1, none⟩ (.string ⟨#[]⟩)).cell? ⟨w.heap.size, 1, none⟩ = some (.string ⟨#[]⟩) := (cell_of (heap_set (heap_set HV.out))).trans rfl
  exact bodyPost_ret (v := .agg #[.bool false, .string ⟨#[]⟩]) (by simp [results, Tryz.results100, go_sem, c7, c8]) rfl ⟨rfl, HF, ((HC.out.setCell _ _ (fun h => absurd h (by simp))).setCell _ _ (fun h => absurd h (by simp)))⟩
set_option maxHeartbeats 1000000 in
set_option maxRecDepth 20000 in
theorem opt_neg (b : Nat) (s : ByteArray) (k : Nat) (most : Int) (w : World) (h : Rd w b s k 0) (hk : k ≤ s.size) (hs : s.size ≤ 9223372036854775807) (he : rde (tl s k) = 0) (hn : M.uz (rdv (tl s k)) < -1) :
    Calls Tryz.prog 100 #[.pointer (some ⟨b, 0, none⟩), .int .i64 most] w (Quits b s 21 w) := by
  have hu := fun w' h' => vi_ok b s k w' h' hk hs he
  have hb := rd_bds (tl s k)
  have hz := tl_size s k
  generalize hK : k + rdn (tl s k) = K at *
  have hub := M.uz_bd (u := (rdv (tl s k) : Int)) (by omega) hb.1
  generalize M.uz (rdv (tl s k)) = u at *
  obtain ⟨hb1, hb2, hb3⟩ := hb
  obtain ⟨hu1, hu2⟩ := hub
  have hKs : K ≤ s.size := by omega
  have l0 := h.lt
  clear hK he hb1 hb2 hb3 hz
  have hne : (u == -1) = false := by rw [beq_eq_false_iff_ne]; omega
  go_enter Tryz.func100, Tryz.ntmps100
  go_wp2_with (first
    | (go_at_call 95; refine (hu _ (h.alloc _)).mono ?_; rintro e w' ⟨rfl, hrd, hch⟩)
    | (go_at_call 127; refine (give_up _ 21 _ (by first | with_reducible rfl | exact decide_eq_true (by omega) | assumption)).mono ?_; rintro e w' ⟨rfl, rfl⟩))
  exact ⟨rfl, rfl, ⟨K, hrd⟩, ((Ch.refl _ _).alloc _).trans hch⟩
set_option maxHeartbeats 1000000 in
set_option maxRecDepth 20000 in
theorem opt_ok (b : Nat) (s : ByteArray) (k : Nat) (most : Int) (w : World) (h : Rd w b s k 0) (hk : k ≤ s.size) (hs : s.size ≤ 9223372036854775807) (hm1 : -9223372036854775808 ≤ most) (hm2 : most ≤ 9223372036854775807) (n : Nat) (he : rde (tl s k) = 0) (hn : M.uz (rdv (tl s k)) = n) (h1 : (n : Int) ≤ most ∨ n = 0) (h2 : k + rdn (tl s k) + n ≤ s.size) :
    Calls Tryz.prog 100 #[.pointer (some ⟨b, 0, none⟩), .int .i64 most] w (Gets b s (.agg #[.bool true, .string (s.extract (k + rdn (tl s k)) (k + rdn (tl s k) + n))]) (k + rdn (tl s k) + n) w) := by
  have hu := fun w' h' => vi_ok b s k w' h' hk hs he
  have hb := rd_bds (tl s k)
  have hz := tl_size s k
  generalize hK : k + rdn (tl s k) = K at *
  have hub := M.uz_bd (u := (rdv (tl s k) : Int)) (by omega) hb.1
  generalize M.uz (rdv (tl s k)) = u at *
  obtain ⟨hb1, hb2, hb3⟩ := hb
  obtain ⟨hu1, hu2⟩ := hub
  have hKs : K ≤ s.size := by omega
  have l0 := h.lt
  clear hK he hb1 hb2 hb3 hz
  subst hn
  have hne : ((n : Int) == -1) = false := by rw [beq_eq_false_iff_ne]; omega
  go_enter Tryz.func100, Tryz.ntmps100
  go_wp2_with (first
    | (go_at_call 95; refine (hu _ (h.alloc _)).mono ?_; rintro e w' ⟨rfl, hrd, hch⟩)
    | (go_at_call 127; refine (give_no _ _ _ (by first | with_reducible rfl | exact decide_eq_false (by omega) | assumption)).mono ?_; rintro e w' ⟨rfl, rfl⟩)
    | (fail))
  refine (sized_ok b s K n most _ hrd hKs hs hm1 hm2 (by omega) h1 h2).mono ?_
  rintro e w2 ⟨rfl, hrd2, hch2⟩
  have gv : w2.heap[w.heap.size]? = some (.cells #[.bool false, .string ⟨#[]⟩] 76 (0, 0)) := (hch2.block _ (by have := hch.size; simp at this; omega) (by omega)).trans ((hch.block _ (by simp) (by omega)).trans (heap_new _ _))
  have c3 : w2.cell? ⟨w.heap.size, 0, none⟩ = some (.bool false) := (cell_of gv).trans rfl
  have c4 : w2.cell? ⟨w.heap.size, 1, none⟩ = some (.string ⟨#[]⟩) := (cell_of gv).trans rfl
  have f3 := froz_of (i := 0) gv
  have f4 := froz_of (i := 1) gv
  have HV := Hid.mk gv
  have HC : Hid (Ch (fun i => i = b) w w2) := (((Ch.refl _ _).alloc _).trans hch).trans hch2
  clear gv hch hch2
  generalize s.extract K (K + n) = d at *
  go_wp2
  have HF : Rd ((w2.setCell ⟨w.heap.size, 0, none⟩ (.bool true)).setCell ⟨w.heap.size, 1, none⟩ (.string d)) b s (K + n) 0 := (hrd2.far _ (by show b ≠ w.heap.size; omega)).far _ (by show b ≠ w.heap.size; omega)
  have c7 : ((w2.setCell ⟨w.heap.size, 0, none⟩ (.bool true)).setCell ⟨w.heap.size, 1, none⟩ (.string d)).cell? ⟨w.heap.size, 0, none⟩ = some (.bool true) := (cell_of (heap_set (heap_set HV.out))).trans rfl
  have c8 : ((w2.setCell ⟨w.heap.size, 0, none⟩ (.bool true)).setCell ⟨w.heap.size, 1, none⟩ (.string d)).cell? ⟨w.heap.size, 1, none⟩ = some (.string d) := (cell_of (heap_set (heap_set HV.out))).trans rfl
  exact bodyPost_ret (v := .agg #[.bool true, .string d]) (by simp [results, Tryz.results100, go_sem, c7, c8]) rfl ⟨rfl, HF, ((HC.out.setCell _ _ (fun h => absurd h (by simp))).setCell _ _ (fun h => absurd h (by simp)))⟩
set_option maxHeartbeats 1000000 in
set_option maxRecDepth 20000 in
theorem opt_long1 (b : Nat) (s : ByteArray) (k : Nat) (most : Int) (w : World) (h : Rd w b s k 0) (hk : k ≤ s.size) (hs : s.size ≤ 9223372036854775807) (hm1 : -9223372036854775808 ≤ most) (hm2 : most ≤ 9223372036854775807) (n : Nat) (he : rde (tl s k) = 0) (hn : M.uz (rdv (tl s k)) = n) (h1 : most < (n : Int)) (h2 : 0 < n) :
    Calls Tryz.prog 100 #[.pointer (some ⟨b, 0, none⟩), .int .i64 most] w (Quits b s 21 w) := by
  have hu := fun w' h' => vi_ok b s k w' h' hk hs he
  have hb := rd_bds (tl s k)
  have hz := tl_size s k
  generalize hK : k + rdn (tl s k) = K at *
  have hub := M.uz_bd (u := (rdv (tl s k) : Int)) (by omega) hb.1
  generalize M.uz (rdv (tl s k)) = u at *
  obtain ⟨hb1, hb2, hb3⟩ := hb
  obtain ⟨hu1, hu2⟩ := hub
  have hKs : K ≤ s.size := by omega
  have l0 := h.lt
  clear hK he hb1 hb2 hb3 hz
  subst hn
  have hne : ((n : Int) == -1) = false := by rw [beq_eq_false_iff_ne]; omega
  go_enter Tryz.func100, Tryz.ntmps100
  go_wp2_with (first
    | (go_at_call 95; refine (hu _ (h.alloc _)).mono ?_; rintro e w' ⟨rfl, hrd, hch⟩)
    | (go_at_call 127; refine (give_no _ _ _ (by first | with_reducible rfl | exact decide_eq_false (by omega) | assumption)).mono ?_; rintro e w' ⟨rfl, rfl⟩)
    | (fail))
  refine (sized_long1 b s K n most _ hrd hm1 hm2 h1 h2).mono ?_
  rintro e w2 ⟨rfl, hrd2, hch2⟩
  exact ⟨rfl, rfl, hrd2, (((Ch.refl _ _).alloc _).trans hch).trans hch2⟩
set_option maxHeartbeats 1000000 in
set_option maxRecDepth 20000 in
theorem opt_long2 (b : Nat) (s : ByteArray) (k : Nat) (most : Int) (w : World) (h : Rd w b s k 0) (hk : k ≤ s.size) (hs : s.size ≤ 9223372036854775807) (hm1 : -9223372036854775808 ≤ most) (hm2 : most ≤ 9223372036854775807) (n : Nat) (he : rde (tl s k) = 0) (hn : M.uz (rdv (tl s k)) = n) (h1 : (n : Int) ≤ most ∨ n = 0) (h2 : s.size < k + rdn (tl s k) + n) :
    Calls Tryz.prog 100 #[.pointer (some ⟨b, 0, none⟩), .int .i64 most] w (Quits b s 21 w) := by
  have hu := fun w' h' => vi_ok b s k w' h' hk hs he
  have hb := rd_bds (tl s k)
  have hz := tl_size s k
  generalize hK : k + rdn (tl s k) = K at *
  have hub := M.uz_bd (u := (rdv (tl s k) : Int)) (by omega) hb.1
  generalize M.uz (rdv (tl s k)) = u at *
  obtain ⟨hb1, hb2, hb3⟩ := hb
  obtain ⟨hu1, hu2⟩ := hub
  have hKs : K ≤ s.size := by omega
  have l0 := h.lt
  clear hK he hb1 hb2 hb3 hz
  subst hn
  have hne : ((n : Int) == -1) = false := by rw [beq_eq_false_iff_ne]; omega
  go_enter Tryz.func100, Tryz.ntmps100
  go_wp2_with (first
    | (go_at_call 95; refine (hu _ (h.alloc _)).mono ?_; rintro e w' ⟨rfl, hrd, hch⟩)
    | (go_at_call 127; refine (give_no _ _ _ (by first | with_reducible rfl | exact decide_eq_false (by omega) | assumption)).mono ?_; rintro e w' ⟨rfl, rfl⟩)
    | (fail))
  refine (sized_long2 b s K n most _ hrd hKs hs hm1 hm2 (by omega) h1 h2).mono ?_
  rintro e w2 ⟨rfl, hrd2, hch2⟩
  exact ⟨rfl, rfl, hrd2, (((Ch.refl _ _).alloc _).trans hch).trans hch2⟩
end Go.Proofs.YtpfaioncaolmjaaGreat
