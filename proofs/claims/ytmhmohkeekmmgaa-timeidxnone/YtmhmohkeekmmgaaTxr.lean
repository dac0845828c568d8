/- The program's index: Len, Entry, Last, Cut, Add. -/
import Derived.Test.YtmhmohkeekmmgaaTxq
namespace Go.Proofs.Ytmhmohkeekmmgaa
open Go.RowKit
theorem Ip.below {w w' : World} {p : Option Addr} {v : Value} {l : List En} (h : Ip w p v l) (hb : Below w.heap.size w w') : Ip w' p v l := by
  rcases h with ⟨x, rfl, h⟩ | h
  · exact Or.inl ⟨x, rfl, h.below hb⟩
  · exact Or.inr h
theorem Iq.below {w w' : World} {p : Option Addr} {x : Nat} {v : Value} (h : Iq w w' p x v) : Below w.heap.size w w' := h.ch.below (Nat.le_refl _) fun _ _ h => h
theorem len_any (p : Option Addr) (v : Value) (l : List En) (w : World) (h : Ip w p v l) : Calls Try.prog 25 #[.pointer p] w fun e w' => e = .returned (.int .i64 l.length) ∧ Below w.heap.size w w' := by
  go_enter Try.func25, Try.ntmps25
  go_wp2_with (first | (go_at_call 31; refine (source_any p v l _ h).mono ?_; rintro e w1 ⟨x, rfl, hx, hq⟩) | (go_at_call 48; refine (count_any x v l _ hx).mono ?_; rintro e w' ⟨rfl, rfl⟩))
  go_ret
  exact ⟨rfl, hq.below⟩
set_option maxRecDepth 20000 in
set_option maxHeartbeats 1000000 in
theorem ientry_any (p : Option Addr) (i : Int) (v : Value) (l : List En) (w : World) (h : Ip w p v l) : Calls Try.prog 26 #[.pointer p, .int .i64 i] w fun e w' => e = .returned (.tuple #[enV (atE l i).1, .bool (atE l i).2]) ∧ Below w.heap.size w w' := by
  have HB := hid ((Below.refl w.heap.size w).alloc (Nat.le_refl _) (.cells #[.int .i64 0, .int .i64 0] 29))
  have HS : Hid (Ip (w.alloc (.cells #[.int .i64 0, .int .i64 0] 29)) p v l) := h.below HB.out
  have HE : Hid (∀ wx x, Ix 60 wx x v l → Calls Try.prog 50 #[.pointer (some ⟨x, 0, none⟩), .int .i64 i] wx fun e w' => e = .returned (.tuple #[enV (atE l i).1, .bool (atE l i).2]) ∧ Below wx.heap.size wx w') := fun wx x hx => entry_any x i v l wx hx
  generalize atE l i = R at *
  obtain ⟨⟨rk, ra⟩, rb⟩ := R
  unfold enV at *
  simp only at HE ⊢
  clear h
  go_enter Try.func26, Try.ntmps26
  go_wp2_with (first | (go_at_call 31; refine (source_any p v l _ HS.out).mono ?_; rintro e w1 ⟨x, rfl, hx, hq⟩; have HX := hid hx; have HQ := hid hq.below; clear hx hq) | (go_at_call 50; refine (HE.out _ x HX.out).mono ?_; rintro e w2 ⟨rfl, hb2⟩; have hb3 := HQ.out.trans (hb2.mono HQ.out.size); obtain ⟨z1, z2, z3, z4, z5⟩ := res4 rfl hb3; have HB2 := hid hb3; clear hb2 hb3))
  refine bodyPost_ret (v := .tuple #[.agg #[.int .i64 rk, .int .i64 ra], .bool rb]) (by simp [results, Try.results26, go_sem, z1, z2]) rfl ⟨rfl, ?_⟩
  exact ((HB.out.trans (HB2.out.mono HB.out.size)).setCell (Nat.le_refl _) _).setCell (Nat.le_refl _) _
set_option maxRecDepth 20000 in
set_option maxHeartbeats 1000000 in
theorem ilast_any (p : Option Addr) (v : Value) (l : List En) (w : World) (h : Ip w p v l) (hn : l.length ≤ 8796093022208) : Calls Try.prog 27 #[.pointer p] w fun e w' => e = .returned (.tuple #[enV (atE l ((l.length : Int) - 1)).1, .bool (atE l ((l.length : Int) - 1)).2]) ∧ Below w.heap.size w w' := by
  have HB := hid ((Below.refl w.heap.size w).alloc (Nat.le_refl _) (.cells #[.int .i64 0, .int .i64 0] 29))
  have HS : Hid (Ip (w.alloc (.cells #[.int .i64 0, .int .i64 0] 29)) p v l) := h.below HB.out
  have HE : Hid (∀ wx x, Ix 60 wx x v l → Calls Try.prog 28 #[.pointer (some ⟨x, 0, none⟩)] wx fun e w' => e = .returned (.tuple #[enV (atE l ((l.length : Int) - 1)).1, .bool (atE l ((l.length : Int) - 1)).2]) ∧ Below wx.heap.size wx w') := fun wx x hx => last_any x v l wx hx hn
  generalize atE l ((l.length : Int) - 1) = R at *
  obtain ⟨⟨rk, ra⟩, rb⟩ := R
  unfold enV at *
  simp only at HE ⊢
  clear h
  go_enter Try.func27, Try.ntmps27
  go_wp2_with (first | (go_at_call 31; refine (source_any p v l _ HS.out).mono ?_; rintro e w1 ⟨x, rfl, hx, hq⟩; have HX := hid hx; have HQ := hid hq.below; clear hx hq) | (go_at_call 28; refine (HE.out _ x HX.out).mono ?_; rintro e w2 ⟨rfl, hb2⟩; have hb3 := HQ.out.trans (hb2.mono HQ.out.size); obtain ⟨z1, z2, z3, z4, z5⟩ := res4 rfl hb3; have HB2 := hid hb3; clear hb2 hb3))
  refine bodyPost_ret (v := .tuple #[.agg #[.int .i64 rk, .int .i64 ra], .bool rb]) (by simp [results, Try.results27, go_sem, z1, z2]) rfl ⟨rfl, ?_⟩
  exact ((HB.out.trans (HB2.out.mono HB.out.size)).setCell (Nat.le_refl _) _).setCell (Nat.le_refl _) _
/-- What Cut leaves, and answers. -/
def cutE (l : List En) (n : Int) : List En := if 0 ≤ n ∧ n ≤ l.length then l.take n.toNat else l
def cutC (l : List En) (n : Int) : Int := if 0 ≤ n ∧ n ≤ l.length then 0 else 1
/-- What a changing call leaves: the index of p (or one that nobody sees) with the entries l'. -/
def Left (w w' : World) (p : Option Addr) (v : Value) (l' : List En) : Prop := (∃ x v', p = some ⟨x, 0, none⟩ ∧ Ix 60 w' x v' l' ∧ Ch (IS x v) w w' ∧ Moved w v v') ∨ (p = none ∧ Below w.heap.size w w')
theorem left_of {w w1 w' : World} {p : Option Addr} {x : Nat} {v v' : Value} {l' : List En} (hq : Iq w w1 p x v) (hx : Ix 60 w' x v' l') (hc : Ch (IS x v) w1 w') (hm : Moved w1 v v') : Left w w' p v l' := by
  rcases hq with ⟨rfl, rfl⟩ | ⟨rfl, rfl, rfl, rfl⟩
  · exact Or.inl ⟨x, v', rfl, hx, hc, hm⟩
  · refine Or.inr ⟨rfl, ?_⟩
    have h0 : Ch (fun i => i = w.heap.size) w (w.alloc (.cells #[.slice none 0 0] 60)) := (Ch.refl _ _).alloc _
    refine (h0.then hc (fun i _ hi => ?_)).below (Nat.le_refl _) (fun i hi h => by omega)
    rcases hi with hi | hi
    · exact hi
    · cases hi
set_option maxRecDepth 20000 in
set_option maxHeartbeats 1000000 in
theorem tcut_any {T : TypeId} (x : Nat) (n : Int) (v : Value) (l : List En) (w : World) (h : Ix T w x v l) (hT : T ≠ 29) : Calls Try.prog 32 #[.pointer (some ⟨x, 0, none⟩), .int .i64 n] w fun e w' => e = .returned (.int .i64 (cutC l n)) ∧ ∃ v', Ix T w' x v' (cutE l n) ∧ Ch (IS x v) w w' ∧ Moved w v v' := by
  have HX := hid h
  have HC : Hid (∀ wx, wx = w → Calls Try.prog 48 #[.pointer (some ⟨x, 0, none⟩)] wx fun e w' => e = .returned (.int .i64 l.length) ∧ w' = wx) := fun wx e => by subst e; exact count_any x v l wx h
  have c0 := h.c0
  have f0 := h.f0
  obtain ⟨N, a, cap, hN, rfl, hens⟩ := h.row.ensN
  have hcap : N ≤ cap := by
    rcases h.row.2 with ⟨h1, _⟩ | ⟨g, cap', cur, hv, _, _, h5, _⟩
    · cases h1; exact Nat.le_refl _
    · cases hv; rw [hN]; exact h5
  unfold cutE cutC
  rw [← hN] at HC ⊢
  have HN := hid hN
  clear h hens hN
  by_cases h0 : 0 ≤ n
  · by_cases h1 : n ≤ N
    · rw [if_pos ⟨h0, h1⟩, if_pos ⟨h0, h1⟩]
      obtain ⟨j, rfl⟩ : ∃ j : Nat, n = j := ⟨n.toNat, by omega⟩
      rw [Int.toNat_natCast]
      have h0' : ¬ (j : Int) < 0 := by omega
      have hge : ¬ (N : Int) < j := by omega
      have hjc : (j : Int) ≤ cap := by omega
      go_enter Try.func32, Try.ntmps32
      go_wp2_with (go_at_call 48; refine (HC.out _ rfl).mono ?_; rintro e w' ⟨rfl, rfl⟩)
      go_ret
      refine ⟨rfl, .slice a j cap, Ix.put HX.out.blk hT ?_, (Ch.refl _ _).setCell _ _ (fun _ => Or.inl rfl), fun g hg => Or.inl (by cases a <;> exact hg)⟩
      have := HX.out.row
      rw [HN.out] at this h1
      exact this.cut (by omega)
    · rw [if_neg (fun h => h1 h.2), if_neg (fun h => h1 h.2)]
      have h0' : ¬ n < 0 := by omega
      have hge : (N : Int) < n := by omega
      go_enter Try.func32, Try.ntmps32
      go_wp2_with (go_at_call 48; refine (HC.out _ rfl).mono ?_; rintro e w' ⟨rfl, rfl⟩)
      go_ret
      exact ⟨rfl, _, HX.out, Ch.refl _ _, Moved.refl _ _⟩
  · rw [if_neg (fun h => h0 h.1), if_neg (fun h => h0 h.1)]
    have h0' : n < 0 := by omega
    go_enter Try.func32, Try.ntmps32
    go_wp2_with fail
    go_ret
    exact ⟨rfl, _, HX.out, Ch.refl _ _, Moved.refl _ _⟩
theorem cut_any (p : Option Addr) (n : Int) (v : Value) (l : List En) (w : World) (h : Ip w p v l) : Calls Try.prog 14 #[.pointer p, .int .i64 n] w fun e w' => e = .returned (.int .i64 (cutC l n)) ∧ Left w w' p v (cutE l n) := by
  go_enter Try.func14, Try.ntmps14
  go_wp2_with (first | (go_at_call 31; refine (source_any p v l _ h).mono ?_; rintro e w1 ⟨x, rfl, hx, hq⟩) | (go_at_call 32; refine (tcut_any x n v l _ hx (by decide)).mono ?_; rintro e w2 ⟨rfl, v', hx', hc', hm'⟩))
  go_ret
  exact ⟨rfl, left_of hq hx' hc' hm'⟩
end Go.Proofs.Ytmhmohkeekmmgaa
