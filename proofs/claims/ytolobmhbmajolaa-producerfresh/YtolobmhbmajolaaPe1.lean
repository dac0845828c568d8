/- A new book; the document's examples. -/
import Derived.Test.YtolobmhbmajolaaPe0
namespace Go.Proofs.Ytolobmhbmajolaa
open Go.RowKit
theorem new_any (w : World) : Calls Try.prog 9 #[] w fun e w' => e = .returned (.pointer (some ⟨w.heap.size, 0, none⟩)) ∧ w' = w.alloc (.cells #[.map none] 60) := by
  go_enter Try.func9, Try.ntmps9
  go_wp2
  go_ret
  exact ⟨rfl, rfl⟩
theorem Bk.new (w : World) : Bk (w.alloc (.cells #[.map none] 60)) w.heap.size none [] :=
  ⟨heap_new _ _, rfl, (fun _ h => by cases h), List.Pairwise.nil, List.Pairwise.nil, (fun _ h => by cases h)⟩
/-- A book of the call's own: from H on, in a world behind w. -/
structure Bo (w : World) (H : Nat) (b : Nat) (F : Int → List Nt) (k : Nat) (y : World) : Prop where
  bk : ∃ m fs, Bk y b m fs ∧ (∀ q, fv fs q = F q) ∧ fs.length ≤ k ∧ ∀ i, Ft b m fs i → H ≤ i
  bel : Below H w y
  le : H ≤ y.heap.size
theorem Bo.new (w : World) : Bo w w.heap.size w.heap.size (fun _ => []) 0 (w.alloc (.cells #[.map none] 60)) :=
  ⟨⟨none, [], Bk.new w, fun _ => rfl, Nat.le_refl _, (by rintro i (rfl | h | ⟨f, hf, _⟩); exact Nat.le_refl _; cases h; cases hf)⟩, (Below.refl _ w).alloc (Nat.le_refl _) _, by simp⟩
theorem Bo.call {w : World} {H b k : Nat} {F : Int → List Nt} {y y' : World} (h : Bo w H b F k y) (hb : Below y.heap.size y y') : Bo w H b F k y' := by
  obtain ⟨m, fs, h1, h2⟩ := h.bk
  exact ⟨⟨m, fs, h1.bel hb, h2⟩, h.bel.trans (hb.mono h.le), Nat.le_trans h.le hb.size⟩
theorem Bo.drew {w : World} {H b k : Nat} {F : Int → List Nt} {y : World} (h : Bo w H b F k y) : Bo w H b F k y.drew := h.call ⟨rfl, rfl, rfl, Nat.le_refl _, fun _ _ => rfl⟩
theorem Bo.beh {w : World} {H b k : Nat} {F G : Int → List Nt} {y y' : World} {m : Option Nat} {fs : List Tl} (hb : Below H w y) (hle : H ≤ y.heap.size) (hF : ∀ i, Ft b m fs i → H ≤ i) (hk : fs.length ≤ k) (h : Beh y b m fs G 1 y') (hG : ∀ q, G q = F q) : Bo w H b F (k + 1) y' := by
  obtain ⟨m', fs', h1, h2, h3, h4, h5⟩ := h
  refine ⟨⟨m', fs', h1, fun q => (h2 q).trans (hG q), by omega, fun i hi => ?_⟩, hb.trans (h4.below hle (fun i hi hs => by have := hF i hs; omega)), Nat.le_trans hle h4.size⟩
  rcases h5 i hi with e | e
  · exact hF i e
  · omega
def kpF' (F : Int → List Nt) (id : Int) (x : Nt) (q : Int) : List Nt := if q = id then kp (F id ++ [x]) else F q
theorem Bo.next {w : World} {H b k : Nat} {F : Int → List Nt} {y : World} (h : Bo w H b F k y) (id : Int) (h0 : -9223372036854775808 ≤ id) (h1 : id < 9223372036854775808) :
    Calls Try.prog 18 #[.pointer (some ⟨b, 0, none⟩), .int .i64 id] y fun e w' => e = .returned (.tuple #[.int .i32 (nxt (F id)), .bool (!(F id).isEmpty)]) ∧ Below y.heap.size y w' := by
  obtain ⟨m, fs, hb, hF, _⟩ := h.bk
  rw [← hF id]
  exact bnext_any b m fs id h0 h1 y hb
theorem Bo.check {w : World} {H b k : Nat} {F : Int → List Nt} {y : World} (h : Bo w H b F k y) (id seq cnt : Int) (h0 : -9223372036854775808 ≤ id) (h1 : id < 9223372036854775808) (hs : seq < 2147483648) :
    Calls Try.prog 19 #[.pointer (some ⟨b, 0, none⟩), .int .i64 id, .int .i32 seq, .int .i64 cnt] y fun e w' => e = .returned (chV (chk (F id) id seq cnt)) ∧ Below y.heap.size y w' := by
  obtain ⟨m, fs, hb, hF, _⟩ := h.bk
  rw [← hF id]
  exact check_any b m fs id seq cnt h0 h1 hs y hb
theorem Bo.note {w : World} {H b k : Nat} {F : Int → List Nt} {y : World} (h : Bo w H b F k y) (base len : Int) (pk : Bool) (cnt fst gr prod seq : Int) (hg : goodB base cnt prod seq = true) (hs : seq < 2147483648) (hp : 0 ≤ prod) (hp1 : prod < 9223372036854775808) (hk : k < 4611686018427387904) :
    Calls Try.prog 20 #[.pointer (some ⟨b, 0, none⟩), hdV base len pk cnt fst gr prod seq] y fun e w' => e = .returned (.int .i64 0) ∧ Bo w H b (kpF' F prod ⟨base, cnt, seq⟩) (k + 1) w' ∧ Ch (fun i => H ≤ i) y w' := by
  obtain ⟨m, fs, hb, hF, hl, hft⟩ := h.bk
  refine (note_good b m fs base len pk cnt fst gr prod seq hg hs hp hp1 (by omega) y hb).mono fun e w' hk' => ⟨hk'.1, Bo.beh h.bel h.le hft hl hk'.2 (fun q => by unfold kpF kpF'; rw [hF, hF]), ?_⟩
  obtain ⟨_, _, _, _, _, hc, _⟩ := hk'.2
  exact hc.mono (fun i _ hi => hft i hi)
set_option maxHeartbeats 2000000 in
set_option maxRecDepth 20000 in
theorem knows_any (w : World) : Calls Try.prog 8 #[] w fun e w' => e = .returned (.bool true) ∧ Below w.heap.size w w' := by
  have HW := Hid.mk (new_any w)
  obtain ⟨W, hW⟩ : ∃ W, w.alloc (.cells #[.map none] 60) = W := ⟨_, rfl⟩
  have B0 : Bo w w.heap.size w.heap.size (fun _ => []) 0 W := by rw [← hW]; exact Bo.new w
  rw [hW] at HW
  have CN := Hid.mk (B0.note 10 0 false 3 0 0 7 0 (by decide) (by omega) (by omega) (by omega) (by omega))
  generalize w.heap.size = X at *
  have CX : Hid (∀ y, Bo w X X (kpF' (fun _ => []) 7 ⟨10, 3, 0⟩) (0 + 1) y → Calls Try.prog 18 #[.pointer (some ⟨X, 0, none⟩), .int .i64 7] y fun e w' => e = .returned (.tuple #[.int .i32 3, .bool true]) ∧ Bo w X X (kpF' (fun _ => []) 7 ⟨10, 3, 0⟩) (0 + 1) w') := fun y hy => (hy.next 7 (by omega) (by omega)).mono fun e w' h => ⟨h.1, hy.call h.2⟩
  have C1 : Hid (∀ y, Bo w X X (kpF' (fun _ => []) 7 ⟨10, 3, 0⟩) (0 + 1) y → Calls Try.prog 19 #[.pointer (some ⟨X, 0, none⟩), .int .i64 7, .int .i32 0, .int .i64 3] y fun e w' => e = .returned (.tuple #[.int .i64 10, .int .i64 62]) ∧ Bo w X X (kpF' (fun _ => []) 7 ⟨10, 3, 0⟩) (0 + 1) w') := fun y hy => (hy.check 7 0 3 (by omega) (by omega) (by omega)).mono fun e w' h => ⟨h.1, hy.call h.2⟩
  have C2 : Hid (∀ y, Bo w X X (kpF' (fun _ => []) 7 ⟨10, 3, 0⟩) (0 + 1) y → Calls Try.prog 19 #[.pointer (some ⟨X, 0, none⟩), .int .i64 7, .int .i32 4, .int .i64 1] y fun e w' => e = .returned (.tuple #[.int .i64 0, .int .i64 63]) ∧ Bo w X X (kpF' (fun _ => []) 7 ⟨10, 3, 0⟩) (0 + 1) w') := fun y hy => (hy.check 7 4 1 (by omega) (by omega) (by omega)).mono fun e w' h => ⟨h.1, hy.call h.2⟩
  have C3 : Hid (∀ y, Bo w X X (kpF' (fun _ => []) 7 ⟨10, 3, 0⟩) (0 + 1) y → Calls Try.prog 19 #[.pointer (some ⟨X, 0, none⟩), .int .i64 7, .int .i32 0, .int .i64 2] y fun e w' => e = .returned (.tuple #[.int .i64 0, .int .i64 64]) ∧ Bo w X X (kpF' (fun _ => []) 7 ⟨10, 3, 0⟩) (0 + 1) w') := fun y hy => (hy.check 7 0 2 (by omega) (by omega) (by omega)).mono fun e w' h => ⟨h.1, hy.call h.2⟩
  clear B0
  go_enter Try.func8, Try.ntmps8
  go_wp2_with (first | (go_at_call 9; refine HW.out.mono ?_; rintro e w1 ⟨rfl, rfl⟩) | (go_at_call 20; refine CN.out.mono ?_; rintro e w2 ⟨rfl, h2, _⟩; have H2 := Hid.mk h2; clear h2) | (go_at_call 18; refine (CX.out _ H2.out).mono ?_; rintro e w3 ⟨rfl, h3⟩; have H3 := Hid.mk h3; clear h3) | (go_at_call 19; with_reducible refine (C1.out _ H3.out).mono ?_; rintro e w4 ⟨rfl, h4⟩; have H4 := Hid.mk h4; clear h4) | (go_at_call 19; with_reducible refine (C2.out _ H4.out).mono ?_; rintro e w5 ⟨rfl, h5⟩; have H5 := Hid.mk h5; clear h5) | (go_at_call 19; with_reducible refine (C3.out _ H5.out).mono ?_; rintro e w6 ⟨rfl, h6⟩; have H6 := Hid.mk h6; clear h6))
  go_ret
  exact ⟨rfl, H6.out.bel⟩
end Go.Proofs.Ytolobmhbmajolaa
