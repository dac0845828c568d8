/- The document's book: Next and Check. -/
import Derived.Test.YtolobmhbmajolaaPh1
namespace Go.Proofs.Ytolobmhbmajolaa
open Go.RowKit
def toNt (h : Hd) : Nt := ⟨h.b, h.c, h.s⟩
/-- What the document keeps of a producer. -/
def RF (l : List Hd) (p : Int) : List Nt := (bt l p).map toNt
structure RbOk (l : List Hd) : Prop where
  ok : ∀ h ∈ l, h = hdOf h.p (toNt h) ∧ NtOk (toNt h) ∧ 0 ≤ h.p
theorem RbOk.bt {l : List Hd} (h : RbOk l) (p : Int) : ∀ x ∈ bt l p, NtOk (toNt x) := fun x hx => (h.ok x (List.mem_filter.1 hx).1).2.1
theorem RbOk.rf {l : List Hd} (h : RbOk l) (p : Int) : ∀ x ∈ RF l p, NtOk x := fun x hx => by
  obtain ⟨y, hy, rfl⟩ := List.mem_map.1 hx
  exact h.bt p y hy
theorem RbOk.none {l : List Hd} (h : RbOk l) : RF l (-1) = [] := by
  unfold RF Go.Proofs.Ytolobmhbmajolaa.bt
  rw [List.filter_eq_nil_iff.2 (fun x hx => ?_)]
  · rfl
  · have := (h.ok x hx).2.2
    simp
    omega
theorem getD_map {l : List Hd} {j : Nat} (hj : j < l.length) : (l.map toNt).getD j nt0 = toNt (l.getD j hd0) := by
  rw [List.getD_eq_getElem?_getD, List.getElem?_map, List.getElem?_eq_getElem hj, List.getD_eq_getElem?_getD, List.getElem?_eq_getElem hj]
  rfl
theorem nxt_last {l : List Nt} (h : 0 < l.length) : nxt l = nx (l.getD (l.length - 1) nt0) := by
  unfold nxt
  rw [List.getLast?_eq_getElem?, List.getD_eq_getElem?_getD, List.getElem?_eq_getElem (by omega)]
  rfl
set_option maxHeartbeats 4000000 in
set_option maxRecDepth 40000 in
theorem rnext_any (b : Nat) (l : List Hd) (p : Int) (w : World) (S : Nat → Prop) (h : RB b l w S) (ok : RbOk l) (hl : l.length ≤ 2199023255552) :
    Calls Try.prog 31 #[.pointer (some ⟨b, 0, none⟩), .int .i64 p] w fun e w' => e = .returned (.tuple #[.int .i32 (nxt (RF l p)), .bool (!(RF l p).isEmpty)]) ∧ Below w.heap.size w w' := by
  have HC : Hid (Calls Try.prog 25 #[.pointer (some ⟨b, 0, none⟩), .int .i64 p] w fun e w' => ∃ (a : Option Addr) (cap : Nat), e = .returned (.slice a (bt l p).length cap) ∧ Hds w' a (bt l p) ∧ Below w.heap.size w w') := by
    refine (rbatches_any b l p w S h hl).mono ?_
    rintro e w' ⟨v, rfl, ho⟩
    obtain ⟨a, cap, rfl, hd, _⟩ := ho.row.hds
    exact ⟨a, cap, rfl, hd, ho.bel⟩
  have hle := bt_len l p
  by_cases h0 : (bt l p).length = 0
  · have e : RF l p = [] := by unfold RF; rw [List.eq_nil_of_length_eq_zero h0]; rfl
    rw [e]
    rw [h0] at HC
    clear h0 hle e
    go_enter Try.func31, Try.ntmps31
    go_wp2_with (go_at_call 25; with_reducible refine HC.out.mono ?_; rintro e w1 ⟨a, cap, rfl, _, hb⟩; have HB := Hid.mk hb; clear hb)
    go_ret2
    exact ⟨rfl, HB.out⟩
  · obtain ⟨m, hm⟩ : ∃ m, (bt l p).length = m + 1 := ⟨(bt l p).length - 1, by omega⟩
    have e1 : nxt (RF l p) = nx (toNt ((bt l p).getD m hd0)) := by
      rw [nxt_last (by unfold RF; rw [List.length_map]; omega)]
      congr 1
      unfold RF
      rw [List.length_map, hm, Nat.add_sub_cancel]
      exact getD_map (by omega)
    have e2 : (!(RF l p).isEmpty) = true := by
      unfold RF
      cases hb : bt l p with
      | nil => rw [hb] at hm; simp at hm
      | cons a r => rfl
    rw [e1, e2]
    have hok := ok.bt p ((bt l p).getD m hd0) (by rw [List.getD_eq_getElem?_getD, List.getElem?_eq_getElem (by omega)]; exact List.getElem_mem _)
    obtain ⟨N, hN⟩ : ∃ N, m + 1 = N := ⟨_, rfl⟩
    rw [hm, hN] at HC
    have n1 : (N : Int) - 1 = (m : Int) := by omega
    have n2 : ¬ (N : Int) = 0 := by omega
    have n3 : (m : Int) < (N : Int) := by omega
    have n4 : ¬ N = 0 := by omega
    have n5 : m < N := by omega
    have HD : Hid (∀ (w1 : World) (a : Option Addr), Hds w1 a (bt l p) → ∃ g off, a = some ⟨g, off, none⟩ ∧ Eight w1 g (off + m * 8) ((bt l p).getD m hd0)) := by
      intro w1 a hd
      rcases hd with e | ⟨g, off, rfl, _, hc⟩
      · rw [e] at hm; simp at hm
      · exact ⟨g, off, rfl, hc m (by omega)⟩
    generalize (bt l p).getD m hd0 = x at *
    obtain ⟨r0, r1, r2, r3, r4, r5, r6, r7⟩ := x
    have g1 : 1 ≤ r3 := hok.c0
    have g2 : r3 ≤ 65536 := hok.c1
    have g3 : 0 ≤ r7 := hok.s0
    have g4 : r7 < 2147483648 := hok.s1
    have b2 : (N : Int) ≤ 2199023255553 := by omega
    clear hok h0 hle e1 e2 hm ok h hl hN
    show Calls _ _ _ _ fun e w' => e = .returned (.tuple #[.int .i32 ((r7 + r3) % 2147483648), .bool true]) ∧ _
    go_enter Try.func31, Try.ntmps31
    go_wp2_with (go_at_call 25; (with_reducible refine HC.out.mono ?_); rintro e w1 ⟨a, cap, rfl, hd, hb⟩; obtain ⟨g, off, rfl, q0, q1, q2, q3, q4, q5, q6, q7⟩ := HD.out w1 a hd; dsimp only at q0 q1 q2 q3 q4 q5 q6 q7; have HB := Hid.mk hb; clear hb hd)
    go_ret2
    exact ⟨rfl, HB.out.alloc HB.out.size _⟩
/-- The last one that fits. -/
theorem rev_find {α : Type} {f : α → Bool} {l : List α} {d : α} {j : Nat} (hj : j < l.length) (no : ∀ k, j < k → k < l.length → f (l.getD k d) = false) (yes : f (l.getD j d) = true) : l.reverse.find? f = some (l.getD j d) := by
  have e : l = l.take j ++ l.getD j d :: l.drop (j + 1) := by
    rw [List.getD_eq_getElem?_getD, List.getElem?_eq_getElem hj]
    simp
  conv => lhs; rw [e]
  rw [List.reverse_append, List.reverse_cons, List.append_assoc, List.find?_append, List.find?_eq_none.2 ?_, Option.none_or]
  · show List.find? f (l.getD j d :: _) = _
    rw [List.find?_cons, yes]
  · intro z hz
    have hz' : z ∈ l.drop (j + 1) := by simpa using hz
    obtain ⟨k, hk, rfl⟩ := List.mem_iff_getElem.1 hz'
    rw [List.length_drop] at hk
    have := no (j + 1 + k) (by omega) (by omega)
    rw [List.getD_eq_getElem?_getD, List.getElem?_eq_getElem (by omega)] at this
    rw [List.getElem_drop]
    simp at this
    simp [this]
theorem chk_found {l : List Nt} {p seq cnt : Int} {x : Nt} {j : Nat} (hg : goodB 0 cnt p seq = true) (hx : l.getLast? = some x) (hn : seq ≠ nx x) (hj : j < l.length) (no : ∀ k, j < k → k < l.length → isB seq cnt (l.getD k nt0) = false) (yes : isB seq cnt (l.getD j nt0) = true) : chk l p seq cnt = ((l.getD j nt0).b, 62) := by
  unfold chk
  rw [if_neg (by rw [hg]; decide), hx]
  dsimp only
  rw [if_neg hn, fnd_rev, rev_find hj no yes]
theorem chk_not {l : List Nt} {p seq cnt : Int} {x : Nt} (hg : goodB 0 cnt p seq = true) (hx : l.getLast? = some x) (hn : seq ≠ nx x) (no : ∀ k, k < l.length → isB seq cnt (l.getD k nt0) = false) : chk l p seq cnt = if (seq - nx x) % 2147483648 < 1073741824 then (0, 63) else (0, 64) := by
  unfold chk
  rw [if_neg (by rw [hg]; decide), hx]
  dsimp only
  rw [if_neg hn, fnd_rev, List.find?_eq_none.2 ?_]
  intro z hz
  have hz' : z ∈ l := by simpa using hz
  obtain ⟨k, hk, rfl⟩ := List.mem_iff_getElem.1 hz'
  have := no k hk
  rw [List.getD_eq_getElem?_getD, List.getElem?_eq_getElem hk] at this
  simp at this
  simp [this]
end Go.Proofs.Ytolobmhbmajolaa
