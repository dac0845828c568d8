/- Of: the book of heads, the program's and the document's. -/
import Derived.Test.YtolobmhbmajolaaPi7
namespace Go.Proofs.Ytolobmhbmajolaa
open Go.RowKit
def rof (hs : List Hd) : List Hd := hs.foldl rnote []
theorem rof_snoc (hs : List Hd) (x : Hd) : rof (hs ++ [x]) = rnote (rof hs) x := by unfold rof; rw [List.foldl_append]; rfl
theorem fold6 : ∀ (hs : List Hd) (l : List Hd), R6 l → (∀ x ∈ hs, HdOk x) → R6 (hs.foldl rnote l)
  | [], _, h, _ => h
  | x :: r, l, h, ok => fold6 r (rnote l x) (h.note (ok x (by simp))) (fun y hy => ok y (by simp [hy]))
theorem rof6 {hs : List Hd} (ok : ∀ x ∈ hs, HdOk x) : R6 (rof hs) := fold6 hs [] R6.nil ok
theorem foldLen : ∀ (hs : List Hd) (l : List Hd), (hs.foldl rnote l).length ≤ l.length + hs.length
  | [], _ => Nat.le_refl _
  | x :: r, l => by
    have := foldLen r (rnote l x)
    have := rnote_len l x
    simp only [List.foldl_cons, List.length_cons]
    omega
theorem rof_len (hs : List Hd) : (rof hs).length ≤ hs.length := by have := foldLen hs []; simpa [rof] using this
set_option maxHeartbeats 4000000 in
set_option maxRecDepth 40000 in
theorem of_any (hs : List Hd) (a : Option Addr) (cap : Nat) (w : World) (V : Hds w a hs) (hl : hs.length ≤ 2199023255552) (ok : ∀ x ∈ hs, HdOk x) :
    Calls Try.prog 15 #[.slice a hs.length cap] w fun e w' => ∃ b, e = .returned (.pointer (some ⟨b, 0, none⟩)) ∧ In w w.heap.size (Bok b (RF (rof hs)) hs.length) w' := by
  have HNew := Hid.mk new_any
  have HV := Hid.mk V
  have HOK := Hid.mk ok
  clear V ok
  go_enter Try.func15, Try.ntmps15
  go_wp2_with (go_at_call 9; with_reducible refine (HNew.out _).mono ?_; rintro e w2 ⟨rfl, rfl⟩)
  clear HNew
  have HI0 : Hid (In w w.heap.size (Bok w.heap.size (RF []) 0) (w.alloc (.cells #[.map none] 60))) := ⟨_, (Bok.new w).same (fun q => rfl), ft_new w, (Below.refl _ w).alloc (Nat.le_refl _) _, by simp⟩
  generalize w.alloc (.cells #[.map none] 60) = w3 at *
  go_loopg [9] hs.length (fun k i wr => ∃ (j : Nat), j + k = hs.length ∧ i = .int .i64 j ∧ Hid (In w w.heap.size (Bok w.heap.size (RF (rof (hs.take j))) j) wr))
  case atStart => exact ⟨0, by omega, rfl, HI0⟩
  case round =>
    clear HI0
    obtain ⟨j, hk, rfl, HI⟩ := hrel
    by_cases hlt : j < hs.length
    · obtain ⟨k, rfl⟩ : ∃ k, gk = k + 1 := ⟨gk - 1, by omega⟩
      rcases HV.out.below HI.out.bel with rfl | ⟨b, off, rfl, hbl, hc⟩
      · simp at hlt
      obtain ⟨q0, q1, q2, q3, q4, q5, q6, q7⟩ := hc j hlt
      have hxk := HOK.out (hs.getD j hd0) (by rw [List.getD_eq_getElem?_getD, List.getElem?_eq_getElem hlt]; exact List.getElem_mem _)
      have HN := Hid.mk (take_next hs hd0 hlt)
      have HR5 : Hid (R5 (rof (hs.take j))) := (rof6 (fun x hx => HOK.out x (List.mem_of_mem_take hx))).r
      generalize hs.getD j hd0 = x at *
      have CN : Hid (∀ y, In w w.heap.size (Bok w.heap.size (RF (rof (hs.take j))) j) y → Calls Try.prog 20 #[.pointer (some ⟨w.heap.size, 0, none⟩), hdA x] y fun e y' => e = .returned (.int .i64 (noteE x)) ∧ In w w.heap.size (Bok w.heap.size (RF (rof (hs.take (j + 1)))) (j + 1)) y') := fun y hy => by
        refine (In.turn (R := fun e => e = .returned (.int .i64 (noteE x))) hy (Bok.note x hxk (by omega))).mono fun e y' hh => ⟨hh.1, hh.2.mono fun S hS => hS.same fun q => ?_⟩
        rw [HN.out, rof_snoc, note_rf HR5.out x q]
      generalize noteE x = E at *
      obtain ⟨r0, r1, r2, r3, r4, r5, r6, r7⟩ := x
      dsimp only at q0 q1 q2 q3 q4 q5 q6 q7
      have HIa : Hid (In w w.heap.size (Bok w.heap.size (RF (rof (hs.take j))) j) (wr.alloc (.cells #[.int .i64 r0, .int .i64 r1, .bool r2, .int .i64 r3, .int .i64 r4, .int .i64 r5, .int .i64 r6, .int .i32 r7] 29))) := HI.out.call (Bok.stab _ _ _) ((Below.refl _ _).alloc (Nat.le_refl _) _)
      have b1 : (0 : Int) ≤ (j : Int) := by omega
      have b2 : (j : Int) < hs.length := by omega
      have HK := Hid.mk hk
      clear hc hbl hk hxk
      go_wp2_with (go_at_call 20; with_reducible refine (CN.out _ HIa.out).mono ?_; rintro e w4 ⟨rfl, h4⟩; have H4 := Hid.mk h4; clear h4)
      go_roundg k
      case measure => omega
      case rel => exact ⟨j + 1, by have := HK.out; omega, by go_num, H4⟩
    · have hlt' : ¬ (j : Int) < hs.length := by omega
      have hj : j = hs.length := by omega
      subst hj
      clear hk
      go_wp2_with fail
      go_ret
      refine ⟨_, rfl, ?_⟩
      have := HI.out
      rw [List.take_length] at this
      exact this
set_option maxHeartbeats 4000000 in
set_option maxRecDepth 40000 in
theorem rof_any (hs : List Hd) (a : Option Addr) (cap : Nat) (w : World) (V : Hds w a hs) (hl : hs.length ≤ 2199023255552) :
    Calls Try.prog 16 #[.slice a hs.length cap] w fun e w' => ∃ b, e = .returned (.pointer (some ⟨b, 0, none⟩)) ∧ In w w.heap.size (RB b (rof hs)) w' := by
  have HNew := Hid.mk rnew_any
  have HV := Hid.mk V
  clear V
  go_enter Try.func16, Try.ntmps16
  go_wp2_with (go_at_call 10; with_reducible refine (HNew.out _).mono ?_; rintro e w2 ⟨rfl, rfl⟩)
  clear HNew
  have HI0 : Hid (In w w.heap.size (RB w.heap.size []) (w.alloc (.cells #[.slice none 0 0] 65))) := ⟨_, RB.new w, fun i hi => by have e : i = w.heap.size := hi; omega, (Below.refl _ w).alloc (Nat.le_refl _) _, by simp⟩
  generalize w.alloc (.cells #[.slice none 0 0] 65) = w3 at *
  go_loopg [4] hs.length (fun k i wr => ∃ (j : Nat), j + k = hs.length ∧ i = .int .i64 j ∧ Hid (In w w.heap.size (RB w.heap.size (rof (hs.take j))) wr))
  case atStart => exact ⟨0, by omega, rfl, HI0⟩
  case round =>
    clear HI0
    obtain ⟨j, hk, rfl, HI⟩ := hrel
    by_cases hlt : j < hs.length
    · obtain ⟨k, rfl⟩ : ∃ k, gk = k + 1 := ⟨gk - 1, by omega⟩
      rcases HV.out.below HI.out.bel with rfl | ⟨b, off, rfl, hbl, hc⟩
      · simp at hlt
      obtain ⟨q0, q1, q2, q3, q4, q5, q6, q7⟩ := hc j hlt
      have HN := Hid.mk (take_next hs hd0 hlt)
      generalize hs.getD j hd0 = x at *
      have CN : Hid (∀ y, In w w.heap.size (RB w.heap.size (rof (hs.take j))) y → Calls Try.prog 33 #[.pointer (some ⟨w.heap.size, 0, none⟩), hdA x] y fun e y' => e = .returned (.int .i64 (noteE x)) ∧ In w w.heap.size (RB w.heap.size (rof (hs.take (j + 1)))) y') := fun y hy => by
        have hlen : (rof (hs.take j)).length < 2199023255552 := by
          have := rof_len (hs.take j)
          rw [List.length_take] at this
          omega
        rw [HN.out, rof_snoc]
        exact In.turn (R := fun e => e = .returned (.int .i64 (noteE x))) hy (fun S hS => rnote_any w.heap.size _ x hlen y S hS)
      generalize noteE x = E at *
      obtain ⟨r0, r1, r2, r3, r4, r5, r6, r7⟩ := x
      dsimp only at q0 q1 q2 q3 q4 q5 q6 q7
      have b1 : (0 : Int) ≤ (j : Int) := by omega
      have b2 : (j : Int) < hs.length := by omega
      have HK := Hid.mk hk
      clear hc hbl hk
      go_wp2_with (go_at_call 33; with_reducible refine (CN.out _ HI.out).mono ?_; rintro e w4 ⟨rfl, h4⟩; have H4 := Hid.mk h4; clear h4)
      go_roundg k
      case measure => omega
      case rel => exact ⟨j + 1, by have := HK.out; omega, by go_num, H4⟩
    · have hlt' : ¬ (j : Int) < hs.length := by omega
      have hj : j = hs.length := by omega
      subst hj
      clear hk
      go_wp2_with fail
      go_ret
      refine ⟨_, rfl, ?_⟩
      have := HI.out
      rw [List.take_length] at this
      exact this
end Go.Proofs.Ytolobmhbmajolaa
