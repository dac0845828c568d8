/- The document's book: Check. -/
import Derived.Test.YtolobmhbmajolaaPh2
namespace Go.Proofs.Ytolobmhbmajolaa
open Go.RowKit
set_option maxHeartbeats 4000000 in
set_option maxRecDepth 40000 in
theorem rcheck_any (b : Nat) (l : List Hd) (p seq cnt : Int) (hs : seq < 2147483648) (w : World) (S : Nat → Prop) (h : RB b l w S) (ok : RbOk l) (hl : l.length ≤ 2199023255552) :
    Calls Try.prog 27 #[.pointer (some ⟨b, 0, none⟩), .int .i64 p, .int .i32 seq, .int .i64 cnt] w fun e w' => e = .returned (chV (chk (RF l p) p seq cnt)) ∧ Below w.heap.size w w' := by
  obtain ⟨W, hW⟩ : ∃ W, w.alloc (.cells #[.int .i64 0, .int .i64 0, .bool false, .int .i64 cnt, .int .i64 0, .int .i64 0, .int .i64 p, .int .i32 seq] 29) = W := ⟨_, rfl⟩
  have hbW : Below w.heap.size w W := by rw [← hW]; exact (Below.refl _ w).alloc (Nat.le_refl _) _
  have HG : Hid (Calls Try.prog 26 #[hdV 0 0 false cnt 0 0 p seq] W fun e w' => e = .returned (.bool (goodB 0 cnt p seq)) ∧ Below w.heap.size w w') := (rgood_any 0 0 false cnt 0 0 p seq W).mono fun e w' hh => ⟨hh.1, hbW.trans (hh.2.mono hbW.size)⟩
  have rb : ∀ y, Below w.heap.size w y → RB b l y S := fun y hy => (RB.stab b l).keep h (Ch.of_below hy : Ch (fun _ => False) w y) (fun _ _ e => e)
  have HN : Hid (∀ y, Below w.heap.size w y → Calls Try.prog 31 #[.pointer (some ⟨b, 0, none⟩), .int .i64 p] y fun e w' => e = .returned (.tuple #[.int .i32 (nxt (RF l p)), .bool (!(RF l p).isEmpty)]) ∧ Below w.heap.size w w') := fun y hy => (rnext_any b l p y S (rb y hy) ok hl).mono fun e w' hh => ⟨hh.1, hy.trans (hh.2.mono hy.size)⟩
  have HT : Hid (∀ y, Below w.heap.size w y → Calls Try.prog 25 #[.pointer (some ⟨b, 0, none⟩), .int .i64 p] y fun e w' => ∃ (a : Option Addr) (cap : Nat), e = .returned (.slice a (bt l p).length cap) ∧ Hds w' a (bt l p) ∧ Below w.heap.size w w') := fun y hy => by
    refine (rbatches_any b l p y S (rb y hy) hl).mono ?_
    rintro e w' ⟨v, rfl, ho⟩
    obtain ⟨a, cap, rfl, hd, _⟩ := ho.row.hds
    exact ⟨a, cap, rfl, hd, hy.trans (ho.bel.mono hy.size)⟩
  clear rb h
  subst hW
  by_cases hg : goodB 0 cnt p seq = false
  · have e : chk (RF l p) p seq cnt = (0, 1) := by unfold chk; rw [if_pos hg]
    rw [e]
    rw [hg] at HG
    clear e hg hbW
    go_enter Try.func27, Try.ntmps27
    go_wp2_with (go_at_call 26; with_reducible refine HG.out.mono ?_; rintro e w1 ⟨rfl, hb1⟩; have HB := Hid.mk hb1; clear hb1)
    go_ret2
    exact ⟨rfl, HB.out⟩
  have hg' : goodB 0 cnt p seq = true := by simpa using hg
  rw [hg'] at HG
  cases hx : (RF l p).getLast? with
  | none =>
    have e0 : RF l p = [] := List.getLast?_eq_none_iff.1 hx
    have e : chk (RF l p) p seq cnt = (0, 0) := by unfold chk; rw [if_neg hg, hx]
    rw [e]
    rw [e0] at HN
    have e1 : nxt ([] : List Nt) = 0 := rfl
    have e2 : (!([] : List Nt).isEmpty) = false := rfl
    rw [e1, e2] at HN
    clear e hg hbW e0 hx e1 e2
    by_cases hp : p = -1
    · subst hp
      go_enter Try.func27, Try.ntmps27
      go_wp2_with (first | (go_at_call 26; with_reducible refine HG.out.mono ?_; rintro e w1 ⟨rfl, hb1⟩; have HB := Hid.mk hb1; clear hb1) | (go_at_call 31; with_reducible refine (HN.out _ HB.out).mono ?_; rintro e w2 ⟨rfl, hb2⟩; have HB2 := Hid.mk hb2; clear hb2))
      go_ret2
      exact ⟨rfl, HB2.out⟩
    · have hp' : decide (p = -1) = false := by simpa using hp
      go_enter Try.func27, Try.ntmps27
      go_wp2_with (first | (go_at_call 26; with_reducible refine HG.out.mono ?_; rintro e w1 ⟨rfl, hb1⟩; have HB := Hid.mk hb1; clear hb1) | (go_at_call 31; with_reducible refine (HN.out _ HB.out).mono ?_; rintro e w2 ⟨rfl, hb2⟩; have HB2 := Hid.mk hb2; clear hb2))
      go_ret2
      exact ⟨rfl, HB2.out⟩
  | some x =>
    have hne : RF l p ≠ [] := fun e => by rw [e] at hx; cases hx
    have hp : p ≠ -1 := fun e => hne (by rw [e]; exact ok.none)
    have hp' : decide (p = -1) = false := by simpa using hp
    have hp0 : 0 ≤ p := good_p hg' hp
    have hs0 : 0 ≤ seq := by
      unfold goodB sndB at hg'
      rw [if_neg hp] at hg'
      simp only [Bool.and_eq_true, decide_eq_true_eq] at hg'
      exact hg'.1.1.1.1.2
    have e1 : nxt (RF l p) = nx x := by unfold nxt; rw [hx]
    have e2 : (!(RF l p).isEmpty) = true := by
      cases hb : RF l p with
      | nil => exact absurd hb hne
      | cons a r => rfl
    rw [e1, e2] at HN
    obtain ⟨n0, n1⟩ := nx_b x
    by_cases t1 : seq = nx x
    · have e : chk (RF l p) p seq cnt = (0, 0) := by unfold chk; rw [if_neg hg, hx]; dsimp only; rw [if_pos t1]
      rw [e]
      rw [← t1] at HN
      clear e hg hbW hx e1 e2 t1 n0 n1 hne
      go_enter Try.func27, Try.ntmps27
      go_wp2_with (first | (go_at_call 26; with_reducible refine HG.out.mono ?_; rintro e w1 ⟨rfl, hb1⟩; have HB := Hid.mk hb1; clear hb1) | (go_at_call 31; with_reducible refine (HN.out _ HB.out).mono ?_; rintro e w2 ⟨rfl, hb2⟩; have HB2 := Hid.mk hb2; clear hb2))
      go_ret2
      exact ⟨rfl, HB2.out⟩
    · have HF : Hid (∀ j, j < (bt l p).length → (∀ k, j < k → k < (bt l p).length → isB seq cnt (toNt ((bt l p).getD k hd0)) = false) → isB seq cnt (toNt ((bt l p).getD j hd0)) = true → chk (RF l p) p seq cnt = (((bt l p).getD j hd0).b, 62)) := fun j hj no yes => by
        have hl' : (RF l p).length = (bt l p).length := by unfold RF; rw [List.length_map]
        have hgd : ∀ k, k < (bt l p).length → (RF l p).getD k nt0 = toNt ((bt l p).getD k hd0) := fun k hk => getD_map hk
        have := chk_found hg' hx t1 (j := j) (by omega) (fun k hk hk2 => by rw [hgd k (by omega)]; exact no k hk (by omega)) (by rw [hgd j hj]; exact yes)
        rw [this, hgd j hj]
        rfl
      have HF2 : Hid ((∀ k, k < (bt l p).length → isB seq cnt (toNt ((bt l p).getD k hd0)) = false) → chk (RF l p) p seq cnt = if (seq - nx x) % 2147483648 < 1073741824 then (0, 63) else (0, 64)) := fun no => by
        have hl' : (RF l p).length = (bt l p).length := by unfold RF; rw [List.length_map]
        exact chk_not hg' hx t1 (fun k hk => by rw [show (RF l p).getD k nt0 = toNt ((bt l p).getD k hd0) from getD_map (by omega)]; exact no k (by omega))
      have hbl := bt_len l p
      have hbp : 0 < (bt l p).length := by
        have : 0 < (RF l p).length := List.length_pos_iff.2 hne
        unfold RF at this
        rwa [List.length_map] at this
      have HOK := Hid.mk (ok.bt p)
      generalize chk (RF l p) p seq cnt = C at *
      generalize nx x = X at *
      have t1' : decide (X = seq) = false := by simp; omega
      have t3 : (X == seq) = false := by simp; omega
      have t4 : (p == -1) = false := by simp; omega
      generalize bt l p = L at *
      clear hg hbW hx e1 e2 hne
      have LB : (L.length : Int) ≤ 2199023255552 := by omega
      have LB0 : (0 : Int) < (L.length : Int) := by omega
      clear hbl hbp
      go_enter Try.func27, Try.ntmps27
      go_wp2_with (first | (go_at_call 26; with_reducible refine HG.out.mono ?_; rintro e w1 ⟨rfl, hb1⟩; have HB := Hid.mk hb1; clear hb1) | (go_at_call 31; with_reducible refine (HN.out _ HB.out).mono ?_; rintro e w2 ⟨rfl, hb2⟩; have HB2 := Hid.mk hb2; clear hb2) | (go_at_call 25; with_reducible refine (HT.out _ HB2.out).mono ?_; rintro e w3 ⟨a, cap, rfl, hd, hb3⟩; have HB3 := Hid.mk hb3; have HD := Hid.mk hd; clear hb3 hd))
      clear HG HN HT HB HB2
      go_loopg [14] L.length (fun k i wr => i = .int .i64 ((k : Int) - 1) ∧ k ≤ L.length ∧ Hid (∀ q, k ≤ q → q < L.length → isB seq cnt (toNt (L.getD q hd0)) = false) ∧ wr = w3)
      case atStart => exact ⟨rfl, Nat.le_refl _, fun q h1 h2 => by omega, rfl⟩
      case round =>
        obtain ⟨rfl, hkl, HNo, rfl⟩ := hrel
        cases gk with
        | succ j =>
          have jI : ((j + 1 : Nat) : Int) - 1 = (j : Int) := by omega
          rw [jI]
          rcases HD.out with rfl | ⟨g, off, rfl, hbg, hc⟩
          · simp at hkl
          obtain ⟨q0, q1, q2, q3, q4, q5, q6, q7⟩ := hc j (by omega)
          have HFj := Hid.mk (HF.out j (by omega) (fun k hk hk2 => HNo.out k (by omega) hk2))
          have b1 : (0 : Int) ≤ (j : Int) := by omega
          have b2 : (j : Int) < (L.length : Int) := by omega
          have b3 : j < L.length := by omega
          have HX : Hid (isB seq cnt (toNt (L.getD j hd0)) = false → ∀ q, j ≤ q → q < L.length → isB seq cnt (toNt (L.getD q hd0)) = false) := fun e q h1 h2 => by
            rcases Nat.eq_or_lt_of_le h1 with rfl | h1
            · exact e
            · exact HNo.out q h1 h2
          generalize L.getD j hd0 = y at *
          obtain ⟨r0, r1, r2, r3, r4, r5, r6, r7⟩ := y
          dsimp only at q0 q1 q2 q3 q4 q5 q6 q7 HFj
          clear hc jI
          by_cases u1 : r7 = seq
          · by_cases u2 : r3 = cnt
            · have e := HFj.out (by simp [isB, toNt, u1, u2])
              have HE := Hid.mk e
              subst u1
              subst u2
              clear e HFj HX HF HF2 HNo
              go_wp2_with fail
              go_ret2
              exact ⟨by { rw [HE.out]; first | done | rfl }, HB3.out⟩
            · have HX' := Hid.mk (HX.out (by simp [isB, toNt, u2]))
              have u2' : decide (r3 = cnt) = false := by simpa using u2
              subst u1
              clear HX HFj
              go_wp2_with fail
              go_roundg j
              case measure => omega
              case rel => exact ⟨rfl, by omega, HX', rfl⟩
          · have HX' := Hid.mk (HX.out (by simp [isB, toNt, u1]))
            have u1' : decide (r7 = seq) = false := by simpa using u1
            clear HX HFj
            go_wp2_with fail
            go_roundg j
            case measure => omega
            case rel => exact ⟨rfl, by omega, HX', rfl⟩
        | zero =>
          have e := HF2.out (fun k hk => HNo.out k (by omega) hk)
          have HE := Hid.mk e
          have z : ((0 : Nat) : Int) - 1 = -1 := by omega
          rw [z]
          clear e HF HF2 HNo hkl z
          by_cases t2 : (seq - X) % 2147483648 < 1073741824
          · rw [if_pos t2] at HE
            go_wp2_with fail
            go_ret2
            exact ⟨by { rw [HE.out]; first | done | rfl }, HB3.out⟩
          · rw [if_neg t2] at HE
            go_wp2_with fail
            go_ret2
            exact ⟨by { rw [HE.out]; first | done | rfl }, HB3.out⟩
end Go.Proofs.Ytolobmhbmajolaa
