/- What the calls of the document's own reader answer: zigzag, bytes, texts. -/
import Derived.Test.YtgdaaohlongmlaaGreatRX2
namespace Go.Proofs.YtgdaaohlongmlaaGreat
open Go.RowKit
set_option maxHeartbeats 1000000 in
set_option maxRecDepth 20000 in
theorem xraw_any (b : Nat) (s : ByteArray) (k e : Nat) (n : Int) (w : World) (h : RX w b s k e) (hk : k ≤ s.size) (hs : s.size ≤ 9223372036854775807) (hm1 : -9223372036854775808 ≤ n) (hm2 : n ≤ 9223372036854775807) :
    Calls Tryz.prog 85 #[.pointer (some ⟨b, 0, none⟩), .int .i64 n] w (AnsX b s (.string (rq n s k e).1) (rq n s k e).2.1 (rq n s k e).2.2 w) := by
  have c0 := h.cS
  have c1 := h.cK
  have c2 := h.cE
  have f1 := h.fz 1
  by_cases he : e = 0
  · subst he
    have tl := xleft_any b s k 0 w h hk hs
    by_cases hn : n < 0
    · rw [rq_range hn]
      dsimp only
      go_enter Tryz.func85, Tryz.ntmps85
      go_wp2_with (go_at_call 101; refine (xfail_new b s k 1 _ h).mono ?_; rintro e w' ⟨rfl, rfl⟩)
      go_ret2
      exact ⟨rfl, h.setE 1, (Ch.refl _ _).setCell _ _ (fun _ => rfl)⟩
    · obtain ⟨N, rfl⟩ : ∃ N : Nat, n = (N : Int) := ⟨n.toNat, by omega⟩
      by_cases hl : k + N ≤ s.size
      · rw [rq_ok hl]
        dsimp only
        have hw : IntKind.i64.wrap ((k : Int) + (N : Int)) = ((k + N : Nat) : Int) := wrapX (by omega) (by omega)
        have hsl : (s.extract k (k + N)) = s.extract k (k + N) := rfl
        go_enter Tryz.func85, Tryz.ntmps85
        go_wp2_with (go_at_call 84; refine tl.mono ?_; rintro e w' ⟨rfl, n1, rfl⟩)
        go_region_held (fun w' => w'.cell? ⟨b, 0, none⟩ = some (.string s) ∧ w'.cell? ⟨b, 1, none⟩ = some (.int .i64 k) ∧ w'.cell? ⟨b, 2, none⟩ = some (.int .i64 0)) ((refine ⟨?_, ?_, ?_⟩ <;> go_simp)) (fail)
        all_goals
          go_wp2
          go_ret2
          exact ⟨by first | rfl | (congr 3), ((h.drewN _).drew).setK (k + N), (((Ch.refl _ _).drewN _).drew).setCell _ _ (fun _ => rfl)⟩
      · rw [rq_short hl]
        dsimp only
        go_enter Tryz.func85, Tryz.ntmps85
        go_wp2_with (first
          | (go_at_call 84; refine tl.mono ?_; rintro e w' ⟨rfl, n1, rfl⟩)
          | (go_at_call 101; refine (xfail_new b s k 20 _ (h.drewN _)).mono ?_; rintro e w' ⟨rfl, rfl⟩))
        go_ret2
        exact ⟨rfl, (h.drewN _).setE 20, ((Ch.refl _ _).drewN _).setCell _ _ (fun _ => rfl)⟩
  · rw [rq_stale he]
    dsimp only
    have hne : ((e : Int) != 0) = true := by rw [bne_iff_ne]; omega
    clear he
    go_enter Tryz.func85, Tryz.ntmps85
    go_wp2_with fail
    go_region_held (fun w' => w'.cell? ⟨b, 0, none⟩ = some (.string s) ∧ w'.cell? ⟨b, 1, none⟩ = some (.int .i64 k) ∧ w'.cell? ⟨b, 2, none⟩ = some (.int .i64 e)) ((refine ⟨?_, ?_, ?_⟩ <;> go_simp)) (fail)
    all_goals
      go_wp2
      go_ret2
      exact ⟨rfl, h.drew, (Ch.refl _ _).drew⟩
end Go.Proofs.YtgdaaohlongmlaaGreat
