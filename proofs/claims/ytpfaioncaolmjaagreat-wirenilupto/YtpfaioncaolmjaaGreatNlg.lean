/- What a reader's calls answer upon nil. -/
import Derived.Test.YtpfaioncaolmjaaGreatNlc
import Derived.Test.YtpfaioncaolmjaaGreatNle
import Derived.Test.YtpfaioncaolmjaaGreatRmF
namespace Go.Proofs.YtpfaioncaolmjaaGreat
open Go.RowKit
set_option maxHeartbeats 1000000 in
set_option maxRecDepth 20000 in
theorem nilPart_any (n : Int) (w : World) (hne : (rq n ⟨#[]⟩ 0 0).2.2 ≠ 0) :
    Calls Tryz.prog 72 #[.pointer none, .int .i64 n] w (NAns (.pointer none) (rq n ⟨#[]⟩ 0 0).2.2 w) := by
  have hmf : ∀ (fn : Fn) (first cap : Array Value) (w : World), (Instr.makeFunc fn first cap).run Tryz.prog w = .ok (.func fn first cap) w := fun _ _ _ _ => rfl
  have hp : ∀ w1, Below (w.alloc (.cells #[.int .i64 n] 3)).heap.size (w.alloc (.cells #[.int .i64 n] 3)) w1 → w1.cell? ⟨w.heap.size, 0, none⟩ = some (.int .i64 n) := fun w1 hb => ((hb.cell (p := ⟨w.heap.size, 0, none⟩) (by simp)).trans (cell_of (heap_new _ _))).trans rfl
  by_cases hn : n < 0
  · rw [rq_range hn]
    dsimp only
    have ha := nil_quit_rdr 1 114 #[.pointer (some ⟨w.heap.size, 0, none⟩)] (w.alloc (.cells #[.int .i64 n] 3)) cPart_in (fun w1 hb hr => by simpa using cPart_range _ w.heap.size ⟨#[]⟩ 0 n w1 hr (hp w1 hb) hn)
    clear hp hne
    go_enter Tryz.func72, Tryz.ntmps72
    go_wp2_with (go_at_call 113; refine ha.mono ?_; rintro e w' ⟨rfl, hch⟩)
    go_ret2
    exact ⟨rfl, ((Below.refl w.heap.size w).alloc (Nat.le_refl _) _).trans (hch.mono (by simp))⟩
  · obtain ⟨N, rfl⟩ : ∃ N : Nat, n = (N : Int) := ⟨n.toNat, by omega⟩
    by_cases hl : 0 + N ≤ (⟨#[]⟩ : ByteArray).size
    · rw [rq_ok hl] at hne
      exact absurd rfl hne
    · rw [rq_short hl]
      dsimp only
      have hl' : ¬ 0 + N ≤ 0 := hl
      have ha := nil_quit_rdr 20 114 #[.pointer (some ⟨w.heap.size, 0, none⟩)] (w.alloc (.cells #[.int .i64 N] 3)) cPart_in (fun w1 hb hr => by simpa using cPart_short _ w.heap.size ⟨#[]⟩ 0 N w1 hr (hp w1 hb) (Nat.zero_le _) nil_sz (by omega) (by show ((0 : Nat) : Int) - (0 : Nat) < (N : Int); omega))
      clear hp hne
      go_enter Tryz.func72, Tryz.ntmps72
      go_wp2_with (go_at_call 113; refine ha.mono ?_; rintro e w' ⟨rfl, hch⟩)
      go_ret2
      exact ⟨rfl, ((Below.refl w.heap.size w).alloc (Nat.le_refl _) _).trans (hch.mono (by simp))⟩
end Go.Proofs.YtpfaioncaolmjaaGreat
