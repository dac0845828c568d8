/- What a reader's calls answer upon nil. -/
import Derived.Test.YtpfaioncaolmjaaGreatNlp
import Derived.Test.YtpfaioncaolmjaaGreatNlo
import Derived.Test.YtpfaioncaolmjaaGreatNle
import Derived.Test.YtpfaioncaolmjaaGreatRmE
import Derived.Test.YtpfaioncaolmjaaGreatRmF
namespace Go.Proofs.YtpfaioncaolmjaaGreat
open Go.RowKit
set_option maxHeartbeats 1000000 in
set_option maxRecDepth 20000 in
theorem nilOpt_any (n : Int) (w : World) :
    Calls Tryz.prog 57 #[.pointer none, .int .i64 n] w (NAns (.agg #[.bool (oq n ⟨#[]⟩ 0 0).1, .string (oq n ⟨#[]⟩ 0 0).2.1]) (oq n ⟨#[]⟩ 0 0).2.2.2 w) := by
  have hmf : ∀ (fn : Fn) (first cap : Array Value) (w : World), (Instr.makeFunc fn first cap).run Tryz.prog w = .ok (.func fn first cap) w := fun _ _ _ _ => rfl
  have hp : ∀ w1, Below ((w.alloc (.cells #[.int .i64 n] 3)).alloc (.cells #[.bool false, .string ⟨#[]⟩] 76)).heap.size ((w.alloc (.cells #[.int .i64 n] 3)).alloc (.cells #[.bool false, .string ⟨#[]⟩] 76)) w1 → w1.cell? ⟨w.heap.size, 0, none⟩ = some (.int .i64 n) := fun w1 hb => ((hb.cell (p := ⟨w.heap.size, 0, none⟩) (by simp; omega)).trans (cell_of (heap_alloc_at (heap_new _ _)))).trans rfl
  rw [oq_bad nil_rde]
  dsimp only
  have ha := nil_quit_opt (rde (tl ⟨#[]⟩ 0)) 99 #[.pointer (some ⟨w.heap.size, 0, none⟩)] ((w.alloc (.cells #[.int .i64 n] 3)).alloc (.cells #[.bool false, .string ⟨#[]⟩] 76)) cOpt_in (fun w1 hb hr => by simpa using cOpt_bad _ w.heap.size ⟨#[]⟩ 0 n w1 hr (hp w1 hb) (Nat.zero_le _) nil_sz nil_rde)
  generalize rde (tl ⟨#[]⟩ 0) = E at ha ⊢
  clear hp
  go_enter Tryz.func57, Tryz.ntmps57
  go_wp2_with fail
  refine ha.mono ?_
  rintro e w' ⟨rfl, hb⟩
  have gv : w'.heap[w.heap.size + 1]? = some (.cells #[.bool false, .string ⟨#[]⟩] 76 (0, 0)) := (hb.block _ (by simp)).trans (heap_new' _ _ _ (by simp))
  have c3 : w'.cell? ⟨w.heap.size + 1, 0, none⟩ = some (.bool false) := (cell_of gv).trans rfl
  have c4 : w'.cell? ⟨w.heap.size + 1, 1, none⟩ = some (.string ⟨#[]⟩) := (cell_of gv).trans rfl
  have f3 := froz_of (i := 0) gv
  have f4 := froz_of (i := 1) gv
  have HV := Hid.mk gv
  have HC : Hid (Below w.heap.size w w') := (((Below.refl w.heap.size w).alloc (Nat.le_refl _) _).alloc (by simp <;> omega) _).trans (hb.mono (by simp <;> omega))
  clear gv hb ha
  go_wp2
  have c7 : ((w'.setCell ⟨w.heap.size + 1, 0, none⟩ (.bool false)).setCell ⟨w.heap.size + 1, 1, none⟩ (.string ⟨#[]⟩)).cell? ⟨w.heap.size + 1, 0, none⟩ = some (.bool false) := (cell_of (heap_set (heap_set HV.out))).trans rfl
  have c8 : ((w'.setCell ⟨w.heap.size + 1, 0, none⟩ (.bool false)).setCell ⟨w.heap.size + 1, 1, none⟩ (.string ⟨#[]⟩)).cell? ⟨w.heap.size + 1, 1, none⟩ = some (.string ⟨#[]⟩) := (cell_of (heap_set (heap_set HV.out))).trans rfl
  exact bodyPost_ret (v := .tuple #[.agg #[.bool false, .string ⟨#[]⟩], .int .i64 E]) (by simp [results, Tryz.results57, go_sem, c7, c8]) rfl ⟨rfl, (HC.out.setCell (by simp) _).setCell (by simp) _⟩
set_option maxHeartbeats 1000000 in
set_option maxRecDepth 20000 in
theorem nilPartOk_any (w : World) :
    Calls Tryz.prog 72 #[.pointer none, .int .i64 0] w (fun e w' => ∃ q, w.heap.size ≤ q ∧ e = .returned (.tuple #[.pointer (some ⟨q, 0, none⟩), .int .i64 0]) ∧ Rd w' q ⟨#[]⟩ 0 0 ∧ Below w.heap.size w w') := by
  have hmf : ∀ (fn : Fn) (first cap : Array Value) (w : World), (Instr.makeFunc fn first cap).run Tryz.prog w = .ok (.func fn first cap) w := fun _ _ _ _ => rfl
  have hp : ∀ w1, Below (w.alloc (.cells #[.int .i64 0] 3)).heap.size (w.alloc (.cells #[.int .i64 0] 3)) w1 → w1.cell? ⟨w.heap.size, 0, none⟩ = some (.int .i64 0) := fun w1 hb => ((hb.cell (p := ⟨w.heap.size, 0, none⟩) (by simp)).trans (cell_of (heap_new _ _))).trans rfl
  have hl : 0 + 0 ≤ (⟨#[]⟩ : ByteArray).size := Nat.le_refl _
  have ha := nil_part 114 #[.pointer (some ⟨w.heap.size, 0, none⟩)] (w.alloc (.cells #[.int .i64 0] 3)) cPart_in (fun w1 hb hr => by
    have h := cPart_ok _ w.heap.size ⟨#[]⟩ 0 0 w1 hr (hp w1 hb) hl nil_sz
    rw [show (⟨#[]⟩ : ByteArray).extract 0 (0 + 0) = ⟨#[]⟩ from rfl] at h
    simpa using h)
  clear hp
  go_enter Tryz.func72, Tryz.ntmps72
  go_wp2_with (go_at_call 113; refine ha.mono ?_; rintro e w' ⟨q, hq, rfl, hrq, hch⟩)
  go_ret2
  exact ⟨q, by simp at hq; omega, rfl, hrq, ((Below.refl w.heap.size w).alloc (Nat.le_refl _) _).trans (hch.mono (by simp))⟩
end Go.Proofs.YtpfaioncaolmjaaGreat
