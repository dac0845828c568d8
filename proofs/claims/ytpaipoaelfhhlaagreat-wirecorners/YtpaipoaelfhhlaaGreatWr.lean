/- What the calls of a sheet lay down: a text's bytes, a number's bytes; no other memory turns. -/
import Derived.Test.YtpaipoaelfhhlaaGreatAnsd
import Derived.Lib.AppendStr
import Derived.Deep.AppendLies
import Derived.Deep.RegionLaw
namespace Go.Proofs.YtpaipoaelfhhlaaGreat
open Go.RowKit
/-- A writer's block and what is written; what it has made lies from B on. -/
def Wr (w : World) (p B : Nat) (l : List Nat) : Prop := ∃ a n cap, w.heap[p]? = some (.cells #[.int .i64 l.length, .slice a n cap] 58 (0, 0)) ∧ w.ownsRow B 5 1 (.slice a n cap) l.length (bc l) ∧ p < B ∧ B ≤ w.heap.size ∧ ∀ b ∈ l, b < 256
/-- What a writer's call may turn. -/
def WS (p B : Nat) : Nat → Prop := fun i => i = p ∨ B ≤ i
theorem own_ch {S : Nat → Prop} {w w' : World} {B n size : Nat} {e : TypeId} {v : Value} {l : List Value} (h : w.ownsRow B e size v n l) (hc : Ch S w w') (hS : ∀ i, B ≤ i → ¬ S i) : w'.ownsRow B e size v n l := by
  have hlt := h.lt
  obtain ⟨h1, h2⟩ := h
  refine ⟨h1, ?_⟩
  rcases h2 with h2 | ⟨g, cap, cur, rfl, hg, hh, r⟩
  · exact Or.inl h2
  · exact Or.inr ⟨g, cap, cur, rfl, hg, (hc.block g (hlt g rfl).2 (hS g hg)).trans hh, r⟩
theorem Wr.ch {S : Nat → Prop} {w w' : World} {p B : Nat} {l : List Nat} (h : Wr w p B l) (hc : Ch S w w') (h1 : ¬ S p) (h2 : ∀ i, B ≤ i → ¬ S i) : Wr w' p B l := by
  obtain ⟨a, n, cap, g, ho, hp, hB, hb⟩ := h
  exact ⟨a, n, cap, (hc.block p (by omega) h1).trans g, own_ch ho hc h2, hp, Nat.le_trans hB hc.size, hb⟩
theorem own_form {w : World} {B n size : Nat} {e : TypeId} {v : Value} {l : List Value} (h : w.ownsRow B e size v n l) : ∃ a m cap, v = .slice a m cap := by
  rcases h.2 with ⟨rfl, _⟩ | ⟨g, cap, cur, rfl, _⟩
  · exact ⟨_, _, _, rfl⟩
  · exact ⟨_, _, _, rfl⟩
theorem cells_bl (t : ByteArray) : Lib.strCells t = bc (bl t) := by simp [Lib.strCells, bc, bl]
theorem ch_grown {w w' : World} {row : Option Nat} {p B : Nat} (hg : w.grownBy w' row) (hr : ∀ k, row = some k → B ≤ k) : Ch (WS p B) w w' :=
  ⟨hg.os, hg.tape, hg.output, hg.size, fun k hk hs => hg.block k hk (fun e => hs (Or.inr (hr k e.symm)))⟩
/-- The row that a writer has now lies below G. -/
def OwnLt (w : World) (p G : Nat) : Prop := ∀ a n cap, w.cell? ⟨p, 1, none⟩ = some (.slice (some a) n cap) → a.block < G
/-- What it may turn then. -/
def WG (p B G : Nat) : Nat → Prop := fun i => i = p ∨ (B ≤ i ∧ i < G)
theorem ch_grownG {w w' : World} {v : Value} {p B G : Nat} (hg : w.grownBy w' v.ownBlock) (hr : ∀ k, v.ownBlock = some k → B ≤ k) (hG : OwnLt w p G) (hc : w.cell? ⟨p, 1, none⟩ = some v) : Ch (WG p B G) w w' :=
  ⟨hg.os, hg.tape, hg.output, hg.size, fun k hk hs => hg.block k hk (fun e => by
    apply hs
    have e' := e.symm
    unfold Value.ownBlock at e'
    split at e'
    · rename_i a n cap
      have h1 := hG a n cap hc
      have h2 := hr k e.symm
      injection e' with e'
      exact Or.inr ⟨h2, by omega⟩
    · cases e')⟩
theorem Wr.ownLt {w : World} {p B : Nat} {l : List Nat} (h : Wr w p B l) : OwnLt w p w.heap.size := by
  obtain ⟨a, n, cap, g, ho, hp, hB, hb⟩ := h
  intro a' n' cap' hc
  rw [cell_of g] at hc
  have e : Value.slice a n cap = .slice (some a') n' cap' := by simpa using hc
  injection e with e1 e2 e3
  subst e1
  exact (ho.lt a'.block rfl).2
/-- Behind a store of the new row and a step on. -/
theorem wr_mk {w : World} {p B : Nat} {l l' : List Nat} {v : Value} {a : Option Addr} {n cap : Nat} (g : w.heap[p]? = some (.cells #[.int .i64 l.length, v] 58 (0, 0))) (ho : w.ownsRow B 5 1 (.slice a n cap) l'.length (bc l')) (hp : p < B) (hB : B ≤ w.heap.size) (hb : ∀ b ∈ l', b < 256) :
    Wr ((w.setCell ⟨p, 1, none⟩ (.slice a n cap)).setCell ⟨p, 0, none⟩ (.int .i64 l'.length)) p B l' :=
  ⟨a, n, cap, heap_set (heap_set g), ownsRow_setCell_below (ownsRow_setCell_below ho hp _) hp _, hp, by simp [World.setCell]; exact hB, hb⟩
set_option maxHeartbeats 1000000 in
set_option maxRecDepth 20000 in
theorem sraw_any (p B G : Nat) (l : List Nat) (t : ByteArray) (w : World) (h : Wr w p B l) (hG : OwnLt w p G) (hl : l.length + t.size ≤ 140737488355328) :
    Calls Tryz.prog 103 #[.pointer (some ⟨p, 0, none⟩), .string t] w fun e w' => e = .returned (.tuple #[]) ∧ Wr w' p B (l ++ bl t) ∧ Ch (WG p B G) w w' := by
  obtain ⟨i0, hi, hz0, hz1, hz2⟩ := info_parts Tryz.info5
  obtain ⟨a, n, cap, g, ho, hp, hB, hb⟩ := h
  have c0 : w.cell? ⟨p, 0, none⟩ = some (.int .i64 l.length) := (cell_of g).trans rfl
  have c1 : w.cell? ⟨p, 1, none⟩ = some (.slice a n cap) := (cell_of g).trans rfl
  have f1 := froz_of (i := 1) g
  have HG := Hid.mk g
  have HB := Hid.mk hb
  generalize hn : l.length = N at *
  have HN := Hid.mk hn
  clear g hb hn
  go_enter Tryz.func103, Tryz.ntmps103
  go_wp2_with (at_builtin; refine Lib.wpList_append_own_string _ rfl _ _ 54 9 rfl B 5 i0 Tryz.underBytes Tryz.under9 hi hz0 hz1 hz2 _ _ _ rfl ho t rfl (by unfold maxLen; omega) hl hB ?_)
  intro v' w1 hown hgrow _
  obtain ⟨a', n', cap', rfl⟩ := own_form hown
  have hch : Ch (WG p B G) w w1 := ch_grownG hgrow (fun k hk => (ho.lt k hk).1) hG c1
  have g1 : w1.heap[p]? = some (.cells #[.int .i64 N, .slice a n cap] 58 (0, 0)) := (hgrow.block p (by omega) (fun e => by have := (ho.lt p e.symm).1; omega)).trans HG.out
  have d0 : w1.cell? ⟨p, 0, none⟩ = some (.int .i64 N) := (cell_of g1).trans rfl
  have d1 : w1.cell? ⟨p, 1, none⟩ = some (.slice a n cap) := (cell_of g1).trans rfl
  have e0 := froz_of (i := 0) g1
  have e1 := froz_of (i := 1) g1
  have HG1 := Hid.mk g1
  have HO := Hid.mk hown
  have HC := Hid.mk hch
  clear g1 hown hgrow hch ho
  go_wp2_with (go_at_call 117; refine (pass_any p N t.size _ (by go_simp) (by go_simp) (by omega) (by omega) (by omega)).mono ?_; rintro e w' ⟨rfl, rfl⟩)
  go_end0
  have hlen : (l ++ bl t).length = N + t.size := by rw [List.length_append, bl_len, HN.out]
  refine ⟨rfl, ?_, (HC.out.setCell _ _ (fun _ => Or.inl rfl)).setCell _ _ (fun _ => Or.inl rfl)⟩
  have := wr_mk (l := l) (l' := l ++ bl t) (by rw [HN.out]; exact HG1.out) (by rw [hlen, bc_app, ← cells_bl]; exact HO.out) hp (Nat.le_trans hB HC.out.size) (fun b hb => by rcases List.mem_append.1 hb with h | h; exact HB.out b h; exact bl_byte t b h)
  rw [hlen] at this
  exact this
end Go.Proofs.YtpaipoaelfhhlaaGreat
