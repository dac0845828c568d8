/- What the calls of a sheet lay down: a text's bytes, a number's bytes; no other memory turns. -/
import Derived.Test.YtpfaioncaolmjaaGreatAnsd
import Derived.Lib.AppendStr
import Derived.Deep.AppendLies
import Derived.Deep.RegionLaw
namespace Go.Proofs.YtpfaioncaolmjaaGreat
open Go.RowKit
/-- A writer's block and what is written; what it has made lies from B on. -/
def Wr (w : World) (p B : Nat) (l : List Nat) : Prop := ∃ a n cap T, w.heap[p]? = some (.cells #[.int .i64 l.length, .slice a n cap] T (0, 0)) ∧ w.ownsRow B 5 1 (.slice a n cap) l.length (bc l) ∧ p < B ∧ B ≤ w.heap.size ∧ ∀ b ∈ l, b < 256
/-- What a writer's call may turn. -/
def WS (p B : Nat) : Nat → Prop := fun i => i = p ∨ B ≤ i
theorem own_ch {S : Nat → Prop} {w w' : World} {B n size : Nat} {e : TypeId} {v : Value} {l : List Value} (h : w.ownsRow B e size v n l) (hc : Ch S w w') (hS : ∀ i, B ≤ i → ¬ S i) : w'.ownsRow B e size v n l := by
  have hlt := h.lt
  obtain ⟨h1, h2⟩ := h
  refine ⟨h1, ?_⟩
  rcases h2 with h2 | ⟨g, cap, cur, rfl, hg, hh, r⟩
  · exact Or.inl h2
  · exact Or.inr ⟨g, cap, cur, rfl, hg, (hc.block g (hlt g rfl).2 (hS g hg)).trans hh, r⟩
theorem Wr.ch {S : Nat → Prop} {w w' : World} {p B : Nat} {l : List Nat} (h : Wr w p B l) (hc : Ch S w w') (h1 : ¬ S p) (h2 : ∀ i, B ≤ i → ¬ S i) : Wr w' p B l := by
  obtain ⟨a, n, cap, T, g, ho, hp, hB, hb⟩ := h
  exact ⟨a, n, cap, T, (hc.block p (by omega) h1).trans g, own_ch ho hc h2, hp, Nat.le_trans hB hc.size, hb⟩
theorem own_form {w : World} {B n size : Nat} {e : TypeId} {v : Value} {l : List Value} (h : w.ownsRow B e size v n l) : ∃ a m cap, v = .slice a m cap := by
  rcases h.2 with ⟨rfl, _⟩ | ⟨g, cap, cur, rfl, _⟩
  · exact ⟨_, _, _, rfl⟩
  · exact ⟨_, _, _, rfl⟩
theorem cells_bl (t : ByteArray) : Lib.strCells t = bc (bl t) := by simp [Lib.strCells, bc, bl]
theorem ch_grown {w w' : World} {row : Option Nat} {p B : Nat} (hg : w.grownBy w' row) (hr : ∀ k, row = some k → B ≤ k) : Ch (WS p B) w w' :=
  ⟨hg.os, hg.tape, hg.output, hg.size, fun k hk hs => hg.block k hk (fun e => hs (Or.inr (hr k e.symm)))⟩
/-- What a writer's call may turn: its block, and a row of bytes from B on. -/
def WU (p B : Nat) (w : World) : Nat → Prop := fun i => i = p ∨ (B ≤ i ∧ ∃ c fz, w.heap[i]? = some (.cells c 5 fz))
theorem Ch.tu {p B : Nat} {a b c : World} (h : Ch (WU p B a) a b) (k : Ch (WU p B b) b c) : Ch (WU p B a) a c :=
  h.then k (fun i hi hT => by
    rcases hT with rfl | ⟨hB, o, fz, ho⟩
    · exact Or.inl rfl
    · apply Classical.byContradiction
      intro hn
      apply hn
      rw [h.block i hi hn] at ho
      exact Or.inr ⟨hB, o, fz, ho⟩)
theorem Ch.ws {p B : Nat} {a b : World} (h : Ch (WU p B a) a b) : Ch (WS p B) a b := h.mono (fun _ _ hi => hi.elim Or.inl (fun h => Or.inr h.1))
theorem chU {w w' : World} {v : Value} {p B n : Nat} {l : List Value} (hg : w.grownBy w' v.ownBlock) (ho : w.ownsRow B 5 1 v n l) : Ch (WU p B w) w w' :=
  ⟨hg.os, hg.tape, hg.output, hg.size, fun k hk hs => hg.block k hk (fun e => by
    apply hs
    obtain ⟨_, h2⟩ := ho
    rcases h2 with ⟨rfl, _⟩ | ⟨g, cap, cur, rfl, hgB, hh, _⟩
    · cases e
    · injection e with e
      simp only at e
      subst e
      exact Or.inr ⟨hgB, _, _, hh⟩)⟩
/-- A block of another kind stays. -/
theorem Ch.other {p B i : Nat} {w w' : World} {c : Array Value} {T : TypeId} {fz : Nat × Nat} (h : Ch (WU p B w) w w') (hi : w.heap[i]? = some (.cells c T fz)) (hp : i ≠ p) (hT : T ≠ 5) : w'.heap[i]? = some (.cells c T fz) := by
  rw [h.block i (lt_of_heap hi) (fun hs => ?_), hi]
  rcases hs with hs | ⟨_, c', fz', he⟩
  · exact hp hs
  · rw [hi] at he
    injection he with he
    injection he with _ h2 _
    exact hT h2
/-- Behind a store of the new row and a step on. -/
theorem wr_mk {w : World} {p B : Nat} {l l' : List Nat} {v : Value} {a : Option Addr} {n cap : Nat} {T : TypeId} (g : w.heap[p]? = some (.cells #[.int .i64 l.length, v] T (0, 0))) (ho : w.ownsRow B 5 1 (.slice a n cap) l'.length (bc l')) (hp : p < B) (hB : B ≤ w.heap.size) (hb : ∀ b ∈ l', b < 256) :
    Wr ((w.setCell ⟨p, 1, none⟩ (.slice a n cap)).setCell ⟨p, 0, none⟩ (.int .i64 l'.length)) p B l' :=
  ⟨a, n, cap, T, heap_set (heap_set g), ownsRow_setCell_below (ownsRow_setCell_below ho hp _) hp _, hp, by simp [World.setCell]; exact hB, hb⟩
set_option maxHeartbeats 1000000 in
set_option maxRecDepth 20000 in
theorem sraw_any (p B : Nat) (l : List Nat) (t : ByteArray) (w : World) (h : Wr w p B l) (hl : l.length + t.size ≤ 140737488355328) :
    Calls Tryz.prog 85 #[.pointer (some ⟨p, 0, none⟩), .string t] w fun e w' => e = .returned (.tuple #[]) ∧ Wr w' p B (l ++ bl t) ∧ Ch (WU p B w) w w' := by
  obtain ⟨i0, hi, hz0, hz1, hz2⟩ := info_parts Tryz.info5
  obtain ⟨a, n, cap, T, g, ho, hp, hB, hb⟩ := h
  have c0 : w.cell? ⟨p, 0, none⟩ = some (.int .i64 l.length) := (cell_of g).trans rfl
  have c1 : w.cell? ⟨p, 1, none⟩ = some (.slice a n cap) := (cell_of g).trans rfl
  have f1 := froz_of (i := 1) g
  have HG := Hid.mk g
  have HB := Hid.mk hb
  generalize hn : l.length = N at *
  have HN := Hid.mk hn
  clear g hb hn
  go_enter Tryz.func85, Tryz.ntmps85
  go_wp2_with (at_builtin; refine Lib.wpList_append_own_string _ rfl _ _ 48 9 rfl B 5 i0 Tryz.underBytes Tryz.under9 hi hz0 hz1 hz2 _ _ _ rfl ho t rfl (by unfold maxLen; omega) hl hB ?_)
  intro v' w1 hown hgrow _
  obtain ⟨a', n', cap', rfl⟩ := own_form hown
  have hch : Ch (WU p B w) w w1 := chU hgrow ho
  have g1 : w1.heap[p]? = some (.cells #[.int .i64 N, .slice a n cap] T (0, 0)) := (hgrow.block p (by omega) (fun e => by have := (ho.lt p e.symm).1; omega)).trans HG.out
  have d0 : w1.cell? ⟨p, 0, none⟩ = some (.int .i64 N) := (cell_of g1).trans rfl
  have d1 : w1.cell? ⟨p, 1, none⟩ = some (.slice a n cap) := (cell_of g1).trans rfl
  have e0 := froz_of (i := 0) g1
  have e1 := froz_of (i := 1) g1
  have HG1 := Hid.mk g1
  have HO := Hid.mk hown
  have HC := Hid.mk hch
  clear g1 hown hgrow hch ho
  go_wp2_with (go_at_call 115; refine (pass_any p N t.size _ (by go_simp) (by go_simp) (by omega) (by omega) (by omega)).mono ?_; rintro e w' ⟨rfl, rfl⟩)
  go_end0
  have hlen : (l ++ bl t).length = N + t.size := by rw [List.length_append, bl_len, HN.out]
  refine ⟨rfl, ?_, (HC.out.setCell _ _ (fun _ => Or.inl rfl)).setCell _ _ (fun _ => Or.inl rfl)⟩
  have := wr_mk (l := l) (l' := l ++ bl t) (by rw [HN.out]; exact HG1.out) (by rw [hlen, bc_app, ← cells_bl]; exact HO.out) hp (Nat.le_trans hB HC.out.size) (fun b hb => by rcases List.mem_append.1 hb with h | h; exact HB.out b h; exact bl_byte t b h)
  rw [hlen] at this
  exact this
end Go.Proofs.YtpfaioncaolmjaaGreat
