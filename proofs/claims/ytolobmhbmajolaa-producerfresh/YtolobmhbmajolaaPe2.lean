/- ProducerOnce: what holds in its loops. -/
import Derived.Test.YtolobmhbmajolaaPe1
import Derived.Laws.OwnMore
import Derived.Deep.LoopGhost
namespace Go.Proofs.Ytolobmhbmajolaa
open Go.RowKit
theorem info_parts {P : Program} {t : TypeId} {z : Value} {n b : Nat} (h : (P.info? t).map (fun i => (i.zero, i.size, i.bytes)) = some (some z, n, b)) : ∃ i, P.info? t = some i ∧ i.zero = some z ∧ i.size = n ∧ i.bytes = b := by
  cases hq : P.info? t with
  | none => rw [hq] at h; cases h
  | some i => rw [hq] at h; injection h with h; injection h with h1 h2; injection h2 with h2 h3; exact ⟨i, rfl, h1, h2, h3⟩
theorem Try.infoS : (Try.prog.info? 51).map (fun i => (i.zero, i.size, i.bytes)) = some (some (.agg #[.int .i32 0, .int .i64 0, .int .i64 0]), 3, 24) := by kernel_rfl
def sc (x : Nt) : List Value := [.int .i32 x.s, .int .i64 x.c, .int .i64 x.b]
def scs (L : List Nt) : List Value := L.flatMap sc
theorem scs_snoc (L : List Nt) (x : Nt) : scs (L ++ [x]) = scs L ++ sc x := by simp [scs, List.flatMap_append]
theorem scs_len : ∀ L : List Nt, (scs L).length = L.length * 3
  | [] => rfl
  | x :: r => by
    show (sc x ++ scs r).length = _
    rw [List.length_append, scs_len r, List.length_cons]
    show 3 + _ = _
    omega
theorem scs_at : ∀ {L : List Nt} {j k : Nat}, j < L.length → k < 3 → (scs L)[j * 3 + k]? = (sc (L.getD j nt0))[k]?
  | [], j, k, h, _ => by cases h
  | x :: r, 0, k, _, hk => by
    show (sc x ++ scs r)[0 * 3 + k]? = _
    rw [List.getElem?_append_left (by show 0 * 3 + k < 3; omega), Nat.zero_mul, Nat.zero_add]
    rfl
  | x :: r, j + 1, k, h, hk => by
    show (sc x ++ scs r)[(j + 1) * 3 + k]? = _
    rw [List.getElem?_append_right (by show 3 ≤ _; omega), show (j + 1) * 3 + k - (sc x).length = j * 3 + k from by show _ - 3 = _; omega, scs_at (L := r) (by simp at h; omega) hk]
    rfl
theorem own_ch {S : Nat → Prop} {w w' : World} {B n size : Nat} {e : TypeId} {v : Value} {l : List Value} (h : w.ownsRow B e size v n l) (hc : Ch S w w') (hS : ∀ i, v.ownBlock = some i → ¬ S i) : w'.ownsRow B e size v n l := by
  have hlt := h.lt
  obtain ⟨h1, h2⟩ := h
  refine ⟨h1, ?_⟩
  rcases h2 with h2 | ⟨g, cap, cur, rfl, hg, hh, r⟩
  · exact Or.inl h2
  · exact Or.inr ⟨g, cap, cur, rfl, hg, (hc.block g (hlt g rfl).2 (hS g rfl)).trans hh, r⟩
theorem own_at {w : World} {B n size : Nat} {e : TypeId} {v : Value} {l : List Value} (h : w.ownsRow B e size v n l) {i : Nat} (hi : v.ownBlock = some i) : ∃ cur, w.heap[i]? = some (.cells cur e (0, 0)) := by
  rcases h.2 with ⟨rfl, _⟩ | ⟨g, cap, cur, rfl, hg, hh, r⟩
  · cases hi
  · injection hi with hi; subst hi; exact ⟨_, hh⟩
/-- A block of another type is none of a book's. -/
theorem ft_ty {w : World} {b : Nat} {m : Option Nat} {fs : List Tl} (h : Bk w b m fs) {i : Nat} {c : Array Value} {T : TypeId} {fz : Nat × Nat} (hi : w.heap[i]? = some (.cells c T fz)) (h1 : T ≠ 60) (h2 : T ≠ 71) : ¬ Ft b m fs i := by
  rintro (rfl | rfl | ⟨f, hf, rfl⟩)
  · rw [h.blk] at hi
    injection hi with hi
    injection hi with _ hi _
    exact h1 hi.symm
  · exact mp_cells h.map hi rfl
  · obtain ⟨cc, hc⟩ := (h.til f hf).heap
    rw [hc] at hi
    injection hi with hi
    injection hi with _ hi _
    exact h2 hi.symm
/-- A book and a row of what was sent. -/
structure On (w : World) (X : Nat) (F : Int → List Nt) (k : Nat) (v : Value) (L : List Nt) (y : World) : Prop where
  bo : Bo w X X F k y
  ro : y.ownsRow X 51 3 v L.length (scs L)
theorem On.call {w : World} {X k : Nat} {F : Int → List Nt} {v : Value} {L : List Nt} {y y' : World} (h : On w X F k v L y) (hb : Below y.heap.size y y') : On w X F k v L y' :=
  ⟨h.bo.call hb, own_ch h.ro (Ch.of_below hb : Ch (fun _ => False) y y') (fun _ _ e => e)⟩
theorem On.note {w : World} {X k : Nat} {F : Int → List Nt} {v : Value} {L : List Nt} {y : World} (h : On w X F k v L y) (base len : Int) (pk : Bool) (cnt fst gr prod seq : Int) (hg : goodB base cnt prod seq = true) (hs : seq < 2147483648) (hp : 0 ≤ prod) (hp1 : prod < 9223372036854775808) (hk : k < 4611686018427387904) :
    Calls Try.prog 20 #[.pointer (some ⟨X, 0, none⟩), hdV base len pk cnt fst gr prod seq] y fun e w' => e = .returned (.int .i64 0) ∧ On w X (kpF' F prod ⟨base, cnt, seq⟩) (k + 1) v L w' := by
  obtain ⟨m, fs, hb, hF, hl, hft⟩ := h.bo.bk
  refine (note_good X m fs base len pk cnt fst gr prod seq hg hs hp hp1 (by omega) y hb).mono fun e w' hk' => ⟨hk'.1, Bo.beh h.bo.bel h.bo.le hft hl hk'.2 (fun q => by unfold kpF kpF'; rw [hF, hF]), ?_⟩
  obtain ⟨_, _, _, _, _, hc, _⟩ := hk'.2
  exact own_ch h.ro hc (fun i hi => by
    obtain ⟨cur, hcu⟩ := own_at h.ro hi
    exact ft_ty hb hcu (by decide) (by decide))
theorem On.push {w : World} {X k : Nat} {F : Int → List Nt} {v : Value} {L : List Nt} {y y' : World} {x : Nt} {g cap : Nat} (h : On w X F k v L y) (hown : y'.ownsRow X 51 3 (.slice (some ⟨g, 0, none⟩) (L.length + 1) cap) (L.length + 1) (scs L ++ sc x)) (hgrow : y.grownBy y' v.ownBlock) : On w X F k (.slice (some ⟨g, 0, none⟩) (L.length + 1) cap) (L ++ [x]) y' := by
  have hc : Ch (fun i => v.ownBlock = some i) y y' := ⟨hgrow.os, hgrow.tape, hgrow.output, hgrow.size, fun k hk hs => hgrow.block k hk (fun e => hs e.symm)⟩
  obtain ⟨m, fs, hb, h2⟩ := h.bo.bk
  refine ⟨⟨⟨m, fs, hb.ch hc (fun i hi hv => ?_), h2⟩, h.bo.bel.trans (hc.below h.bo.le (fun i hi hv => ?_)), Nat.le_trans h.bo.le hc.size⟩, ?_⟩
  · obtain ⟨cur, hcu⟩ := own_at h.ro hv
    exact ft_ty hb hcu (by decide) (by decide) hi
  · have := (h.ro.lt i hv).1
    omega
  · rw [List.length_append, scs_snoc]
    exact hown
/-- A row of numbers that came in. -/
def U16 (w : World) (a : Option Addr) (l : List Nat) : Prop := l = [] ∨ ∃ b off, a = some ⟨b, off, none⟩ ∧ b < w.heap.size ∧ ∀ j, j < l.length → w.cell? ⟨b, off + j, none⟩ = some (.int .u16 (l.getD j 0 : Nat)) ∧ l.getD j 0 < 65536
end Go.Proofs.Ytolobmhbmajolaa
