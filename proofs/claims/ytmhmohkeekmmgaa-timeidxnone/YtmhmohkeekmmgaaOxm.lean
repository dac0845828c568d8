/- Entries in rows; an index's block and its row. -/
import Derived.Test.YtmhmohkeekmmgaaWld
import Derived.Laws.OwnMore
import Derived.Deep.AppendLies
import Derived.Deep.QuietTactic
import Derived.BigQuiet
namespace Go.Proofs.Ytmhmohkeekmmgaa
open Go.RowKit
theorem hid {p : Prop} (h : p) : Hid p := h
/-- An entry. -/
structure En where
  k : Int
  a : Int
def en0 : En := ⟨0, 0⟩
def enV (e : En) : Value := .agg #[.int .i64 e.k, .int .i64 e.a]
def enc (e : En) : List Value := [.int .i64 e.k, .int .i64 e.a]
def ecs (l : List En) : List Value := l.flatMap enc
theorem ecs_len (l : List En) : (ecs l).length = l.length * 2 := by
  induction l with
  | nil => rfl
  | cons r rs ih => simp only [ecs, List.flatMap_cons, List.length_append] at *; rw [ih]; simp [enc]; omega
theorem ecs_app (a b : List En) : ecs (a ++ b) = ecs a ++ ecs b := by simp [ecs]
theorem ecs_snoc (a : List En) (e : En) : ecs (a ++ [e]) = ecs a ++ enc e := by simp [ecs]
theorem enc_one (s : En) : ∀ u ∈ enc s, u.oneCell' = true := by
  intro u hu
  simp only [enc, List.mem_cons, List.not_mem_nil, or_false] at hu
  rcases hu with rfl | rfl <;> rfl
theorem ecs_one (l : List En) : ∀ u ∈ ecs l, u.oneCell' = true := by
  intro u hu
  obtain ⟨e, _, he⟩ := List.mem_flatMap.1 hu
  exact enc_one e u he
theorem ecs_at {l : List En} {j k : Nat} (hj : j < l.length) (hk : k < 2) : (ecs l)[j * 2 + k]? = (enc (l.getD j en0))[k]? := by
  have e : l = l.take j ++ l.getD j en0 :: l.drop (j + 1) := by
    rw [List.getD_eq_getElem?_getD, List.getElem?_eq_getElem hj]
    simp
  have hl : (ecs (l.take j)).length = j * 2 := by rw [ecs_len, List.length_take]; congr 1; omega
  have e2 : ecs l = ecs (l.take j) ++ (enc (l.getD j en0) ++ ecs (l.drop (j + 1))) := by
    conv => lhs; rw [e, ecs_app]
    rfl
  rw [e2, List.getElem?_append_right (by omega), hl, show j * 2 + k - j * 2 = k from by omega, List.getElem?_append_left (by show k < 2; exact hk)]
theorem ecs_take (l : List En) : ∀ n, (ecs l).take (n * 2) = ecs (l.take n) := by
  induction l with
  | nil => intro n; simp [ecs]
  | cons r rs ih =>
    intro n
    cases n with
    | zero => rfl
    | succ n =>
      have : ecs (r :: rs) = enc r ++ ecs rs := by simp [ecs]
      rw [this, List.take_append, show (enc r).length = 2 from rfl, List.take_of_length_le (by show 2 ≤ _; omega), show (n + 1) * 2 - 2 = n * 2 from by omega, ih n, List.take_succ_cons]
      simp [ecs]
/-- A row of entries where it lies. -/
def Ens (w : World) (a : Option Addr) (l : List En) : Prop := l = [] ∨ ∃ b off, a = some ⟨b, off, none⟩ ∧ b < w.heap.size ∧ ∀ j, j < l.length → w.cell? ⟨b, off + j * 2, none⟩ = some (.int .i64 (l.getD j en0).k) ∧ w.cell? ⟨b, off + j * 2 + 1, none⟩ = some (.int .i64 (l.getD j en0).a)
theorem Ens.keep {w w' : World} {a : Option Addr} {l : List En} (h : Ens w a l) (hs : w.heap.size ≤ w'.heap.size) (hb : ∀ ad, a = some ad → ad.block < w.heap.size → w'.heap[ad.block]? = w.heap[ad.block]?) : Ens w' a l := by
  rcases h with h | ⟨b, off, rfl, h2, h3⟩
  · exact Or.inl h
  · refine Or.inr ⟨b, off, rfl, Nat.lt_of_lt_of_le h2 hs, fun j hj => ?_⟩
    have hh : w'.heap[b]? = w.heap[b]? := hb _ rfl h2
    have hc : ∀ o, w'.cell? ⟨b, o, none⟩ = w.cell? ⟨b, o, none⟩ := fun o => by simp [World.cell?, hh]
    rw [hc, hc]
    exact h3 j hj
theorem Ens.kept {w w' : World} {a : Option Addr} {l : List En} {H : Nat} (h : Ens w a l) (hb : Below H w w') (hH : w.heap.size ≤ H) : Ens w' a l := h.keep hb.size fun _ _ hlt => hb.block _ (Nat.lt_of_lt_of_le hlt hH)
theorem Ens.ch {S : Nat → Prop} {w w' : World} {a : Option Addr} {l : List En} (h : Ens w a l) (hc : Ch S w w') (hS : ∀ ad, a = some ad → ¬ S ad.block) : Ens w' a l := h.keep hc.size fun ad e hlt => hc.block _ hlt (hS ad e)
/-- A row of entries of one's own. -/
def OwE (w : World) (B : Nat) (v : Value) (l : List En) : Prop := w.ownsRow B 29 2 v l.length (ecs l)
theorem OwE.nil (w : World) (B : Nat) : OwE w B (.slice none 0 0) [] := World.ownsRow_nil _ _ _ _
theorem OwE.keep {w w' : World} {B : Nat} {v : Value} {l : List En} (h : OwE w B v l) (hb : ∀ g, v.ownBlock = some g → g < w.heap.size → w'.heap[g]? = w.heap[g]?) : OwE w' B v l := by
  refine ⟨h.1, ?_⟩
  rcases h.2 with h2 | ⟨g, cap, cur, rfl, h3, h4, h5⟩
  · exact Or.inl h2
  · exact Or.inr ⟨g, cap, cur, rfl, h3, (hb g rfl (lt_of_heap h4)).trans h4, h5⟩
theorem OwE.ch {S : Nat → Prop} {w w' : World} {B : Nat} {v : Value} {l : List En} (h : OwE w B v l) (hc : Ch S w w') (hS : ∀ i, v.ownBlock = some i → ¬ S i) : OwE w' B v l := h.keep fun g hg hlt => hc.block g hlt (hS g hg)
theorem OwE.own {w : World} {B : Nat} {v : Value} {l : List En} (h : OwE w B v l) {g : Nat} (hg : v.ownBlock = some g) : B ≤ g ∧ g < w.heap.size := World.ownsRow.lt h g hg
theorem OwE.low {w : World} {B B' : Nat} {v : Value} {l : List En} (h : OwE w B v l) (hb : B' ≤ B) : OwE w B' v l :=
  ⟨h.1, h.2.imp_right fun ⟨g, cap, cur, h1, h2, h3⟩ => ⟨g, cap, cur, h1, Nat.le_trans hb h2, h3⟩⟩
theorem OwE.ens4 {w : World} {B : Nat} {v : Value} {l : List En} (h : OwE w B v l) : ∃ a cap, v = .slice a l.length cap ∧ Ens w a l ∧ (a = none → v = .slice none 0 0) ∧ (∀ ad, a = some ad → v.ownBlock = some ad.block ∧ ad = ⟨ad.block, 0, none⟩) := by
  have hr : w.ownsRow B 29 2 v l.length (ecs l) := h
  rcases h.2 with ⟨rfl, h2⟩ | ⟨g, cap, cur, rfl, h3, h4, h5⟩
  · exact ⟨none, 0, by rw [h2], Or.inl (List.eq_nil_of_length_eq_zero h2), fun _ => rfl, fun _ h => by cases h⟩
  · refine ⟨_, cap, rfl, Or.inr ⟨g, 0, rfl, lt_of_heap h4, fun j hj => ?_⟩, fun h => (by cases h), fun ad h => by cases h; exact ⟨rfl, rfl⟩⟩
    have c := fun k (hk : k < 2) => (hr.cellAt (j * 2 + k) (by omega)).trans (ecs_at hj hk)
    rw [Nat.zero_add]
    exact ⟨c 0 (by omega), c 1 (by omega)⟩
theorem OwE.ens {w : World} {B : Nat} {v : Value} {l : List En} (h : OwE w B v l) : ∃ a cap, v = .slice a l.length cap ∧ Ens w a l := by
  obtain ⟨a, cap, h1, h2, _⟩ := h.ens4
  exact ⟨a, cap, h1, h2⟩
theorem OwE.ensN {w : World} {B : Nat} {v : Value} {l : List En} (h : OwE w B v l) : ∃ N a cap, N = l.length ∧ v = .slice a N cap ∧ Ens w a l := by
  obtain ⟨a, cap, h1, h2, _⟩ := h.ens4
  exact ⟨_, a, cap, rfl, h1, h2⟩
/-- The first n of a row. -/
theorem OwE.cut {w : World} {B : Nat} {a : Option Addr} {c : Nat} {l : List En} (h : OwE w B (.slice a l.length c) l) {n : Nat} (hn : n ≤ l.length) : OwE w B (.slice a n c) (l.take n) := by
  have e : (l.take n).length = n := by rw [List.length_take]; omega
  refine ⟨by rw [ecs_len], ?_⟩
  rw [e]
  rcases h.2 with ⟨h1, h2⟩ | ⟨g, cap, cur, hv, h3, h4, h5, h6, h7, h8⟩
  · simp only [Value.slice.injEq] at h1
    obtain ⟨rfl, h2, rfl⟩ := h1
    have : n = 0 := by omega
    subst this
    exact Or.inl ⟨rfl, rfl⟩
  · simp only [Value.slice.injEq] at hv
    obtain ⟨rfl, _, rfl⟩ := hv
    refine Or.inr ⟨g, c, cur, rfl, h3, h4, Nat.le_trans hn h5, h6, h7, ?_⟩
    rw [← ecs_take, ← h8, List.take_take]
    congr 1
    omega
/-- A row's block is a row of entries. -/
theorem OwE.at {w : World} {B : Nat} {v : Value} {l : List En} (h : OwE w B v l) {i : Nat} (hi : v.ownBlock = some i) : ∃ cur, w.heap[i]? = some (.cells cur 29 (0, 0)) := by
  rcases h.2 with ⟨rfl, _⟩ | ⟨g, cap, cur, rfl, hg, hh, r⟩
  · cases hi
  · injection hi with hi; subst hi; exact ⟨_, hh⟩
/-- An index: its block x, of type T, its row. -/
structure Ix (T : TypeId) (w : World) (x : Nat) (v : Value) (l : List En) : Prop where
  blk : w.heap[x]? = some (.cells #[v] T (0, 0))
  row : OwE w 0 v l
/-- What a call upon an index may turn. -/
def IS (x : Nat) (v : Value) : Nat → Prop := fun i => i = x ∨ v.ownBlock = some i
theorem Ix.ch {S : Nat → Prop} {T : TypeId} {w w' : World} {x : Nat} {v : Value} {l : List En} (h : Ix T w x v l) (hc : Ch S w w') (hS : ∀ i, IS x v i → ¬ S i) : Ix T w' x v l :=
  ⟨(hc.block x (lt_of_heap h.blk) (hS x (Or.inl rfl))).trans h.blk, h.row.ch hc fun i hi => hS i (Or.inr hi)⟩
theorem Ix.below {T : TypeId} {w w' : World} {x : Nat} {v : Value} {l : List En} (h : Ix T w x v l) (hb : Below w.heap.size w w') : Ix T w' x v l := h.ch (Ch.of_below (S := fun _ => False) hb) (fun _ _ h => h)
theorem Ix.alloc {T : TypeId} {w : World} {x : Nat} {v : Value} {l : List En} (h : Ix T w x v l) (o : Obj) : Ix T (w.alloc o) x v l := h.ch ((Ch.refl (fun _ => False) w).alloc o) (fun _ _ h => h)
theorem Ix.drew {T : TypeId} {w : World} {x : Nat} {v : Value} {l : List En} (h : Ix T w x v l) : Ix T w.drew x v l := h.ch (Ch.refl (fun _ => False) w).drew (fun _ _ h => h)
theorem Ix.drewN {T : TypeId} {w : World} {x : Nat} {v : Value} {l : List En} (h : Ix T w x v l) (n : Nat) : Ix T (w.drewN n) x v l := h.ch ((Ch.refl (fun _ => False) w).drewN n) (fun _ _ h => h)
theorem Ix.lt {T : TypeId} {w : World} {x : Nat} {v : Value} {l : List En} (h : Ix T w x v l) : ∀ i, IS x v i → i < w.heap.size := by
  rintro i (rfl | hi)
  · exact lt_of_heap h.blk
  · exact (h.row.own hi).2
/-- An index's own block is no row of entries. -/
theorem Ix.ne {T : TypeId} {w : World} {x : Nat} {v : Value} {l : List En} (h : Ix T w x v l) (hT : T ≠ 29) {i : Nat} (hi : v.ownBlock = some i) : i ≠ x := by
  rintro rfl
  obtain ⟨cur, hc⟩ := h.row.at hi
  rw [h.blk] at hc
  injection hc with hc
  injection hc with _ hc _
  exact hT hc
theorem Ix.c0 {T : TypeId} {w : World} {x : Nat} {v : Value} {l : List En} (h : Ix T w x v l) : w.cell? ⟨x, 0, none⟩ = some v := (cell_of h.blk).trans rfl
theorem Ix.f0 {T : TypeId} {w : World} {x : Nat} {v : Value} {l : List En} (h : Ix T w x v l) : w.frozen? ⟨x, 0, none⟩ = false := froz_of h.blk
/-- A new index. -/
theorem Ix.new (T : TypeId) (w : World) : Ix T (w.alloc (.cells #[.slice none 0 0] T)) w.heap.size (.slice none 0 0) [] := ⟨heap_new _ _, OwE.nil _ _⟩
/-- The place of a row in an index. -/
theorem Ix.put {T : TypeId} {w : World} {x : Nat} {v v' : Value} {l' : List En} (hb : w.heap[x]? = some (.cells #[v] T (0, 0))) (hT : T ≠ 29) (h : OwE w 0 v' l') : Ix T (w.setCell ⟨x, 0, none⟩ v') x v' l' := by
  refine ⟨heap_set hb, h.keep fun g hg _ => Below.heap_setCell w _ _ g ?_⟩
  rintro rfl
  obtain ⟨cur, hc⟩ := h.at hg
  rw [hb] at hc
  injection hc with hc
  injection hc with _ hc _
  exact hT hc
theorem getD_of {l : List En} {j : Nat} (h : j < l.length) : l.getD j en0 = l[j] := by
  rw [List.getD_eq_getElem?_getD, List.getElem?_eq_getElem h]
  rfl
end Go.Proofs.Ytmhmohkeekmmgaa
