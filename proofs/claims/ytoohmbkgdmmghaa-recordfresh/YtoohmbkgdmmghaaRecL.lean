/- Slices of records; what a body is; what is read of one. -/
import Derived.Test.YtoohmbkgdmmghaaByt
import Derived.Test.YtoohmbkgdmmghaaRdr4
import Derived.Test.YtoohmbkgdmmghaaBck5
namespace Go.Proofs.Ytoohmbkgdmmghaa
open Go.RowKit
/-- A record, and where its headers lie. -/
structure RI where
  r : Rec
  a : Option Addr
  cap : Nat
def dri : RI := ⟨⟨0, false, ⟨#[]⟩, false, ⟨#[]⟩, []⟩, none, 0⟩
def rc1 (x : RI) : List Value := [.int .i64 x.r.t, .bool x.r.kh, .string x.r.kd, .bool x.r.vh, .string x.r.vd, .slice x.a x.r.hs.length x.cap]
def rcs (l : List RI) : List Value := l.flatMap rc1
/-- A record's six cells. -/
def Six (w : World) (b o : Nat) (x : RI) : Prop := w.cell? ⟨b, o, none⟩ = some (.int .i64 x.r.t) ∧ w.cell? ⟨b, o + 1, none⟩ = some (.bool x.r.kh) ∧ w.cell? ⟨b, o + 2, none⟩ = some (.string x.r.kd) ∧ w.cell? ⟨b, o + 3, none⟩ = some (.bool x.r.vh) ∧ w.cell? ⟨b, o + 4, none⟩ = some (.string x.r.vd) ∧ w.cell? ⟨b, o + 5, none⟩ = some (.slice x.a x.r.hs.length x.cap)
/-- A slice's records where they lie. -/
def Rcs (w : World) (a : Option Addr) (l : List RI) : Prop := (∀ x ∈ l, Hds w x.a x.r.hs) ∧ (l = [] ∨ ∃ b off, a = some ⟨b, off, none⟩ ∧ b < w.heap.size ∧ ∀ j, j < l.length → Six w b (off + j * 6) (l.getD j dri))
theorem Six.below {w w' : World} {b o : Nat} {x : RI} (h : Six w b o x) (hb : b < w.heap.size) (k : Below w.heap.size w w') : Six w' b o x := by
  obtain ⟨h0, h1, h2, h3, h4, h5⟩ := h
  exact ⟨(k.cell (p := ⟨b, o, none⟩) hb).trans h0, (k.cell (p := ⟨b, o + 1, none⟩) hb).trans h1, (k.cell (p := ⟨b, o + 2, none⟩) hb).trans h2, (k.cell (p := ⟨b, o + 3, none⟩) hb).trans h3, (k.cell (p := ⟨b, o + 4, none⟩) hb).trans h4, (k.cell (p := ⟨b, o + 5, none⟩) hb).trans h5⟩
theorem Rcs.below {w w' : World} {a : Option Addr} {l : List RI} (h : Rcs w a l) (k : Below w.heap.size w w') : Rcs w' a l := by
  refine ⟨fun x hx => (h.1 x hx).below k, ?_⟩
  rcases h.2 with h | ⟨b, off, h1, h2, h3⟩
  · exact Or.inl h
  · exact Or.inr ⟨b, off, h1, Nat.lt_of_lt_of_le h2 k.size, fun j hj => (h3 j hj).below h2 k⟩
theorem riD_mem {l : List RI} {j : Nat} (h : j < l.length) : l.getD j dri ∈ l := by
  rw [List.getD_eq_getElem?_getD, List.getElem?_eq_getElem h, Option.getD_some]
  exact List.getElem_mem h
/-- The forms one behind the other. -/
def bdy (first : Int) : Nat → List Rec → List Nat
  | _, [] => []
  | n, r :: l => fm (r.t - first) n r ++ bdy first (n + 1) l
theorem bdy_app (first : Int) (l m : List Rec) : ∀ n, bdy first n (l ++ m) = bdy first n l ++ bdy first (n + l.length) m := by
  induction l with
  | nil => intro n; simp [bdy]
  | cons r l ih => intro n; rw [List.cons_append, bdy, ih, bdy, List.append_assoc, List.length_cons, show n + 1 + l.length = n + (l.length + 1) by omega]
theorem bdy_snoc (first : Int) (l : List Rec) (r : Rec) : bdy first 0 (l ++ [r]) = bdy first 0 l ++ fm (r.t - first) l.length r := by
  rw [bdy_app]; simp [bdy]
theorem take_getD {l : List RI} {j : Nat} (h : j < l.length) : l.take (j + 1) = l.take j ++ [l.getD j dri] := by
  rw [List.getD_eq_getElem?_getD, List.getElem?_eq_getElem h, Option.getD_some, List.take_succ_eq_append_getElem h]
theorem bdy_take (first : Int) {l : List RI} {j : Nat} (h : j < l.length) : bdy first 0 ((l.take (j + 1)).map RI.r) = bdy first 0 ((l.take j).map RI.r) ++ fm ((l.getD j dri).r.t - first) j (l.getD j dri).r := by
  rw [take_getD h, List.map_append]
  have e : ((l.take j).map RI.r).length = j := by rw [List.length_map, List.length_take]; omega
  rw [show [l.getD j dri].map RI.r = [(l.getD j dri).r] from rfl, bdy_snoc, e]
theorem bdy_take_le (first : Int) (l : List RI) (j : Nat) : (bdy first 0 ((l.take j).map RI.r)).length ≤ (bdy first 0 (l.map RI.r)).length := by
  conv => rhs; rw [← List.take_append_drop j l, List.map_append, bdy_app, List.length_append]
  omega
/-- Why records have no body, or 0. -/
def FitE (l : List RI) (first : Int) (E : Nat) : Prop :=
  (∃ j, j < l.length ∧ (∀ i, i < j → sze (l.getD i dri).r first i = 0) ∧ sze (l.getD j dri).r first j ≠ 0 ∧ E = sze (l.getD j dri).r first j) ∨ ((∀ i, i < l.length → sze (l.getD i dri).r first i = 0) ∧ E = if 16777216 < (bdy first 0 (l.map RI.r)).length then 66 else 0)
theorem fit_zero {l : List RI} {first : Int} {E : Nat} (h : FitE l first E) : E = 0 ↔ (∀ i, i < l.length → sze (l.getD i dri).r first i = 0) ∧ (bdy first 0 (l.map RI.r)).length ≤ 16777216 := by
  rcases h with ⟨j, h1, _, h3, hE⟩ | ⟨h1, hE⟩
  · rw [hE]
    exact ⟨fun h => absurd h h3, fun h => h.1 j h1⟩
  · by_cases hb : 16777216 < (bdy first 0 (l.map RI.r)).length
    · rw [hE, if_pos hb]
      exact ⟨fun h => absurd h (by decide), fun h => absurd h.2 (by omega)⟩
    · rw [hE, if_neg hb]
      exact ⟨fun _ => ⟨h1, Nat.le_of_not_lt hb⟩, fun _ => rfl⟩
theorem bdy_small (first : Int) (l : List RI) : ∀ j, j ≤ l.length → (∀ i, i < j → sze (l.getD i dri).r first i = 0) → (bdy first 0 ((l.take j).map RI.r)).length ≤ j * 16777216
  | 0, _, _ => by simp [bdy]
  | j + 1, h, hz => by
    have ih := bdy_small first l j (by omega) (fun i hi => hz i (by omega))
    have h4 := (sze_ok (hz j (by omega))).2.2.2
    rw [Int.toNat_natCast] at h4
    rw [bdy_take first (by omega), List.length_append]
    omega
/-- What is read of the first j records. -/
def run (s : ByteArray) (first : Int) : Nat → Except Nat (List Rec × Nat)
  | 0 => .ok ([], 0)
  | j + 1 => match run s first j with
    | .error e => .error e
    | .ok (l, k) => match nxt s k first j with
      | .error e => .error e
      | .ok (r, k') => if j = 0 ∧ r.t ≠ first then .error 27 else .ok (l ++ [r], k')
theorem run_err {s : ByteArray} {first : Int} {e j : Nat} (h : run s first j = .error e) : ∀ m, run s first (j + m) = .error e
  | 0 => h
  | m + 1 => by
    have ih := run_err h m
    show (match run s first (j + m) with | .error e => _ | .ok (l, k) => _) = _
    rw [ih]
/-- What is read of a body. -/
def rbd (s : ByteArray) (first count : Int) : Except Nat (List Rec) := if ¬ (1 ≤ count ∧ count ≤ 65536) then .error 28 else if 16777216 < s.size then .error 66 else match run s first count.toNat with
  | .error e => .error e
  | .ok (l, k) => if k < s.size then .error 22 else .ok l
/-- What was read so far. -/
structure Ran (s : ByteArray) (first : Int) (j : Nat) (l : List Rec) (k : Nat) : Prop where
  len : l.length = j
  le : k ≤ s.size
  st : Stands s 0 (bdy first 0 l)
  k : k = (bdy first 0 l).length
  good : ∀ x ∈ l, Good first x
  fit : ∀ i x, l[i]? = some x → (fm (x.t - first) i x).length ≤ 16777216
  one : ∀ x, l[0]? = some x → x.t = first
theorem run_ran {s : ByteArray} {first : Int} (hs : s.size ≤ 9223372036854775807) : ∀ {j l k}, j ≤ 65536 → run s first j = .ok (l, k) → Ran s first j l k
  | 0, l, k, _, h => by
    injection h with h
    injection h with h1 h2
    subst h1 h2
    exact ⟨rfl, Nat.zero_le _, stands_nil (Nat.zero_le _), rfl, fun x hx => by simp at hx, fun i x hx => by simp at hx, fun x hx => by simp at hx⟩
  | j + 1, l, k, hj, h => by
    cases hr : run s first j with
    | error e =>
      have : run s first (j + 1) = .error e := by show (match run s first j with | .error e => _ | .ok (l, k) => _) = _; rw [hr]
      rw [this] at h; cases h
    | ok y =>
      obtain ⟨l0, k0⟩ := y
      have R := run_ran hs (by omega) hr
      have e : run s first (j + 1) = match nxt s k0 first j with
        | .error e => .error e
        | .ok (r, k') => if j = 0 ∧ r.t ≠ first then .error 27 else .ok (l0 ++ [r], k') := by show (match run s first j with | .error e => _ | .ok (l, k) => _) = _; rw [hr]
      rw [e] at h
      cases hn : nxt s k0 first j with
      | error e => rw [hn] at h; cases h
      | ok z =>
        obtain ⟨r, k'⟩ := z
        rw [hn] at h
        dsimp only at h
        split at h
        · cases h
        · rename_i hne
          injection h with h
          injection h with h1 h2
          subst h1 h2
          obtain ⟨a1, a2, a3, a4⟩ := (nxt_iff hs R.le (by omega)).1 hn
          have hl := a1.1
          have eb : bdy first 0 (l0 ++ [r]) = bdy first 0 l0 ++ fm (r.t - first) j r := by rw [bdy_snoc, R.len]
          refine ⟨by rw [List.length_append, R.len]; rfl, by omega, ?_, ?_, ?_, ?_, ?_⟩
          · rw [eb, stands_app]
            refine ⟨R.st, ?_⟩
            rw [Nat.zero_add, ← R.k]
            exact a1
          · rw [eb, List.length_append, ← R.k]; exact a2
          · intro x hx
            rcases List.mem_append.1 hx with hx | hx
            · exact R.good x hx
            · rw [List.mem_singleton] at hx; subst hx; exact a3
          · intro i x hx
            by_cases hi : i < l0.length
            · rw [List.getElem?_append_left hi] at hx; exact R.fit i x hx
            · rw [List.getElem?_append_right (by omega)] at hx
              have h0 : i - l0.length = 0 := by
                by_cases h0 : i - l0.length = 0
                · exact h0
                · rw [List.getElem?_eq_none (by simp; omega)] at hx; cases hx
              rw [h0] at hx
              have : i = j := by have := R.len; omega
              subst this
              injection hx with hx; subst hx; exact a4
          · intro x hx
            by_cases h0 : 0 < l0.length
            · rw [List.getElem?_append_left h0] at hx; exact R.one x hx
            · have hj0 : j = 0 := by have := R.len; omega
              rw [List.getElem?_append_right (by omega), show 0 - l0.length = 0 by omega] at hx
              injection hx with hx; subst hx
              by_cases ht : r.t = first
              · exact ht
              · exact absurd ⟨hj0, ht⟩ hne
end Go.Proofs.Ytoohmbkgdmmghaa
