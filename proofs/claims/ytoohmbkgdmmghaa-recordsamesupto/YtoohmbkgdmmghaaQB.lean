/- Texts of the proof, put together: RecL, FitB, Bdy, Rbd, Rbe, RecW. -/
import Derived.Test.YtoohmbkgdmmghaaByt
import Derived.Test.YtoohmbkgdmmghaaRdr4
import Derived.Test.YtoohmbkgdmmghaaQA
import Derived.Test.YtoohmbkgdmmghaaRdr5
namespace Go.Proofs.Ytoohmbkgdmmghaa
open Go.RowKit
/-- A record, and where its headers lie. -/
structure RI where
  r : Rec
  a : Option Addr
  cap : Nat
def dri : RI := ⟨⟨0, false, ⟨#[]⟩, false, ⟨#[]⟩, []⟩, none, 0⟩
def rc1 (x : RI) : List Value := [.int .i64 x.r.t, .bool x.r.kh, .string x.r.kd, .bool x.r.vh, .string x.r.vd, .slice x.a x.r.hs.length x.cap]
def rcs (l : List RI) : List Value := l.flatMap rc1
/-- A record's six cells. -/
def Six (w : World) (b o : Nat) (x : RI) : Prop := w.cell? ⟨b, o, none⟩ = some (.int .i64 x.r.t) ∧ w.cell? ⟨b, o + 1, none⟩ = some (.bool x.r.kh) ∧ w.cell? ⟨b, o + 2, none⟩ = some (.string x.r.kd) ∧ w.cell? ⟨b, o + 3, none⟩ = some (.bool x.r.vh) ∧ w.cell? ⟨b, o + 4, none⟩ = some (.string x.r.vd) ∧ w.cell? ⟨b, o + 5, none⟩ = some (.slice x.a x.r.hs.length x.cap)
/-- A slice's records where they lie. -/
def Rcs (w : World) (a : Option Addr) (l : List RI) : Prop := (∀ x ∈ l, Hds w x.a x.r.hs) ∧ (l = [] ∨ ∃ b off, a = some ⟨b, off, none⟩ ∧ b < w.heap.size ∧ ∀ j, j < l.length → Six w b (off + j * 6) (l.getD j dri))
theorem Six.below {w w' : World} {b o : Nat} {x : RI} (h : Six w b o x) (hb : b < w.heap.size) (k : Below w.heap.size w w') : Six w' b o x := by
  obtain ⟨h0, h1, h2, h3, h4, h5⟩ := h
  exact ⟨(k.cell (p := ⟨b, o, none⟩) hb).trans h0, (k.cell (p := ⟨b, o + 1, none⟩) hb).trans h1, (k.cell (p := ⟨b, o + 2, none⟩) hb).trans h2, (k.cell (p := ⟨b, o + 3, none⟩) hb).trans h3, (k.cell (p := ⟨b, o + 4, none⟩) hb).trans h4, (k.cell (p := ⟨b, o + 5, none⟩) hb).trans h5⟩
theorem Rcs.below {w w' : World} {a : Option Addr} {l : List RI} (h : Rcs w a l) (k : Below w.heap.size w w') : Rcs w' a l := by
  refine ⟨fun x hx => (h.1 x hx).below k, ?_⟩
  rcases h.2 with h | ⟨b, off, h1, h2, h3⟩
  · exact Or.inl h
  · exact Or.inr ⟨b, off, h1, Nat.lt_of_lt_of_le h2 k.size, fun j hj => (h3 j hj).below h2 k⟩
theorem riD_mem {l : List RI} {j : Nat} (h : j < l.length) : l.getD j dri ∈ l := by
  rw [List.getD_eq_getElem?_getD, List.getElem?_eq_getElem h, Option.getD_some]
  exact List.getElem_mem h
/-- The forms one behind the other. -/
def bdy (first : Int) : Nat → List Rec → List Nat
  | _, [] => []
  | n, r :: l => fm (r.t - first) n r ++ bdy first (n + 1) l
theorem bdy_app (first : Int) (l m : List Rec) : ∀ n, bdy first n (l ++ m) = bdy first n l ++ bdy first (n + l.length) m := by
  induction l with
  | nil => intro n; simp [bdy]
  | cons r l ih => intro n; rw [List.cons_append, bdy, ih, bdy, List.append_assoc, List.length_cons, show n + 1 + l.length = n + (l.length + 1) by omega]
theorem bdy_snoc (first : Int) (l : List Rec) (r : Rec) : bdy first 0 (l ++ [r]) = bdy first 0 l ++ fm (r.t - first) l.length r := by
  rw [bdy_app]; simp [bdy]
theorem take_getD {l : List RI} {j : Nat} (h : j < l.length) : l.take (j + 1) = l.take j ++ [l.getD j dri] := by
  rw [List.getD_eq_getElem?_getD, List.getElem?_eq_getElem h, Option.getD_some, List.take_succ_eq_append_getElem h]
theorem bdy_take (first : Int) {l : List RI} {j : Nat} (h : j < l.length) : bdy first 0 ((l.take (j + 1)).map RI.r) = bdy first 0 ((l.take j).map RI.r) ++ fm ((l.getD j dri).r.t - first) j (l.getD j dri).r := by
  rw [take_getD h, List.map_append]
  have e : ((l.take j).map RI.r).length = j := by rw [List.length_map, List.length_take]; omega
  rw [show [l.getD j dri].map RI.r = [(l.getD j dri).r] from rfl, bdy_snoc, e]
theorem bdy_take_le (first : Int) (l : List RI) (j : Nat) : (bdy first 0 ((l.take j).map RI.r)).length ≤ (bdy first 0 (l.map RI.r)).length := by
  conv => rhs; rw [← List.take_append_drop j l, List.map_append, bdy_app, List.length_append]
  omega
/-- Why records have no body, or 0. -/
def FitE (l : List RI) (first : Int) (E : Nat) : Prop :=
  (∃ j, j < l.length ∧ (∀ i, i < j → sze (l.getD i dri).r first i = 0) ∧ sze (l.getD j dri).r first j ≠ 0 ∧ E = sze (l.getD j dri).r first j) ∨ ((∀ i, i < l.length → sze (l.getD i dri).r first i = 0) ∧ E = if 16777216 < (bdy first 0 (l.map RI.r)).length then 66 else 0)
theorem fit_zero {l : List RI} {first : Int} {E : Nat} (h : FitE l first E) : E = 0 ↔ (∀ i, i < l.length → sze (l.getD i dri).r first i = 0) ∧ (bdy first 0 (l.map RI.r)).length ≤ 16777216 := by
  rcases h with ⟨j, h1, _, h3, hE⟩ | ⟨h1, hE⟩
  · rw [hE]
    exact ⟨fun h => absurd h h3, fun h => h.1 j h1⟩
  · by_cases hb : 16777216 < (bdy first 0 (l.map RI.r)).length
    · rw [hE, if_pos hb]
      exact ⟨fun h => absurd h (by decide), fun h => absurd h.2 (by omega)⟩
    · rw [hE, if_neg hb]
      exact ⟨fun _ => ⟨h1, Nat.le_of_not_lt hb⟩, fun _ => rfl⟩
theorem bdy_small (first : Int) (l : List RI) : ∀ j, j ≤ l.length → (∀ i, i < j → sze (l.getD i dri).r first i = 0) → (bdy first 0 ((l.take j).map RI.r)).length ≤ j * 16777216
  | 0, _, _ => by simp [bdy]
  | j + 1, h, hz => by
    have ih := bdy_small first l j (by omega) (fun i hi => hz i (by omega))
    have h4 := (sze_ok (hz j (by omega))).2.2.2
    rw [Int.toNat_natCast] at h4
    rw [bdy_take first (by omega), List.length_append]
    omega
/-- What is read of the first j records. -/
def run (s : ByteArray) (first : Int) : Nat → Except Nat (List Rec × Nat)
  | 0 => .ok ([], 0)
  | j + 1 => match run s first j with
    | .error e => .error e
    | .ok (l, k) => match nxt s k first j with
      | .error e => .error e
      | .ok (r, k') => if j = 0 ∧ r.t ≠ first then .error 27 else .ok (l ++ [r], k')
theorem run_err {s : ByteArray} {first : Int} {e j : Nat} (h : run s first j = .error e) : ∀ m, run s first (j + m) = .error e
  | 0 => h
  | m + 1 => by
    have ih := run_err h m
    show (match run s first (j + m) with | .error e => _ | .ok (l, k) => _) = _
    rw [ih]
/-- What is read of a body. -/
def rbd (s : ByteArray) (first count : Int) : Except Nat (List Rec) := if ¬ (1 ≤ count ∧ count ≤ 65536) then .error 28 else if 16777216 < s.size then .error 66 else match run s first count.toNat with
  | .error e => .error e
  | .ok (l, k) => if k < s.size then .error 22 else .ok l
/-- What was read so far. -/
structure Ran (s : ByteArray) (first : Int) (j : Nat) (l : List Rec) (k : Nat) : Prop where
  len : l.length = j
  le : k ≤ s.size
  st : Stands s 0 (bdy first 0 l)
  k : k = (bdy first 0 l).length
  good : ∀ x ∈ l, Good first x
  fit : ∀ i x, l[i]? = some x → (fm (x.t - first) i x).length ≤ 16777216
  one : ∀ x, l[0]? = some x → x.t = first
theorem run_ran {s : ByteArray} {first : Int} (hs : s.size ≤ 9223372036854775807) : ∀ {j l k}, j ≤ 65536 → run s first j = .ok (l, k) → Ran s first j l k
  | 0, l, k, _, h => by
    injection h with h
    injection h with h1 h2
    subst h1 h2
    exact ⟨rfl, Nat.zero_le _, stands_nil (Nat.zero_le _), rfl, fun x hx => by simp at hx, fun i x hx => by simp at hx, fun x hx => by simp at hx⟩
  | j + 1, l, k, hj, h => by
    cases hr : run s first j with
    | error e =>
      have : run s first (j + 1) = .error e := by show (match run s first j with | .error e => _ | .ok (l, k) => _) = _; rw [hr]
      rw [this] at h; cases h
    | ok y =>
      obtain ⟨l0, k0⟩ := y
      have R := run_ran hs (by omega) hr
      have e : run s first (j + 1) = match nxt s k0 first j with
        | .error e => .error e
        | .ok (r, k') => if j = 0 ∧ r.t ≠ first then .error 27 else .ok (l0 ++ [r], k') := by show (match run s first j with | .error e => _ | .ok (l, k) => _) = _; rw [hr]
      rw [e] at h
      cases hn : nxt s k0 first j with
      | error e => rw [hn] at h; cases h
      | ok z =>
        obtain ⟨r, k'⟩ := z
        rw [hn] at h
        dsimp only at h
        split at h
        · cases h
        · rename_i hne
          injection h with h
          injection h with h1 h2
          subst h1 h2
          obtain ⟨a1, a2, a3, a4⟩ := (nxt_iff hs R.le (by omega)).1 hn
          have hl := a1.1
          have eb : bdy first 0 (l0 ++ [r]) = bdy first 0 l0 ++ fm (r.t - first) j r := by rw [bdy_snoc, R.len]
          refine ⟨by rw [List.length_append, R.len]; rfl, by omega, ?_, ?_, ?_, ?_, ?_⟩
          · rw [eb, stands_app]
            refine ⟨R.st, ?_⟩
            rw [Nat.zero_add, ← R.k]
            exact a1
          · rw [eb, List.length_append, ← R.k]; exact a2
          · intro x hx
            rcases List.mem_append.1 hx with hx | hx
            · exact R.good x hx
            · rw [List.mem_singleton] at hx; subst hx; exact a3
          · intro i x hx
            by_cases hi : i < l0.length
            · rw [List.getElem?_append_left hi] at hx; exact R.fit i x hx
            · rw [List.getElem?_append_right (by omega)] at hx
              have h0 : i - l0.length = 0 := by
                by_cases h0 : i - l0.length = 0
                · exact h0
                · rw [List.getElem?_eq_none (by simp; omega)] at hx; cases hx
              rw [h0] at hx
              have : i = j := by have := R.len; omega
              subst this
              injection hx with hx; subst hx; exact a4
          · intro x hx
            by_cases h0 : 0 < l0.length
            · rw [List.getElem?_append_left h0] at hx; exact R.one x hx
            · have hj0 : j = 0 := by have := R.len; omega
              rw [List.getElem?_append_right (by omega), show 0 - l0.length = 0 by omega] at hx
              injection hx with hx; subst hx
              by_cases ht : r.t = first
              · exact ht
              · exact absurd ⟨hj0, ht⟩ hne
end Go.Proofs.Ytoohmbkgdmmghaa
namespace Go.Proofs.Ytoohmbkgdmmghaa
open Go.RowKit
end Go.Proofs.Ytoohmbkgdmmghaa
namespace Go.Proofs.Ytoohmbkgdmmghaa
open Go.RowKit
theorem iscount_any (n : Int) (w : World) : Calls Try.prog 19 #[.int .i64 n] w fun e w' => e = .returned (.bool (decide (1 ≤ n ∧ n ≤ 65536))) ∧ w' = w := by
  by_cases h1 : 1 ≤ n
  · by_cases h2 : n ≤ 65536
    · rw [decide_eq_true ⟨h1, h2⟩]
      go_enter Try.func19, Try.ntmps19
      go_wp2
      go_ret
      exact ⟨rfl, rfl⟩
    · rw [decide_eq_false (fun h => h2 h.2)]
      go_enter Try.func19, Try.ntmps19
      go_wp2
      go_ret
      exact ⟨rfl, rfl⟩
  · rw [decide_eq_false (fun h => h1 h.1)]
    go_enter Try.func19, Try.ntmps19
    go_wp2
    go_ret
    exact ⟨rfl, rfl⟩
theorem iscount_yes (n : Int) (w : World) (h : 1 ≤ n ∧ n ≤ 65536) : Calls Try.prog 19 #[.int .i64 n] w fun e w' => e = .returned (.bool true) ∧ w' = w := by
  have := iscount_any n w
  rw [decide_eq_true h] at this
  exact this
theorem iscount_no (n : Int) (w : World) (h : ¬ (1 ≤ n ∧ n ≤ 65536)) : Calls Try.prog 19 #[.int .i64 n] w fun e w' => e = .returned (.bool false) ∧ w' = w := by
  have := iscount_any n w
  rw [decide_eq_false h] at this
  exact this
/-- Why records have no body, or 0, with the count. -/
def BodyE (l : List RI) (E : Nat) : Prop := (¬ (1 ≤ l.length ∧ l.length ≤ 65536) ∧ E = 28) ∨ ((1 ≤ l.length ∧ l.length ≤ 65536) ∧ FitE l (l.getD 0 dri).r.t E)
def BodyP (l : List RI) (E : Nat) (S : ByteArray) : Prop := BodyE l E ∧ (E ≠ 0 → S = ⟨#[]⟩) ∧ (E = 0 → S = bs (bdy (l.getD 0 dri).r.t 0 (l.map RI.r)))
end Go.Proofs.Ytoohmbkgdmmghaa
namespace Go.Proofs.Ytoohmbkgdmmghaa
open Go.RowKit
def RI.hv (x : RI) : Value := .slice x.a x.r.hs.length x.cap
theorem rcs_len (rs : List RI) : (rcs rs).length = rs.length * 6 := by
  induction rs with
  | nil => rfl
  | cons r rs ih => simp only [rcs, List.flatMap_cons, List.length_append] at *; rw [ih]; simp [rc1]; omega
theorem rcs_app (a b : List RI) : rcs (a ++ b) = rcs a ++ rcs b := by simp [rcs]
theorem rc1_one (r : RI) : ∀ u ∈ rc1 r, u.oneCell' = true := by
  intro u h
  simp only [rc1, List.mem_cons, List.not_mem_nil, or_false] at h
  rcases h with rfl | rfl | rfl | rfl | rfl | rfl <;> rfl
theorem rcs_at (rs : List RI) : ∀ j i v, j < rs.length → i < 6 → (rc1 (rs.getD j dri))[i]? = some v → (rcs rs)[j * 6 + i]? = some v := by
  induction rs with
  | nil => intro j _ _ hj; simp at hj
  | cons r rs ih =>
    intro j i v hj hi hv
    have e : rcs (r :: rs) = rc1 r ++ rcs rs := rfl
    have e6 : (rc1 r).length = 6 := rfl
    cases j with
    | zero => rw [e, List.getElem?_append_left (by omega), Nat.zero_mul, Nat.zero_add]; exact hv
    | succ j =>
      have h := ih j i v (by simpa using hj) hi hv
      rw [e, List.getElem?_append_right (by omega), e6, show (j + 1) * 6 + i - 6 = j * 6 + i from by omega]
      exact h
/-- Records of the call's own, from B on, each with headers of its own. -/
structure Held (w : World) (B : Nat) (v : Value) (l : List RI) : Prop where
  row : w.ownsRow B 26 6 v l.length (rcs l)
  hds : ∀ x ∈ l, OwnH w B x.hv x.r.hs
  ap : l.Pairwise (fun x y => ∀ g, x.hv.ownBlock = some g → y.hv.ownBlock ≠ some g)
theorem ownH_hds {w : World} {B : Nat} {x : RI} (h : OwnH w B x.hv x.r.hs) : Hds w x.a x.r.hs := by
  obtain ⟨a, cap, e, _, h2⟩ := h.slice
  unfold RI.hv at e
  injection e with e1 e2 e3
  rw [e1]; exact h2
theorem Held.slice {w : World} {B : Nat} {v : Value} {l : List RI} (h : Held w B v l) : ∃ a cap, v = .slice a l.length cap ∧ Rcs w a l := by
  have hlt := World.ownsRow.lt h.row
  have hcell := fun (g : Nat) (hg : v.ownBlock = some g) => World.ownsRow.cells h.row hg
  obtain ⟨hl, hr⟩ := h.row
  rcases hr with ⟨rfl, h1⟩ | ⟨g, cap, cur, rfl, _⟩
  · exact ⟨none, 0, by rw [h1], fun x hx => ownH_hds (h.hds x hx), Or.inl (List.eq_nil_of_length_eq_zero h1)⟩
  · refine ⟨some ⟨g, 0, none⟩, cap, rfl, fun x hx => ownH_hds (h.hds x hx), Or.inr ⟨g, 0, rfl, (hlt g rfl).2, fun j hj => ?_⟩⟩
    have e : ∀ i, (⟨g, 0, none⟩ : Addr).add i = ⟨g, 0 + i, none⟩ := fun i => Go.WideShapes.add_plain _ _ _
    have k : ∀ i v, i < 6 → (rc1 (l.getD j dri))[i]? = some v → w.cell? ⟨g, 0 + (j * 6 + i), none⟩ = some v := fun i v hi hv => by
      have := hcell g rfl _ _ (rcs_at l j i v hj hi hv); rw [e] at this; exact this
    exact ⟨by have := k 0 _ (by omega) rfl; simpa [Nat.add_assoc] using this, by have := k 1 _ (by omega) rfl; simpa [Nat.add_assoc] using this, by have := k 2 _ (by omega) rfl; simpa [Nat.add_assoc] using this, by have := k 3 _ (by omega) rfl; simpa [Nat.add_assoc] using this, by have := k 4 _ (by omega) rfl; simpa [Nat.add_assoc] using this, by have := k 5 _ (by omega) rfl; simpa [Nat.add_assoc] using this⟩
theorem Held.kept {w w' : World} {B : Nat} {v : Value} {l : List RI} (h : Held w B v l) (hc : ∀ g, g < w.heap.size → (v.ownBlock = some g ∨ ∃ x ∈ l, x.hv.ownBlock = some g) → w'.heap[g]? = w.heap[g]?) : Held w' B v l :=
  ⟨own_apart h.row (fun g hg => hc g (World.ownsRow.lt h.row g hg).2 (Or.inl hg)), fun x hx => own_apart (h.hds x hx) (fun g hg => hc g (World.ownsRow.lt (h.hds x hx) g hg).2 (Or.inr ⟨x, hx, hg⟩)), h.ap⟩
/-- A block of another type is none of theirs. -/
theorem Held.ne {w : World} {B : Nat} {v : Value} {l : List RI} {k : Nat} {c : Array Value} {T : TypeId} {fz : Nat × Nat} (h : Held w B v l) (hk : w.heap[k]? = some (.cells c T fz)) (h1 : T ≠ 26) (h2 : T ≠ 33) : ¬ (v.ownBlock = some k ∨ ∃ x ∈ l, x.hv.ownBlock = some k) := by
  rintro (h3 | ⟨x, hx, h3⟩)
  · exact own_ne h.row hk h1 h3
  · exact own_ne (h.hds x hx) hk h2 h3
theorem ownH_blk {w : World} {B : Nat} {v : Value} {rs : List Hdr} {g : Nat} (h : OwnH w B v rs) (hg : v.ownBlock = some g) : ∃ c, w.heap[g]? = some (.cells c 33 (0, 0)) := by
  obtain ⟨_, h2⟩ := h
  rcases h2 with ⟨rfl, _⟩ | ⟨g', cap, cur, rfl, _, hh, _⟩
  · cases hg
  · have e1 : g' = g := by simpa [Value.ownBlock] using hg
    subst e1
    exact ⟨cur, hh⟩
/-- One more. -/
theorem Held.snoc {w w' : World} {B : Nat} {v v' : Value} {l : List RI} {x : RI} (h : Held w B v l) (hx : OwnH w B x.hv x.r.hs) (hap : ∀ y ∈ l, ∀ g, y.hv.ownBlock = some g → x.hv.ownBlock ≠ some g) (hr : w'.ownsRow B 26 6 v' (l.length + 1) (rcs l ++ rc1 x)) (hg : w.grownBy w' v.ownBlock) : Held w' B v' (l ++ [x]) := by
  have hk : ∀ y : RI, OwnH w B y.hv y.r.hs → OwnH w' B y.hv y.r.hs := fun y hy => own_apart hy (fun g hgb => by
    obtain ⟨c, hc⟩ := ownH_blk hy hgb
    exact hg.block g (lt_of_heap hc) (fun e => own_ne h.row hc (by decide) e.symm))
  refine ⟨?_, ?_, ?_⟩
  · rw [List.length_append, rcs_app]
    have : rcs [x] = rc1 x := by simp [rcs]
    rw [this]
    exact hr
  · intro y hy
    rcases List.mem_append.1 hy with hy | hy
    · exact hk y (h.hds y hy)
    · rw [List.mem_singleton] at hy; subst hy; exact hk _ hx
  · rw [List.pairwise_append]
    exact ⟨h.ap, List.pairwise_singleton _ _, fun y hy z hz => by rw [List.mem_singleton] at hz; subst hz; exact hap y hy⟩
theorem Try.infoRec : (Try.prog.info? 26).map (fun i => (i.zero, i.size, i.bytes)) = some (some (.agg #[.int .i64 0, .bool false, .string ⟨#[]⟩, .bool false, .string ⟨#[]⟩, .slice none 0 0]), 6, 80) := by kernel_rfl
theorem Try.underRecs : Try.prog.underlying 30 = some (.slice 26) := by kernel_rfl
/-- What ReadBody leaves. -/
def RbPost (R : Except Nat (List Rec)) (w : World) (r : Ending) (w' : World) : Prop :=
  Below w.heap.size w w' ∧ match R with
    | .error x => r = .returned (.tuple #[.slice none 0 0, .int .i64 x]) ∧ x ≠ 0
    | .ok y => ∃ v l, r = .returned (.tuple #[v, .int .i64 0]) ∧ Held w' w.heap.size v l ∧ l.map RI.r = y
set_option maxHeartbeats 1000000 in
set_option maxRecDepth 20000 in
theorem rbody_no (s : ByteArray) (first count : Int) (w : World) (hn : ¬ (1 ≤ count ∧ count ≤ 65536)) :
    Calls Try.prog 12 #[.string s, .int .i64 first, .int .i64 count] w (RbPost (rbd s first count) w) := by
  have e : rbd s first count = .error 28 := by unfold rbd; rw [if_pos hn]
  rw [e]
  have CI := hid (fun w => iscount_no count w hn)
  clear hn e
  go_enter Try.func12, Try.ntmps12
  go_wp2_with (go_at_call 19; refine (CI.out _).mono ?_; rintro e w' ⟨rfl, rfl⟩)
  go_ret2
  exact ⟨Below.refl _ _, rfl, by decide⟩
set_option maxHeartbeats 1000000 in
set_option maxRecDepth 20000 in
theorem rbody_big (s : ByteArray) (first count : Int) (w : World) (hn : 1 ≤ count ∧ count ≤ 65536) (hb : 16777216 < s.size) :
    Calls Try.prog 12 #[.string s, .int .i64 first, .int .i64 count] w (RbPost (rbd s first count) w) := by
  have e : rbd s first count = .error 66 := by unfold rbd; rw [if_neg (by omega), if_pos hb]
  rw [e]
  have CI := hid (fun w => iscount_yes count w hn)
  have hd : decide ((16777216 : Int) < (s.size : Int)) = true := decide_eq_true (by omega)
  clear hn e hb
  go_enter Try.func12, Try.ntmps12
  go_wp2_with (go_at_call 19; refine (CI.out _).mono ?_; rintro e w' ⟨rfl, rfl⟩)
  go_ret2
  exact ⟨Below.refl _ _, rfl, by decide⟩
end Go.Proofs.Ytoohmbkgdmmghaa
namespace Go.Proofs.Ytoohmbkgdmmghaa
open Go.RowKit
theorem nxt_good {s : ByteArray} {k : Nat} {first : Int} {n : Nat} {y : Rec × Nat} (hs : s.size ≤ 9223372036854775807) (hk : k ≤ s.size) (hn : n < 65536) (h : nxt s k first n = .ok y) : y.2 ≤ s.size := by
  obtain ⟨r, k'⟩ := y
  obtain ⟨h1, h2, _, _⟩ := (nxt_iff hs hk (by omega)).1 h
  have := h1.1
  dsimp only
  omega
theorem run_next {s : ByteArray} {first : Int} {j k : Nat} {l : List Rec} (h : run s first j = .ok (l, k)) : run s first (j + 1) = match nxt s k first j with
    | .error e => .error e
    | .ok (r, k') => if j = 0 ∧ r.t ≠ first then .error 27 else .ok (l ++ [r], k') := by
  show (match run s first j with | .error e => _ | .ok (l, k) => _) = _
  rw [h]
  all_goals (dsimp only; cases nxt s k first j <;> rfl)
theorem rbd_err {s : ByteArray} {first : Int} {C j e : Nat} (hC : 1 ≤ C ∧ C ≤ 65536) (hz : s.size ≤ 16777216) (hj : j ≤ C) (h : run s first j = .error e) : rbd s first C = .error e := by
  unfold rbd
  rw [if_neg (by omega), if_neg (by omega), Int.toNat_natCast]
  have := run_err h (C - j)
  rw [show j + (C - j) = C by omega] at this
  rw [this]
set_option maxHeartbeats 1000000 in
set_option maxRecDepth 20000 in
theorem rbody_yes (s : ByteArray) (first : Int) (C : Nat) (w : World) (hf : I64 first) (hC : 1 ≤ C ∧ C ≤ 65536) (hz : s.size ≤ 16777216) :
    Calls Try.prog 12 #[.string s, .int .i64 first, .int .i64 C] w (RbPost (rbd s first C) w) := by
  have CI := hid (fun w => iscount_yes C w (by omega))
  have hs : s.size ≤ 9223372036854775807 := by omega
  have CN := hid (fun q pb j k x h hr hq hk hn => next_any q pb s k first j x h hr hq hk hs hf hn)
  have CD := hid (fun b k x h hk => rdone_any b s k 0 x h hk hs)
  have HC := hid hC
  have HZ := hid hz
  have HS := hid hs
  obtain ⟨i0, hi, hz0, hz1, hz2⟩ := info_parts Try.infoRec
  have hd : decide ((16777216 : Int) < (s.size : Int)) = false := decide_eq_false (by omega)
  obtain ⟨CAP, hCAP, hle⟩ : ∃ CAP : Nat, min (C : Int) (wrap64 ((s.size : Int) / 7)) = (CAP : Int) ∧ CAP ≤ 65536 := ⟨(min (C : Int) (wrap64 ((s.size : Int) / 7))).toNat, by unfold wrap64; omega, by unfold wrap64; omega⟩
  clear hf hC hz hs
  go_enter Try.func12, Try.ntmps12
  go_wp2_with (go_at_call 19; refine (CI.out _).mono ?_; rintro e w' ⟨rfl, rfl⟩)
  refine (newrd_any s _).mono ?_
  rintro r w1 ⟨rfl, rfl⟩
  have hb : Below w'.heap.size w' ((w'.alloc (.cells #[.int .i64 0, .string s, .int .i64 0] 78)).alloc (.cells #[.pointer (some ⟨w'.heap.size, 0, none⟩), .int .i64 0] 54)) := ((Below.refl _ w').alloc (Nat.le_refl _) _).alloc (by simp) _
  have hrd : Rd ((w'.alloc (.cells #[.int .i64 0, .string s, .int .i64 0] 78)).alloc (.cells #[.pointer (some ⟨w'.heap.size, 0, none⟩), .int .i64 0] 54)) w'.heap.size s 0 0 := heap_alloc_at (heap_new _ _)
  have hrr : RR ((w'.alloc (.cells #[.int .i64 0, .string s, .int .i64 0] 78)).alloc (.cells #[.pointer (some ⟨w'.heap.size, 0, none⟩), .int .i64 0] 54)) (w'.heap.size + 1) w'.heap.size 0 := heap_new' _ _ _ (by simp)
  generalize (w'.alloc (.cells #[.int .i64 0, .string s, .int .i64 0] 78)).alloc (.cells #[.pointer (some ⟨w'.heap.size, 0, none⟩), .int .i64 0] 54) = w1 at *
  obtain ⟨w4, hmk, hown, hgrow⟩ := run_make_own (P := Try.prog) w1 w'.heap.size 30 26 i0 (.agg #[.int .i64 0, .bool false, .string ⟨#[]⟩, .bool false, .string ⟨#[]⟩, .slice none 0 0]) 6 Try.underRecs hi hz0 hz1 .i64 .i64 CAP (by rw [hz2]; omega) (by unfold maxLen; omega) hb.size
  have hb4 : Below w1.heap.size w1 w4 := (Below.refl _ _).grown hgrow (Nat.le_refl _) (fun k hk => by cases hk)
  have HB4 : Hid (Below w'.heap.size w' w4) := bel_next hb (Nat.le_refl _) hb4
  have H4 : Hid (RR w4 (w'.heap.size + 1) w'.heap.size 0) := (hb4.block _ hrr.lt).trans hrr
  have HR4 : Hid (Rd w4 w'.heap.size s 0 0) := hrd.below hb4 hrd.lt
  have HO4 : Hid (Held w4 w'.heap.size (.slice (some ⟨w1.heap.size, 0, none⟩) 0 CAP) []) := ⟨hown, fun x hx => by simp at hx, List.Pairwise.nil⟩
  clear hown hgrow hb4 hb hrd hrr
  go_wp2_with fail
  clear hmk hCAP
  go_loopg [9, 29] C (fun g o i wr => ∃ (j k : Nat) (acc : List RI), j + g = C ∧ i = .int .i64 j ∧ Hid (run s first j = .ok (acc.map RI.r, k)) ∧ Hid (k ≤ s.size) ∧ Hid (Held wr w'.heap.size o acc) ∧ Hid (RR wr (w'.heap.size + 1) w'.heap.size 0) ∧ Hid (Rd wr w'.heap.size s k 0) ∧ Hid (Below w'.heap.size w' wr))
  case atStart => exact ⟨0, 0, [], by omega, rfl, rfl, Nat.zero_le _, HO4, H4, HR4, HB4⟩
  case round =>
    clear HO4 H4 HR4 HB4
    obtain ⟨j, k, acc, hk, rfl, HRN, HK, HO, HRR, HRD, HB⟩ := hrel
    by_cases hlt : j < C
    · obtain ⟨g, rfl⟩ : ∃ g, gk = g + 1 := ⟨gk - 1, by omega⟩
      have cn := CN.out (w'.heap.size + 1) w'.heap.size j k wr HRR.out HRD.out (by omega) HK.out (by have := HC.out; omega)
      have hn := run_next HRN.out
      have hlt' : (j : Int) < C := by omega
      cases hx : nxt s k first j with
      | error x =>
        rw [hx] at cn hn
        have HE := hid (rbd_err HC.out HZ.out (show j + 1 ≤ C by omega) hn)
        have CNN := hid cn
        clear cn hn hx
        go_wp2_with fail
        refine CNN.out.mono ?_
        rintro r w5 ⟨hc5, rfl, hx0⟩
        have HB5 := hid (HB.out.trans (hc5.below HB.out.size (fun i hi h => by omega)))
        have hne : ((x : Int) != 0) = true := by rw [bne_iff_ne]; omega
        have HX := hid hx0
        clear hx0 hc5
        unfold noRec
        go_wp2_with fail
        go_ret2
        show RbPost _ _ _ _
        rw [HE.out]
        exact ⟨HB5.out.alloc HB5.out.size _, rfl, HX.out⟩
      | ok y =>
        obtain ⟨R, k'⟩ := y
        rw [hx] at cn hn
        have HK' := hid (nxt_good HS.out HK.out (by have := HC.out; omega) hx)
        have HN := hid hn
        have CNN := hid cn
        clear cn hn hx
        go_wp2_with fail
        refine CNN.out.mono ?_
        rintro r w5 ⟨hc5, a5, cap5, rfl, ho5, hrr5, hrd5, hk5⟩
        have HB5 := hid (HB.out.trans (hc5.below HB.out.size (fun i hi h => by omega)))
        have HO5 : Hid (Held w5 w'.heap.size u9 acc) := HO.out.kept (fun g hg hh => hc5.block g hg (fun e => by subst e; exact HO.out.ne HRD.out (by decide) (by decide) hh))
        have HOX : Hid (OwnH w5 w'.heap.size (RI.hv ⟨R, a5, cap5⟩) R.hs) := own_base HB.out.size ho5
        have HAP : Hid (∀ y ∈ acc, ∀ g, y.hv.ownBlock = some g → (RI.hv ⟨R, a5, cap5⟩).ownBlock ≠ some g) := fun y hy g hg he => by
          have h1 := (World.ownsRow.lt (HO.out.hds y hy) g hg).2
          have h2 := (World.ownsRow.lt ho5 g he).1
          omega
        have HR5 := hid hrd5
        have H5 := hid hrr5
        have hsz5 := HB5.out.size
        clear hc5 ho5 hrr5 hrd5
        obtain ⟨t, kh, kd, vh, vd, hs⟩ := R
        simp only [recV]
        have HLEN : Hid (acc.length = j) := by
          have := (run_ran HS.out (show j ≤ 65536 by have := HC.out; omega) HRN.out).len
          rw [List.length_map] at this
          exact this
        by_cases hj0 : j = 0
        · have ej : ((j : Int) == 0) = true := by rw [beq_iff_eq]; omega
          by_cases ht : t = first
          · have et : (t != first) = false := by rw [ht]; simp
            have HNN : Hid (run s first (j + 1) = .ok (acc.map RI.r ++ [⟨t, kh, kd, vh, vd, hs⟩], k')) := by
              show _ = _
              rw [HN.out]; dsimp only; rw [if_neg (fun h => h.2 ht)]
            clear hj0 ht HN
            have hrow := HO5.out.row
            go_wp2_with (at_builtin; refine wpList_append_own _ rfl _ _ 30 rfl w'.heap.size 26 i0 (.agg #[.int .i64 0, .bool false, .string ⟨#[]⟩, .bool false, .string ⟨#[]⟩, .slice none 0 0]) 6 80 Try.underRecs hi hz0 hz1 hz2 rfl (by decide) _ _ _ rfl ((hrow.alloc _).alloc _) ⟨w5.heap.size + 1, 0, none⟩ 1 1 (rc1 ⟨⟨t, kh, kd, vh, vd, hs⟩, a5, cap5⟩) rfl rfl ?c1 ?c2 ?c3 ?c4 ?c5 ?_)
            case c1 => exact fun j u h => h
            case c2 => exact rc1_one _
            case c3 => have := HLEN.out; have := HC.out; unfold maxLen; omega
            case c4 => have := HLEN.out; have := HC.out; omega
            case c5 => omega
            intro v' w7 hown7 hgrow7 _
            have hba : Below w5.heap.size w5 ((w5.alloc (.cells #[.int .i64 t, .bool kh, .string kd, .bool vh, .string vd, .slice a5 hs.length cap5] 26)).alloc (.cells (rc1 ⟨⟨t, kh, kd, vh, vd, hs⟩, a5, cap5⟩).toArray 26)) := ((Below.refl _ _).alloc (Nat.le_refl _) _).alloc (by simp) _
            have hH6 := HO5.out.kept (fun g hg _ => hba.block g hg)
            have hX6 := own_apart HOX.out (fun g hg => hba.block g (World.ownsRow.lt HOX.out g hg).2)
            have HO7 := hid (hH6.snoc hX6 HAP.out hown7 hgrow7)
            have hrd6 := HR5.out.below hba HR5.out.lt
            have hrr6 : RR _ _ _ _ := (hba.block _ H5.out.lt).trans H5.out
            have HR7 : Hid (Rd w7 w'.heap.size s k' 0) := (hgrow7.block _ (lt_of_heap hrd6) (fun e => own_ne hH6.row hrd6 (by decide) e.symm)).trans hrd6
            have H7 : Hid (RR w7 (w'.heap.size + 1) w'.heap.size 0) := (hgrow7.block _ (lt_of_heap hrr6) (fun e => own_ne hH6.row hrr6 (by decide) e.symm)).trans hrr6
            have HB7 : Hid (Below w'.heap.size w' w7) := (bel_next HB5.out (Nat.le_refl _) hba).grown hgrow7 (Nat.le_trans hsz5 hba.size) (fun k hk => (World.ownsRow.lt hH6.row k hk).1)
            clear hown7 hgrow7 hba hH6 hX6 hrd6 hrr6 hrow
            go_wp2_with fail
            go_roundg g
            case measure => omega
            case rel => have hCC := HC.out; have ew : wrap64 ((j : Int) + 1) = ((j + 1 : Nat) : Int) := by { unfold wrap64; omega }; exact ⟨j + 1, k', acc ++ [⟨⟨t, kh, kd, vh, vd, hs⟩, a5, cap5⟩], by omega, congrArg (Value.int .i64) ew, by show run _ _ _ = _; rw [List.map_append]; exact HNN.out, HK', HO7, H7, HR7, HB7⟩
          · have et : (t != first) = true := by rw [bne_iff_ne]; exact ht
            have HNN : Hid (rbd s first C = .error 27) := by
              refine rbd_err HC.out HZ.out (show j + 1 ≤ C by omega) ?_
              rw [HN.out]; dsimp only; rw [if_pos ⟨hj0, ht⟩]
            clear hj0 ht HN
            go_wp2_with fail
            go_ret2
            show RbPost _ _ _ _
            rw [HNN.out]
            exact ⟨HB5.out.alloc HB5.out.size _, rfl, by decide⟩
        · have ej : ((j : Int) == 0) = false := by rw [beq_eq_false_iff_ne]; omega
          have HNN : Hid (run s first (j + 1) = .ok (acc.map RI.r ++ [⟨t, kh, kd, vh, vd, hs⟩], k')) := by
            show _ = _
            rw [HN.out]; dsimp only; rw [if_neg (fun h => hj0 h.1)]
          clear hj0 HN
          have hrow := HO5.out.row
          go_wp2_with (at_builtin; refine wpList_append_own _ rfl _ _ 30 rfl w'.heap.size 26 i0 (.agg #[.int .i64 0, .bool false, .string ⟨#[]⟩, .bool false, .string ⟨#[]⟩, .slice none 0 0]) 6 80 Try.underRecs hi hz0 hz1 hz2 rfl (by decide) _ _ _ rfl ((hrow.alloc _).alloc _) ⟨w5.heap.size + 1, 0, none⟩ 1 1 (rc1 ⟨⟨t, kh, kd, vh, vd, hs⟩, a5, cap5⟩) rfl rfl ?c1 ?c2 ?c3 ?c4 ?c5 ?_)
          case c1 => exact fun j u h => h
          case c2 => exact rc1_one _
          case c3 => have := HLEN.out; have := HC.out; unfold maxLen; omega
          case c4 => have := HLEN.out; have := HC.out; omega
          case c5 => omega
          intro v' w7 hown7 hgrow7 _
          have hba : Below w5.heap.size w5 ((w5.alloc (.cells #[.int .i64 t, .bool kh, .string kd, .bool vh, .string vd, .slice a5 hs.length cap5] 26)).alloc (.cells (rc1 ⟨⟨t, kh, kd, vh, vd, hs⟩, a5, cap5⟩).toArray 26)) := ((Below.refl _ _).alloc (Nat.le_refl _) _).alloc (by simp) _
          have hH6 := HO5.out.kept (fun g hg _ => hba.block g hg)
          have hX6 := own_apart HOX.out (fun g hg => hba.block g (World.ownsRow.lt HOX.out g hg).2)
          have HO7 := hid (hH6.snoc hX6 HAP.out hown7 hgrow7)
          have hrd6 := HR5.out.below hba HR5.out.lt
          have hrr6 : RR _ _ _ _ := (hba.block _ H5.out.lt).trans H5.out
          have HR7 : Hid (Rd w7 w'.heap.size s k' 0) := (hgrow7.block _ (lt_of_heap hrd6) (fun e => own_ne hH6.row hrd6 (by decide) e.symm)).trans hrd6
          have H7 : Hid (RR w7 (w'.heap.size + 1) w'.heap.size 0) := (hgrow7.block _ (lt_of_heap hrr6) (fun e => own_ne hH6.row hrr6 (by decide) e.symm)).trans hrr6
          have HB7 : Hid (Below w'.heap.size w' w7) := (bel_next HB5.out (Nat.le_refl _) hba).grown hgrow7 (Nat.le_trans hsz5 hba.size) (fun k hk => (World.ownsRow.lt hH6.row k hk).1)
          clear hown7 hgrow7 hba hH6 hX6 hrd6 hrr6 hrow
          go_wp2_with fail
          go_roundg g
          case measure => omega
          case rel => have hCC := HC.out; have ew : wrap64 ((j : Int) + 1) = ((j + 1 : Nat) : Int) := by { unfold wrap64; omega }; exact ⟨j + 1, k', acc ++ [⟨⟨t, kh, kd, vh, vd, hs⟩, a5, cap5⟩], by omega, congrArg (Value.int .i64) ew, by show run _ _ _ = _; rw [List.map_append]; exact HNN.out, HK', HO7, H7, HR7, HB7⟩
    · have hj : j = C := by omega
      subst hj
      have hR : ∀ x, dq s k 0 = x → (x ≠ 0 → rbd s first j = .error x) ∧ (x = 0 → rbd s first j = .ok (acc.map RI.r)) := by
        intro x hx
        unfold dq at hx
        unfold rbd
        have h1 := HC.out
        have h2 := HZ.out
        rw [if_neg (by omega), if_neg (by omega), Int.toNat_natCast, HRN.out]
        dsimp only
        by_cases h3 : k < s.size
        · rw [if_pos ⟨rfl, h3⟩] at hx
          rw [if_pos h3]
          exact ⟨fun _ => by rw [hx], fun h => absurd (hx.trans h) (by decide)⟩
        · rw [if_neg (fun h => h3 h.2)] at hx
          rw [if_neg h3]
          exact ⟨fun h => absurd hx.symm h, fun _ => rfl⟩
      have cd := CD.out w'.heap.size k wr HRD.out HK.out
      have c0 := HRR.out.c0
      generalize hdq' : dq s k 0 = D at *
      obtain ⟨hR1, hR2⟩ := hR D rfl
      have CDD := hid cd
      clear cd hR hdq'
      by_cases hD : D = 0
      · subst hD
        have HE := hid (hR2 rfl)
        clear hR1 hR2
        go_wp2_with fail
        refine CDD.out.mono ?_
        rintro r w5 ⟨rfl, n, rfl⟩
        go_wp2_with fail
        go_ret2
        show RbPost _ _ _ _
        rw [HE.out]
        exact ⟨drewN_bel HB.out n, _, acc, rfl, HO.out.kept (fun g _ _ => rfl), rfl⟩
      · have HE := hid (hR1 hD)
        have hne : ((D : Int) != 0) = true := by rw [bne_iff_ne]; omega
        have HD := hid hD
        clear hR1 hR2 hD
        go_wp2_with fail
        refine CDD.out.mono ?_
        rintro r w5 ⟨rfl, n, rfl⟩
        go_wp2_with fail
        go_ret2
        show RbPost _ _ _ _
        rw [HE.out]
        exact ⟨drewN_bel HB.out n, rfl, HD.out⟩
theorem rbody_any (s : ByteArray) (first count : Int) (w : World) (hf : I64 first) :
    Calls Try.prog 12 #[.string s, .int .i64 first, .int .i64 count] w (RbPost (rbd s first count) w) := by
  by_cases h : 1 ≤ count ∧ count ≤ 65536
  · obtain ⟨C, rfl⟩ : ∃ C : Nat, count = (C : Int) := ⟨count.toNat, by omega⟩
    by_cases hb : 16777216 < s.size
    · exact rbody_big s first C w h hb
    · exact rbody_yes s first C w hf (by omega) (by omega)
  · exact rbody_no s first count w h
end Go.Proofs.Ytoohmbkgdmmghaa
namespace Go.Proofs.Ytoohmbkgdmmghaa
open Go.RowKit
theorem fm_byte (d : Int) (n : Nat) (r : Rec) (hd : I64 d) (hn : n < 65536) (hh : r.hs.length ≤ 1024) (hm : Mod r) : ∀ b ∈ fm d n r, b < 256 := by
  intro b hb
  have ho := own_le d n r hm
  unfold fm at hb
  rcases List.mem_append.1 hb with hb | hb
  · exact M.form_byte (by omega) b hb
  · exact own_byte d n r hd (by omega) (by omega) hm b hb
theorem bdy_byte (first : Int) : ∀ (l : List Rec) (n : Nat), n + l.length ≤ 65536 → (∀ i x, l[i]? = some x → sze x first ((n + i : Nat) : Int) = 0 ∧ Mod x) → ∀ b ∈ bdy first n l, b < 256
  | [], n, _, _ => fun b hb => by simp [bdy] at hb
  | r :: l, n, hl, h => fun b hb => by
    rw [bdy] at hb
    rw [List.length_cons] at hl
    rcases List.mem_append.1 hb with hb | hb
    · obtain ⟨h1, h2⟩ := h 0 r rfl
      obtain ⟨_, h3, h4, _⟩ := sze_ok h1
      exact fm_byte _ n r h3 (by omega) h4 h2 b hb
    · refine bdy_byte first l (n + 1) (by omega) (fun i x hx => ?_) b hb
      have := h (i + 1) x (by simpa using hx)
      rw [show n + 1 + i = n + (i + 1) by omega]
      exact this
theorem cln_good {r : Rec} {first : Int} {N : Nat} (ht : I64 r.t) (hz : sze r first N = 0) : Good first (cln r) := by
  obtain ⟨_, hi, hh, _⟩ := sze_ok hz
  refine ⟨ht, hi, cl_bd _ _, cl_bd _ _, by show (List.map _ _).length ≤ 1024; rw [List.length_map]; exact hh, ?_⟩
  intro x hx
  simp only [cln, List.mem_map] at hx
  obtain ⟨y, _, rfl⟩ := hx
  exact cl_bd _ _
theorem run_back {S : ByteArray} {l : List RI} (hT : ∀ x ∈ l, I64 x.r.t) (hL : l.length ≤ 65536) (hS : bl S = bdy (l.getD 0 dri).r.t 0 (l.map RI.r)) (hz : ∀ i, i < l.length → sze (l.getD i dri).r (l.getD 0 dri).r.t i = 0) (hs : S.size ≤ 9223372036854775807) : ∀ j, j ≤ l.length → run S (l.getD 0 dri).r.t j = .ok (((l.take j).map RI.r).map cln, (bdy (l.getD 0 dri).r.t 0 ((l.take j).map RI.r)).length)
  | 0, _ => rfl
  | j + 1, hj => by
    have ih := run_back hT hL hS hz hs j (by omega)
    have h0 := hz j (by omega)
    have hle := (sze_ok h0).2.2.2
    rw [Int.toNat_natCast] at hle
    have hst : Stands S 0 (bdy (l.getD 0 dri).r.t 0 (l.map RI.r)) := (stands_whole.2 hS).1
    rw [← List.take_append_drop (j + 1) l, List.map_append, bdy_app, stands_app] at hst
    have hst := hst.1
    rw [List.take_append_drop, bdy_take _ (by omega), stands_app, Nat.zero_add] at hst
    have hk : (bdy (l.getD 0 dri).r.t 0 ((l.take j).map RI.r)).length ≤ S.size := by have := hst.1.1; omega
    have hn : nxt S (bdy (l.getD 0 dri).r.t 0 ((l.take j).map RI.r)).length (l.getD 0 dri).r.t j = .ok (cln (l.getD j dri).r, (bdy (l.getD 0 dri).r.t 0 ((l.take j).map RI.r)).length + (fm ((l.getD j dri).r.t - (l.getD 0 dri).r.t) j (l.getD j dri).r).length) := by
      refine (nxt_iff hs hk (by omega)).2 ?_
      have ec : (cln (l.getD j dri).r).t = (l.getD j dri).r.t := rfl
      rw [ec, fm_cln]
      exact ⟨hst.2, rfl, cln_good (hT _ (riD_mem (by omega))) h0, hle⟩
    rw [run_next ih, hn]
    dsimp only
    have ht : ¬ (j = 0 ∧ (cln (l.getD j dri).r).t ≠ (l.getD 0 dri).r.t) := by
      rintro ⟨rfl, h⟩
      exact h rfl
    rw [if_neg ht, take_getD (by omega), List.map_append, List.map_append, show List.map RI.r [l.getD j dri] = [(l.getD j dri).r] from rfl, bdy_snoc, List.length_append, List.length_map, List.length_take, Nat.min_eq_left (by omega)]
    rfl
theorem body_back {l : List RI} {S : ByteArray} (hT : ∀ x ∈ l, I64 x.r.t) (hM : ∀ x ∈ l, Mod x.r) (h : BodyP l 0 S) : (1 ≤ l.length ∧ l.length ≤ 65536) ∧ S.size ≤ 16777216 ∧ (∀ i, i < l.length → sze (l.getD i dri).r (l.getD 0 dri).r.t i = 0) ∧ bl S = bdy (l.getD 0 dri).r.t 0 (l.map RI.r) ∧ rbd S (l.getD 0 dri).r.t l.length = .ok ((l.map RI.r).map cln) ∧ ∃ x, rbd S (l.getD 0 dri).r.t (l.length + 1 : Nat) = .error x := by
  obtain ⟨hE, _, hS⟩ := h
  have hS := hS rfl
  rcases hE with ⟨_, h⟩ | ⟨hL, hF⟩
  · cases h
  obtain ⟨hz, hlen⟩ := (fit_zero hF).1 rfl
  have hby : ∀ b ∈ bdy (l.getD 0 dri).r.t 0 (l.map RI.r), b < 256 := by
    refine bdy_byte _ _ 0 (by rw [List.length_map]; omega) (fun i x hx => ?_)
    rw [List.getElem?_map] at hx
    cases hi : l[i]? with
    | none => rw [hi] at hx; cases hx
    | some y =>
      rw [hi] at hx
      injection hx with hx
      subst hx
      have hil : i < l.length := (List.getElem?_eq_some_iff.1 hi).1
      have ey : l.getD i dri = y := by rw [List.getD_eq_getElem?_getD, hi]; rfl
      have := hz i hil
      rw [ey] at this
      rw [Nat.zero_add]
      exact ⟨this, hM y (List.mem_of_getElem? hi)⟩
  have hbl : bl S = bdy (l.getD 0 dri).r.t 0 (l.map RI.r) := by rw [hS, bl_bs _ hby]
  have hsz : S.size = (bdy (l.getD 0 dri).r.t 0 (l.map RI.r)).length := by rw [← hbl, bl_len]
  have hr := run_back hT hL.2 hbl hz (by omega) l.length (Nat.le_refl _)
  rw [List.take_length, ← hsz] at hr
  refine ⟨hL, by omega, hz, hbl, ?_, ?_⟩
  · unfold rbd
    rw [if_neg (by omega), if_neg (by omega), Int.toNat_natCast, hr]
    dsimp only
    rw [if_neg (by omega)]
  · by_cases h65 : l.length + 1 ≤ 65536
    · cases hn : nxt S S.size (l.getD 0 dri).r.t l.length with
      | error x =>
        refine ⟨x, rbd_err (by omega) (by omega) (Nat.le_refl _) ?_⟩
        rw [run_next hr, hn]
      | ok y =>
        obtain ⟨r, k'⟩ := y
        obtain ⟨h1, _⟩ := (nxt_iff (by omega) (Nat.le_refl _) (by omega)).1 hn
        have h2 := h1.1
        have h3 := (fm_len (r.t - (l.getD 0 dri).r.t) l.length r).2
        omega
    · exact ⟨28, by unfold rbd; rw [if_pos (by omega)]⟩
theorem body_again {s : ByteArray} {first count : Int} {l : List RI} (h : rbd s first count = .ok (l.map RI.r)) : (∀ x ∈ l, I64 x.r.t ∧ Mod x.r) ∧ (l.length : Int) = count ∧ 0 < l.length ∧ (l.getD 0 dri).r.t = first ∧ s.size ≤ 16777216 ∧ ∀ E S, BodyP l E S → E = 0 ∧ S = s := by
  unfold rbd at h
  by_cases hc : ¬ (1 ≤ count ∧ count ≤ 65536)
  · rw [if_pos hc] at h; cases h
  rw [if_neg hc] at h
  by_cases hs : 16777216 < s.size
  · rw [if_pos hs] at h; cases h
  rw [if_neg hs] at h
  cases hr : run s first count.toNat with
  | error e => rw [hr] at h; cases h
  | ok y =>
    obtain ⟨m, k⟩ := y
    rw [hr] at h
    dsimp only at h
    by_cases hk : k < s.size
    · rw [if_pos hk] at h; cases h
    rw [if_neg hk] at h
    injection h with h
    subst h
    have R := run_ran (by omega) (by omega) hr
    have hlen : l.length = count.toNat := by have := R.len; rw [List.length_map] at this; exact this
    have hget : ∀ i, i < l.length → (l.map RI.r)[i]? = some (l.getD i dri).r := fun i hi => by
      rw [List.getElem?_map, List.getD_eq_getElem?_getD, List.getElem?_eq_getElem hi]; rfl
    have hgood : ∀ i, i < l.length → Good first (l.getD i dri).r ∧ (fm ((l.getD i dri).r.t - first) i (l.getD i dri).r).length ≤ 16777216 := fun i hi => ⟨R.good _ (List.mem_of_getElem? (hget i hi)), R.fit i _ (hget i hi)⟩
    have hone := R.one _ (hget 0 (by omega))
    have hbl : bl s = bdy first 0 (l.map RI.r) := stands_whole.1 ⟨R.st, by have := R.k; omega⟩
    refine ⟨fun x hx => ?_, by omega, by omega, hone, by omega, fun E S hP => ?_⟩
    · obtain ⟨i, hi⟩ := List.getElem?_of_mem hx
      have hil : i < l.length := (List.getElem?_eq_some_iff.1 hi).1
      have ey : l.getD i dri = x := by rw [List.getD_eq_getElem?_getD, hi]; rfl
      have := hgood i hil
      rw [ey] at this
      exact ⟨this.1.1, good_mod this.1 this.2⟩
    · obtain ⟨hE, _, hS⟩ := hP
      unfold BodyE at hE
      rw [hone] at hE hS
      have hE0 : E = 0 := by
        rcases hE with ⟨h, _⟩ | ⟨_, hF⟩
        · exact absurd (show 1 ≤ l.length ∧ l.length ≤ 65536 by omega) h
        · refine (fit_zero hF).2 ⟨fun i hi => ?_, by rw [← hbl, bl_len]; omega⟩
          obtain ⟨⟨g1, g2, _, _, g5, _⟩, g7⟩ := hgood i hi
          unfold sze
          rw [if_neg (by omega), if_neg (by simpa using g2), if_neg (by omega), Int.toNat_natCast, if_neg (by omega)]
      exact ⟨hE0, by rw [hS hE0, ← hbl, bs_bl]⟩
theorem bs_cat (l m : List Nat) : bs (l ++ m) = bs l ++ bs m := by
  unfold bs
  apply ByteArray.ext
  rw [ByteArray.data_append]
  simp
theorem same_cln (r : Rec) (a a2 : Option Addr) (cap cap2 : Nat) (w : World) (V1 : Hds w a2 (cln r).hs) (V2 : Hds w a r.hs) (hz : r.hs.length ≤ 9223372036854775807) :
    Calls Try.prog 6 #[recV (cln r) a2 cap2, recV r a cap] w fun e w' => e = .returned (.bool true) ∧ Below w.heap.size w w' := by
  have e : (cln r).hs.length = r.hs.length := List.length_map _
  have h := same_yes r.t r.kh r.vh (bd r.kh r.kd) r.kd (bd r.vh r.vd) r.vd (cln r).hs r.hs a2 a cap2 cap w V1 V2 (by omega) (bd_bd _ _).symm (bd_bd _ _).symm e.symm (fun j hj => by
    have hj' : j < r.hs.length := by omega
    have e1 : (cln r).hs.getD j df = ((r.hs.getD j df).1, (r.hs.getD j df).2.1, bd (r.hs.getD j df).2.1 (r.hs.getD j df).2.2) := by
      show (List.map _ _).getD j df = _
      rw [List.getD_eq_getElem?_getD, List.getElem?_map, List.getElem?_eq_getElem hj', List.getD_eq_getElem?_getD, List.getElem?_eq_getElem hj']
      rfl
    rw [e1]
    exact ⟨rfl, rfl, (bd_bd _ _).symm⟩)
  unfold recV
  rw [e] at h ⊢
  exact h
end Go.Proofs.Ytoohmbkgdmmghaa
