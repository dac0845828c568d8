import Derived.Test.YtlbkkeoffeohnabWrec
import Derived.Test.YtlbkkeoffeohnabRdr3
import Derived.Test.YtlbkkeoffeohnabBck5
/- Slices of records; what a body is; what is read of one. -/
namespace Go.Proofs.Ytlbkkeoffeohnab
open Go.RowKit
/-- A record, and where its headers lie. -/
structure RI where
  r : Rec
  a : Option Addr
  cap : Nat
def dri : RI := ⟨⟨0, false, ⟨#[]⟩, false, ⟨#[]⟩, []⟩, none, 0⟩
def rc1 (x : RI) : List Value := [.int .i64 x.r.t, .bool x.r.kh, .string x.r.kd, .bool x.r.vh, .string x.r.vd, .slice x.a x.r.hs.length x.cap]
def rcs (l : List RI) : List Value := l.flatMap rc1
/-- A record's six cells. -/
def Six (w : World) (b o : Nat) (x : RI) : Prop := w.cell? ⟨b, o, none⟩ = some (.int .i64 x.r.t) ∧ w.cell? ⟨b, o + 1, none⟩ = some (.bool x.r.kh) ∧ w.cell? ⟨b, o + 2, none⟩ = some (.string x.r.kd) ∧ w.cell? ⟨b, o + 3, none⟩ = some (.bool x.r.vh) ∧ w.cell? ⟨b, o + 4, none⟩ = some (.string x.r.vd) ∧ w.cell? ⟨b, o + 5, none⟩ = some (.slice x.a x.r.hs.length x.cap)
/-- A slice's records where they lie. -/
def Rcs (w : World) (a : Option Addr) (l : List RI) : Prop := (∀ x ∈ l, Hds w x.a x.r.hs) ∧ (l = [] ∨ ∃ b off, a = some ⟨b, off, none⟩ ∧ b < w.heap.size ∧ ∀ j, j < l.length → Six w b (off + j * 6) (l.getD j dri))
theorem Six.below {w w' : World} {b o : Nat} {x : RI} (h : Six w b o x) (hb : b < w.heap.size) (k : Below w.heap.size w w') : Six w' b o x := by
  obtain ⟨h0, h1, h2, h3, h4, h5⟩ := h
  exact ⟨(k.cell (p := ⟨b, o, none⟩) hb).trans h0, (k.cell (p := ⟨b, o + 1, none⟩) hb).trans h1, (k.cell (p := ⟨b, o + 2, none⟩) hb).trans h2, (k.cell (p := ⟨b, o + 3, none⟩) hb).trans h3, (k.cell (p := ⟨b, o + 4, none⟩) hb).trans h4, (k.cell (p := ⟨b, o + 5, none⟩) hb).trans h5⟩
theorem Rcs.below {w w' : World} {a : Option Addr} {l : List RI} (h : Rcs w a l) (k : Below w.heap.size w w') : Rcs w' a l := by
  refine ⟨fun x hx => (h.1 x hx).below k, ?_⟩
  rcases h.2 with h | ⟨b, off, h1, h2, h3⟩
  · exact Or.inl h
  · exact Or.inr ⟨b, off, h1, Nat.lt_of_lt_of_le h2 k.size, fun j hj => (h3 j hj).below h2 k⟩
theorem riD_mem {l : List RI} {j : Nat} (h : j < l.length) : l.getD j dri ∈ l := by
  rw [List.getD_eq_getElem?_getD, List.getElem?_eq_getElem h, Option.getD_some]
  exact List.getElem_mem h
/-- The forms one behind the other. -/
def bdy (first : Int) : Nat → List Rec → List Nat
  | _, [] => []
  | n, r :: l => fm (r.t - first) n r ++ bdy first (n + 1) l
theorem bdy_app (first : Int) (l m : List Rec) : ∀ n, bdy first n (l ++ m) = bdy first n l ++ bdy first (n + l.length) m := by
  induction l with
  | nil => intro n; simp [bdy]
  | cons r l ih => intro n; rw [List.cons_append, bdy, ih, bdy, List.append_assoc, List.length_cons, show n + 1 + l.length = n + (l.length + 1) by omega]
theorem bdy_snoc (first : Int) (l : List Rec) (r : Rec) : bdy first 0 (l ++ [r]) = bdy first 0 l ++ fm (r.t - first) l.length r := by
  rw [bdy_app]; simp [bdy]
theorem take_getD {l : List RI} {j : Nat} (h : j < l.length) : l.take (j + 1) = l.take j ++ [l.getD j dri] := by
  rw [List.getD_eq_getElem?_getD, List.getElem?_eq_getElem h, Option.getD_some, List.take_succ_eq_append_getElem h]
theorem bdy_take (first : Int) {l : List RI} {j : Nat} (h : j < l.length) : bdy first 0 ((l.take (j + 1)).map RI.r) = bdy first 0 ((l.take j).map RI.r) ++ fm ((l.getD j dri).r.t - first) j (l.getD j dri).r := by
  rw [take_getD h, List.map_append]
  have e : ((l.take j).map RI.r).length = j := by rw [List.length_map, List.length_take]; omega
  rw [show [l.getD j dri].map RI.r = [(l.getD j dri).r] from rfl, bdy_snoc, e]
/-- What is read of the first j records. -/
def run (s : ByteArray) (first : Int) : Nat → Except Nat (List Rec × Nat)
  | 0 => .ok ([], 0)
  | j + 1 => match run s first j with
    | .error e => .error e
    | .ok (l, k) => match nxt s k first j with
      | .error e => .error e
      | .ok (r, k') => if j = 0 ∧ r.t ≠ first then .error 27 else .ok (l ++ [r], k')
end Go.Proofs.Ytlbkkeoffeohnab
