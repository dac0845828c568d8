import Derived.Test.YtlbkkeoffeohnabRecM
/- Plain facts on records: their form, what is read of some bytes, and that only the form is read. -/
namespace Go.Proofs.Ytlbkkeoffeohnab
open Go.RowKit
abbrev Hdr := ByteArray × Bool × ByteArray
structure Rec where
  t : Int
  kh : Bool
  kd : ByteArray
  vh : Bool
  vd : ByteArray
  hs : List Hdr
def I64 (x : Int) : Prop := -9223372036854775808 ≤ x ∧ x ≤ 9223372036854775807
instance (x : Int) : Decidable (I64 x) := by unfold I64; infer_instance
def hl1 (x : Hdr) : List Nat := tx x.1 ++ ol x.2.1 x.2.2
def hl (hs : List Hdr) : List Nat := hs.flatMap hl1
/-- A form's own bytes. -/
def own (d : Int) (n : Nat) (r : Rec) : List Nat := [0] ++ (M.form (M.zz d).toNat ++ (M.form n ++ (ol r.kh r.kd ++ (ol r.vh r.vd ++ (M.form r.hs.length ++ hl r.hs)))))
/-- The form. -/
def fm (d : Int) (n : Nat) (r : Rec) : List Nat := M.form (own d n r).length ++ own d n r
variable {α : Type}
/-- Put ahead. -/
def pre (l : List Hdr) : Except Nat (List Hdr × Nat) → Except Nat (List Hdr × Nat)
  | .error e => .error e
  | .ok (m, k) => .ok (l ++ m, k)
/-- c headers. -/
def hdq (p : ByteArray) : Nat → Nat → Except Nat (List Hdr × Nat)
  | 0, k => .ok ([], k)
  | c + 1, k => if (tq MX p k 0).2.2 ≠ 0 then .error (tq MX p k 0).2.2 else if (oq MX p (tq MX p k 0).2.1 0).2.2.2 ≠ 0 then .error (oq MX p (tq MX p k 0).2.1 0).2.2.2 else pre [((tq MX p k 0).1, (oq MX p (tq MX p k 0).2.1 0).1, (oq MX p (tq MX p k 0).2.1 0).2.1)] (hdq p c (oq MX p (tq MX p k 0).2.1 0).2.2.1)
def r7 (p : ByteArray) (t : Int) (kh : Bool) (kd : ByteArray) (vh : Bool) (vd : ByteArray) (c k : Nat) : Except Nat Rec := match hdq p c k with
  | .error e => .error e
  | .ok (hs, k') => if k' < p.size then .error 26 else .ok ⟨t, kh, kd, vh, vd, hs⟩
def r6 (p : ByteArray) (t : Int) (kh : Bool) (kd : ByteArray) (vh : Bool) (vd : ByteArray) (k : Nat) : Except Nat Rec := if (uq p k 0).2.2 ≠ 0 then .error (uq p k 0).2.2 else (fun c k => if 1024 < c then .error 5 else r7 p t kh kd vh vd c k) (uq p k 0).1 (uq p k 0).2.1
def r5 (p : ByteArray) (t : Int) (kh : Bool) (kd : ByteArray) (k : Nat) : Except Nat Rec := if (oq MX p k 0).2.2.2 ≠ 0 then .error (oq MX p k 0).2.2.2 else (fun b d k => r6 p t kh kd b d k) (oq MX p k 0).1 (oq MX p k 0).2.1 (oq MX p k 0).2.2.1
def r4 (p : ByteArray) (t : Int) (k : Nat) : Except Nat Rec := if (oq MX p k 0).2.2.2 ≠ 0 then .error (oq MX p k 0).2.2.2 else (fun b d k => r5 p t b d k) (oq MX p k 0).1 (oq MX p k 0).2.1 (oq MX p k 0).2.2.1
def r3 (p : ByteArray) (t : Int) (n k : Nat) : Except Nat Rec := if (uq p k 0).2.2 ≠ 0 then .error (uq p k 0).2.2 else (fun c k => if c ≠ n then .error 27 else r4 p t k) (uq p k 0).1 (uq p k 0).2.1
def r2 (p : ByteArray) (first : Int) (n k : Nat) : Except Nat Rec := if (vq p k 0).2.2 ≠ 0 then .error (vq p k 0).2.2 else (fun d k => if ¬ I64 (first + d) then .error 27 else r3 p (first + d) n k) (vq p k 0).1 (vq p k 0).2.1
/-- What is read of a form's own bytes. -/
def r1 (p : ByteArray) (first : Int) (n : Nat) : Except Nat Rec := if (fx 1 p 0 0).2.2 ≠ 0 then .error (fx 1 p 0 0).2.2 else (fun a k => if a ≠ 0 then .error 26 else r2 p first n k) (fx 1 p 0 0).1 (fx 1 p 0 0).2.1
def nx2 (s : ByteArray) (k : Nat) (first : Int) (n L k1 : Nat) : Except Nat (Rec × Nat) := if s.size < k1 + L then .error 21 else match r1 (s.extract k1 (k1 + L)) first n with
  | .error e => .error e
  | .ok r => if 16777216 < k1 + L - k then .error 66 else .ok (r, k1 + L)
/-- What is read of s from k on as record number n: the record, and where the next begins. -/
def nxt (s : ByteArray) (k : Nat) (first : Int) (n : Nat) : Except Nat (Rec × Nat) := if (uq s k 0).2.2 ≠ 0 then .error (uq s k 0).2.2 else nx2 s k first n (uq s k 0).1 (uq s k 0).2.1
end Go.Proofs.Ytlbkkeoffeohnab
