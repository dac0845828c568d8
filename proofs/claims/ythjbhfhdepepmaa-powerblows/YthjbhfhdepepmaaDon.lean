/- 'done': one call upon files, through the interface. -/
import Derived.Test.YthjbhfhdepepmaaDfx
namespace Go.Proofs.Ythjbhfhdepepmaa
open Go.RowKit
structure Op5 where
  k : Int
  nm : ByteArray
  a : Int
  b : Int
  s : ByteArray
def opV (o : Op5) : Value := .agg #[.int .i64 o.k, .string o.nm, .int .i64 o.a, .int .i64 o.b, .string o.s]
def facV (d : Nat) : Value := .iface 33 (.pointer (some ⟨d, 0, none⟩))
def dnS (o : Op5) (V : Vw) : ByteArray := if o.k = 7 then rdS (vl o.nm V) o.a o.b else ⟨#[]⟩
def dnN (o : Op5) (rm : Nat) (V : Vw) : Nat := if o.k = 2 then apN (vl o.nm V) rm (vt V) o.s else if o.k = 1 ∨ o.k = 3 ∨ o.k = 4 ∨ o.k = 5 ∨ o.k = 7 then 0 else szN (vl o.nm V)
def dnE (o : Op5) (rm : Nat) (V : Vw) : Nat := if o.k = 1 then crE o.nm V else if o.k = 2 then apE (vl o.nm V) rm (vt V) o.s else if o.k = 3 then cuE (vl o.nm V) o.a else if o.k = 7 then rdE (vl o.nm V) o.a o.b else noE (vl o.nm V)
def dnV (o : Op5) (rm : Nat) (V : Vw) : Vw := if o.k = 1 then crV o.nm V else if o.k = 2 then apV o.nm rm o.s V else if o.k = 3 then cuV o.nm o.a V else if o.k = 4 then synV o.nm V else if o.k = 5 then vdel o.nm V else V
def dnC (o : Op5) (V : Vw) (cl : Int) : Int := if o.k = 7 then rdC (vl o.nm V) o.a o.b cl else cl
def dnB (o : Op5) (V : Vw) (cb : Int) : Int := if o.k = 7 then rdB (vl o.nm V) o.a o.b cb else cb
theorem Aft.same {w : World} {d : Nat} {ft : Nat → Prop} {rm : Nat} {cl cb : Int} {V : Vw} (h : Ds w d ft rm cl cb V) (k : Nat) : Aft w ft d rm cl cb V (w.drewN k) := ⟨ft, h.drewN k, (Ch.refl _ w).drewN k, fun _ hi => Or.inl hi⟩
theorem Aft.drewN {w w' : World} {d : Nat} {ft : Nat → Prop} {rm : Nat} {cl cb : Int} {V : Vw} (h : Aft w ft d rm cl cb V w') (k : Nat) : Aft w ft d rm cl cb V (w'.drewN k) := by
  obtain ⟨ft', k1, k2, k3⟩ := h
  exact ⟨ft', k1.drewN k, k2.drewN k, k3⟩
theorem mth_Create (v : Option Addr) (w : World) : (method 266 33 (.pointer v) "Create").run Try.prog w = .ok (28, .pointer v) w := by kernel_rfl
theorem mth_Append (v : Option Addr) (w : World) : (method 266 33 (.pointer v) "Append").run Try.prog w = .ok (30, .pointer v) w := by kernel_rfl
theorem mth_Cut (v : Option Addr) (w : World) : (method 266 33 (.pointer v) "Cut").run Try.prog w = .ok (78, .pointer v) w := by kernel_rfl
theorem mth_Sync (v : Option Addr) (w : World) : (method 266 33 (.pointer v) "Sync").run Try.prog w = .ok (45, .pointer v) w := by kernel_rfl
theorem mth_Remove (v : Option Addr) (w : World) : (method 266 33 (.pointer v) "Remove").run Try.prog w = .ok (77, .pointer v) w := by kernel_rfl
theorem mth_Read (v : Option Addr) (w : World) : (method 266 33 (.pointer v) "Read").run Try.prog w = .ok (37, .pointer v) w := by kernel_rfl
theorem mth_Size (v : Option Addr) (w : World) : (method 266 33 (.pointer v) "Size").run Try.prog w = .ok (36, .pointer v) w := by kernel_rfl
theorem mth_List (v : Option Addr) (w : World) : (method 266 33 (.pointer v) "List").run Try.prog w = .ok (39, .pointer v) w := by kernel_rfl
theorem Ds.alloc {w : World} {d : Nat} {ft : Nat → Prop} {rm : Nat} {cl cb : Int} {V : Vw} (h : Ds w d ft rm cl cb V) (o : Obj) : Ds (w.alloc o) d ft rm cl cb V := h.ch ((Ch.refl (fun _ => False) w).alloc o) (fun _ _ e => e)
theorem Aft.after {w w1 w' : World} {d : Nat} {ft : Nat → Prop} {rm : Nat} {cl cb : Int} {V : Vw} (h : Aft w1 ft d rm cl cb V w') (hc : Ch ft w w1) : Aft w ft d rm cl cb V w' := by
  obtain ⟨ft', k1, k2, k3⟩ := h
  refine ⟨ft', k1, hc.trans k2, fun i hi => ?_⟩
  rcases k3 i hi with k | k
  · exact Or.inl k
  · have := hc.size
    exact Or.inr (by omega)
end Go.Proofs.Ythjbhfhdepepmaa
