/- 'done': one call upon files, through the interface. -/
import Derived.Test.YtclelafnjfhdjaaDfx
namespace Go.Proofs.Ytclelafnjfhdjaa
open Go.RowKit
structure Op5 where
  k : Int
  nm : ByteArray
  a : Int
  b : Int
  s : ByteArray
def opV (o : Op5) : Value := .agg #[.int .i64 o.k, .string o.nm, .int .i64 o.a, .int .i64 o.b, .string o.s]
def facV (d : Nat) : Value := .iface 24 (.pointer (some ⟨d, 0, none⟩))
def dnS (o : Op5) (V : Vw) : ByteArray := if o.k = 7 then rdS (vl o.nm V) o.a o.b else ⟨#[]⟩
def dnN (o : Op5) (rm : Nat) (V : Vw) : Nat := if o.k = 2 then apN (vl o.nm V) rm (vt V) o.s else if o.k = 1 ∨ o.k = 3 ∨ o.k = 4 ∨ o.k = 5 ∨ o.k = 7 then 0 else szN (vl o.nm V)
def dnE (o : Op5) (rm : Nat) (V : Vw) : Nat := if o.k = 1 then crE o.nm V else if o.k = 2 then apE (vl o.nm V) rm (vt V) o.s else if o.k = 3 then cuE (vl o.nm V) o.a else if o.k = 7 then rdE (vl o.nm V) o.a o.b else noE (vl o.nm V)
def dnV (o : Op5) (rm : Nat) (V : Vw) : Vw := if o.k = 1 then crV o.nm V else if o.k = 2 then apV o.nm rm o.s V else if o.k = 3 then cuV o.nm o.a V else if o.k = 4 then synV o.nm V else if o.k = 5 then vdel o.nm V else V
def dnC (o : Op5) (V : Vw) (cl : Int) : Int := if o.k = 7 then rdC (vl o.nm V) o.a o.b cl else cl
def dnB (o : Op5) (V : Vw) (cb : Int) : Int := if o.k = 7 then rdB (vl o.nm V) o.a o.b cb else cb
theorem Aft.same {w : World} {d : Nat} {ft : Nat → Prop} {rm : Nat} {cl cb : Int} {V : Vw} (h : Ds w d ft rm cl cb V) (k : Nat) : Aft w ft d rm cl cb V (w.drewN k) := ⟨ft, h.drewN k, (Ch.refl _ w).drewN k, fun _ hi => Or.inl hi⟩
theorem Aft.drewN {w w' : World} {d : Nat} {ft : Nat → Prop} {rm : Nat} {cl cb : Int} {V : Vw} (h : Aft w ft d rm cl cb V w') (k : Nat) : Aft w ft d rm cl cb V (w'.drewN k) := by
  obtain ⟨ft', k1, k2, k3⟩ := h
  exact ⟨ft', k1.drewN k, k2.drewN k, k3⟩
theorem mth_Create (v : Option Addr) (w : World) : (method 229 24 (.pointer v) "Create").run Try.prog w = .ok (22, .pointer v) w := by kernel_rfl
theorem mth_Append (v : Option Addr) (w : World) : (method 229 24 (.pointer v) "Append").run Try.prog w = .ok (23, .pointer v) w := by kernel_rfl
theorem mth_Cut (v : Option Addr) (w : World) : (method 229 24 (.pointer v) "Cut").run Try.prog w = .ok (35, .pointer v) w := by kernel_rfl
theorem mth_Sync (v : Option Addr) (w : World) : (method 229 24 (.pointer v) "Sync").run Try.prog w = .ok (37, .pointer v) w := by kernel_rfl
theorem mth_Remove (v : Option Addr) (w : World) : (method 229 24 (.pointer v) "Remove").run Try.prog w = .ok (39, .pointer v) w := by kernel_rfl
theorem mth_Read (v : Option Addr) (w : World) : (method 229 24 (.pointer v) "Read").run Try.prog w = .ok (24, .pointer v) w := by kernel_rfl
theorem mth_Size (v : Option Addr) (w : World) : (method 229 24 (.pointer v) "Size").run Try.prog w = .ok (28, .pointer v) w := by kernel_rfl
theorem mth_List (v : Option Addr) (w : World) : (method 229 24 (.pointer v) "List").run Try.prog w = .ok (15, .pointer v) w := by kernel_rfl
theorem Ds.alloc {w : World} {d : Nat} {ft : Nat → Prop} {rm : Nat} {cl cb : Int} {V : Vw} (h : Ds w d ft rm cl cb V) (o : Obj) : Ds (w.alloc o) d ft rm cl cb V := h.ch ((Ch.refl (fun _ => False) w).alloc o) (fun _ _ e => e)
theorem Aft.after {w w1 w' : World} {d : Nat} {ft : Nat → Prop} {rm : Nat} {cl cb : Int} {V : Vw} (h : Aft w1 ft d rm cl cb V w') (hc : Ch ft w w1) : Aft w ft d rm cl cb V w' := by
  obtain ⟨ft', k1, k2, k3⟩ := h
  refine ⟨ft', k1, hc.trans k2, fun i hi => ?_⟩
  rcases k3 i hi with k | k
  · exact Or.inl k
  · have := hc.size
    exact Or.inr (by omega)
set_option maxHeartbeats 2000000 in
set_option maxRecDepth 20000 in
theorem done_any (d : Nat) (ft : Nat → Prop) (rm : Nat) (cl cb : Int) (V : Vw) (o : Op5) (hn : o.nm.size ≤ maxLen) (ha : o.a ≤ 9223372036854775807) (w : World) (h : Ds w d ft rm cl cb V) :
    Calls Try.prog 14 #[facV d, opV o] w fun e w' => e = .returned (.tuple #[.string (dnS o V), .int .i64 (dnN o rm V), .int .i64 (dnE o rm V)]) ∧ Aft w ft d rm (dnC o V cl) (dnB o V cb) (dnV o rm V) w' := by
  obtain ⟨k, nm, a, b, s⟩ := o
  simp only [facV, opV, dnS, dnN, dnE, dnV, dnC, dnB]
  simp only at hn ha
  have hA := h.alloc (.cells #[.int .i64 k, .string nm, .int .i64 a, .int .i64 b, .string s] 31)
  have HW : Hid (Ch ft w (w.alloc (.cells #[.int .i64 k, .string nm, .int .i64 a, .int .i64 b, .string s] 31))) := (Ch.refl ft w).alloc _
  by_cases h1 : k = 1
  · subst h1
    have HC := Hid.mk (s_create d ft rm cl cb V nm _ hA hn)
    have hm := mth_Create (some ⟨d, 0, none⟩)
    clear h hn ha hA
    simp (config := {decide := true}) only [if_true, if_false]
    go_enter Try.func14, Try.ntmps14
    go_wp2_with (first | (go_at_call 22; refine HC.out.mono ?_; rintro e w1 ⟨rfl, hq⟩; have HQ := Hid.mk hq; clear hq))
    go_ret3
    exact ⟨rfl, HQ.out.after HW.out⟩
  by_cases h2 : k = 2
  · subst h2
    have HC := Hid.mk (s_append d ft rm cl cb V nm _ hA s hn)
    have hm := mth_Append (some ⟨d, 0, none⟩)
    clear h hn ha hA
    simp (config := {decide := true}) only [if_true, if_false]
    go_enter Try.func14, Try.ntmps14
    go_wp2_with (first | (go_at_call 23; refine HC.out.mono ?_; rintro e w1 ⟨rfl, hq⟩; have HQ := Hid.mk hq; clear hq))
    go_ret3
    exact ⟨rfl, HQ.out.after HW.out⟩
  by_cases h3 : k = 3
  · subst h3
    have HC := Hid.mk (s_cut d ft rm cl cb V nm _ hA a hn)
    have hm := mth_Cut (some ⟨d, 0, none⟩)
    clear h hn ha hA
    simp (config := {decide := true}) only [if_true, if_false]
    go_enter Try.func14, Try.ntmps14
    go_wp2_with (first | (go_at_call 35; refine HC.out.mono ?_; rintro e w1 ⟨rfl, hq⟩; have HQ := Hid.mk hq; clear hq))
    go_ret3
    exact ⟨rfl, HQ.out.after HW.out⟩
  by_cases h4 : k = 4
  · subst h4
    have HC := Hid.mk (s_sync d ft rm cl cb V nm _ hA hn)
    have hm := mth_Sync (some ⟨d, 0, none⟩)
    clear h hn ha hA
    simp (config := {decide := true}) only [if_true, if_false]
    go_enter Try.func14, Try.ntmps14
    go_wp2_with (first | (go_at_call 37; refine HC.out.mono ?_; rintro e w1 ⟨rfl, hq⟩; have HQ := Hid.mk hq; clear hq))
    go_ret3
    exact ⟨rfl, HQ.out.after HW.out⟩
  by_cases h5 : k = 5
  · subst h5
    have HC := Hid.mk (s_remove d ft rm cl cb V nm _ hA hn)
    have hm := mth_Remove (some ⟨d, 0, none⟩)
    clear h hn ha hA
    simp (config := {decide := true}) only [if_true, if_false]
    go_enter Try.func14, Try.ntmps14
    go_wp2_with (first | (go_at_call 39; refine HC.out.mono ?_; rintro e w1 ⟨rfl, hq⟩; have HQ := Hid.mk hq; clear hq))
    go_ret3
    exact ⟨rfl, HQ.out.after HW.out⟩
  by_cases h7 : k = 7
  · subst h7
    have HC := Hid.mk (s_read d ft rm cl cb V nm _ hA a b hn ha)
    have hm := mth_Read (some ⟨d, 0, none⟩)
    clear h hn ha hA
    simp (config := {decide := true}) only [if_true, if_false]
    go_enter Try.func14, Try.ntmps14
    go_wp2_with (first | (go_at_call 24; refine HC.out.mono ?_; rintro e w1 ⟨rfl, hq⟩; have HQ := Hid.mk hq; clear hq))
    go_ret3
    exact ⟨rfl, HQ.out.after HW.out⟩
  have HC := Hid.mk (s_size d ft rm cl cb V nm _ hA hn)
  have HQ := Hid.mk (fun k => Aft.same hA k)
  have hm := mth_Size (some ⟨d, 0, none⟩)
  clear h hn ha hA
  simp only [h1, h2, h3, h4, h5, h7, if_false, false_or]
  go_enter Try.func14, Try.ntmps14
  go_wp2_with (first | (go_at_call 28; refine HC.out.mono ?_; rintro e w1 ⟨rfl, k1, rfl⟩))
  go_ret3
  exact ⟨rfl, (HQ.out k1).after HW.out⟩
end Go.Proofs.Ytclelafnjfhdjaa
