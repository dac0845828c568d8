/- What the walk of VarintPuts wants: a copy of a slice that came in; contracts that carry what was there before. -/
import Derived.Test.YtkaoipckjilnbaaAllW
import Derived.Laws.AppendOwnNone
namespace Go.Proofs.Ytkaoipckjilnbaa
open Go.RowKit
theorem vals_ownk {base n : Nat} {e : TypeId} {k : IntKind} {w : World} {v : Value} {zs : List Int} (h : w.ownsRow base e 1 v n (zs.map (Value.int k))) : ∃ a cap, v = .slice a zs.length cap ∧ Vals k w a zs := by
  have hlt := h.lt
  have hcell := fun (g : Nat) (hg : v.ownBlock = some g) => h.cells hg
  obtain ⟨h1, h2⟩ := h
  rw [List.length_map, Nat.mul_one] at h1
  rcases h2 with ⟨rfl, h0⟩ | ⟨g, cap, cur, rfl, hg, hh, r⟩
  · have : zs = [] := List.eq_nil_of_length_eq_zero (by omega)
    subst this
    exact ⟨none, 0, rfl, Or.inl rfl⟩
  · refine ⟨some ⟨g, 0, none⟩, cap, by rw [h1], Or.inr ⟨g, 0, rfl, (hlt g rfl).2, fun j hj => ?_⟩⟩
    have := hcell g rfl j (.int k (zs.getD j 0)) (by simp [List.getD_eq_getElem?_getD, hj])
    rw [← Go.WideShapes.add_plain]
    exact this
/-- 'append([]T{}, values...)': the numbers once more, in new memory. -/
theorem wpList_copy_vals {P : Program} {w : World} {ops : Array Oper} {rest : List Oper} {o : Oper} {a : Act} {Q : Exit → Act → World → Prop} (hw : Region.wanted o (yielded ops a.tmps) = true) (s x : Operand) (t : TypeId)
    (ho : o.op = .call { callee := .builtin .append, args := #[s, x], argTypes := #[t, t] })
    (e : TypeId) (i : TypeInfo) (z : Value) (bytes : Nat) (k : IntKind) (ht : P.underlying t = some (.slice e)) (hi : P.info? e = some i) (hz : i.zero = some z)
    (hsize : i.size = 1) (hby : i.bytes = bytes) (hzs : z.cells.size = 1)
    (g0 : Nat) (hs : a.eval s = .slice (some ⟨g0, 0, none⟩) 0 0) (hg0 : w.heap[g0]? = some (.cells #[] e (0, 0))) (w0 : World) (hb : Below w0.heap.size w0 w) (hge : w0.heap.size ≤ g0)
    (ao : Option Addr) (zs : List Int) (c : Nat) (hx : a.eval x = .slice ao zs.length c) (hv : Vals k w0 ao zs) (hnil : ao = none → c = 0) (h63 : zs.length ≤ maxLen) (hbytes : zs.length * bytes ≤ 140737488355328)
    (h : ∀ a' c' w', Vals k w' a' zs → Below w0.heap.size w0 w' → wpList P ops Q rest (a.put o.dst (.slice a' zs.length c')) w') : wpList P ops Q (o :: rest) a w := by
  have hown : w.ownsRow w0.heap.size e 1 (.slice (some ⟨g0, 0, none⟩) 0 0) 0 [] := ⟨rfl, Or.inr ⟨g0, 0, #[], rfl, hge, hg0, by omega, by unfold maxLen; omega, rfl, rfl⟩⟩
  have hvw := vals_below hv hb
  refine BigFrame.wpList_want hw fun K hK => ?_
  cases ao with
  | none =>
    have h0 : zs = [] := by
      rcases hv with h | ⟨_, _, e1, _⟩
      · exact h
      · cases e1
    subst h0
    have hc := hnil rfl
    subst hc
    have hx' : a.eval x = .slice none 0 0 := hx
    have hrun := run_append_owned_none (P := P) (w := w) w0.heap.size t o.type e i 1 ht hi _ 0 [] hown
    unfold Oper.wp
    simp [execOp, ho, resolve, invoke, builtin, hs, hx', hrun, Result.andThen]
    exact hK _ _ (h (some ⟨g0, 0, none⟩) 0 w (Or.inl rfl) hb)
  | some ad =>
    refine wp_append_own w s x t ho w0.heap.size e i z 1 bytes ht hi hz hsize hby hzs (by decide) _ 0 [] hs hown ad zs.length c (zs.map (Value.int k)) hx (by simp) ?_ ?_ (by omega) (by simpa using hbytes) hb.size ?_
    · intro j u hj
      rcases hvw with h | ⟨b, off, e1, hlt, hc⟩
      · subst h; simp at hj
      · injection e1 with e1
        subst e1
        have hj2 : j < zs.length := by have := (List.getElem?_eq_some_iff.1 hj).1; simpa using this
        have h3 := hc j hj2
        rw [Go.WideShapes.add_plain, h3]
        simpa [List.getD_eq_getElem?_getD, hj2] using hj
    · intro u hu
      simp only [List.mem_map] at hu
      obtain ⟨y, _, rfl⟩ := hu
      rfl
    · intro v' w' hown' hgrow _
      rw [Nat.zero_add, List.nil_append] at hown'
      obtain ⟨a', c', rfl, V'⟩ := vals_ownk hown'
      exact hK _ _ (h a' c' w' V' (hb.grown hgrow hb.size (fun k hk => by
        have : g0 = k := by simpa [Value.ownBlock] using hk
        omega)))
theorem bel_two {w0 w w' : World} (hb : Below w0.heap.size w0 w) (h : Below w.heap.size w w') : Below w0.heap.size w0 w' := hb.trans (h.mono hb.size)
theorem fixedS (w0 w : World) (hb : Below w0.heap.size w0 w) : Calls Try.prog 9 #[] w fun e w' => e = .returned (.bool true) ∧ Below w0.heap.size w0 w' :=
  (fixed_any w).mono fun _ _ ⟨h1, h2⟩ => ⟨h1, bel_two hb h2⟩
theorem putS (a : Option Addr) (cap : Nat) (zs : List Int) (w0 w : World) (hz : ∀ z ∈ zs, 0 ≤ z ∧ z ≤ 18446744073709551615) (hl : zs.length ≤ 9223372036854775807) (hT : (forms zs).length ≤ 140737488355000) (hv : Vals .u64 w a zs) (hb : Below w0.heap.size w0 w) :
    Calls Try.prog 12 #[.slice a zs.length cap] w fun e w' => e = .returned (.string (bs (forms zs))) ∧ Below w0.heap.size w0 w' :=
  (put_any a cap zs w hz hl hT hv).mono fun _ _ ⟨h1, h2⟩ => ⟨h1, bel_two hb h2⟩
theorem sputS (a : Option Addr) (cap : Nat) (zs : List Int) (w0 w : World) (hz : ∀ z ∈ zs, -9223372036854775808 ≤ z ∧ z ≤ 9223372036854775807) (hl : zs.length ≤ 9223372036854775807) (hT : (forms (zzs zs)).length ≤ 140737488355000) (hv : Vals .i64 w a zs) (hb : Below w0.heap.size w0 w) :
    Calls Try.prog 14 #[.slice a zs.length cap] w fun e w' => e = .returned (.string (bs (forms (zzs zs)))) ∧ Below w0.heap.size w0 w' :=
  (sput_any a cap zs w hz hl hT hv).mono fun _ _ ⟨h1, h2⟩ => ⟨h1, bel_two hb h2⟩
theorem rputS (a : Option Addr) (cap : Nat) (zs : List Int) (w0 w : World) (hz : ∀ z ∈ zs, 0 ≤ z ∧ z ≤ 18446744073709551615) (hl : zs.length ≤ 9223372036854775807) (hT : (forms zs).length ≤ 140737488355000) (hv : Vals .u64 w0 a zs) (hb : Below w0.heap.size w0 w) :
    Calls Try.prog 13 #[.slice a zs.length cap] w fun e w' => e = .returned (.string (bs (forms zs))) ∧ Below w0.heap.size w0 w' :=
  (rput_any a cap zs w hz hl hT (vals_below hv hb)).mono fun _ _ ⟨h1, h2⟩ => ⟨h1, bel_two hb h2⟩
theorem rsputS (a : Option Addr) (cap : Nat) (zs : List Int) (w0 w : World) (hz : ∀ z ∈ zs, -9223372036854775808 ≤ z ∧ z ≤ 9223372036854775807) (hl : zs.length ≤ 10000000000000) (hT : (forms (zzs zs)).length ≤ 140737488355000) (hv : Vals .i64 w0 a zs) (hb : Below w0.heap.size w0 w) :
    Calls Try.prog 15 #[.slice a zs.length cap] w fun e w' => e = .returned (.string (bs (forms (zzs zs)))) ∧ Below w0.heap.size w0 w' :=
  (rsput_any a cap zs w hz hl hT (vals_below hv hb)).mono fun _ _ ⟨h1, h2⟩ => ⟨h1, bel_two hb h2⟩
theorem put8S (w0 w : World) (hb : Below w0.heap.size w0 w) : Calls Try.prog 16 #[.slice none 0 0] w fun e w' => e = .returned (.string ⟨#[]⟩) ∧ Below w0.heap.size w0 w' :=
  (put8_any none 0 [] w (by simp) (by simp) (by simp [forms]) (Or.inl rfl)).mono fun _ _ ⟨h1, h2⟩ => ⟨h1, bel_two hb h2⟩
/-- The document's Put of one number, laid in new memory. -/
theorem rput1 (z : Int) (w0 w : World) (h0 : 0 ≤ z) (h1 : z ≤ 18446744073709551615) (hb : Below w0.heap.size w0 w) :
    Calls Try.prog 13 #[.slice (some ⟨w.heap.size, 0, none⟩) 1 1] (w.alloc (.cells #[.int .u64 z] 29)) fun e w' => e = .returned (.string (bs (M.form z.toNat))) ∧ Below w0.heap.size w0 w' := by
  have h := rput_any (some ⟨w.heap.size, 0, none⟩) 1 [z] (w.alloc (.cells #[.int .u64 z] 29)) (by intro y hy; rw [List.mem_singleton] at hy; subst hy; exact ⟨h0, h1⟩) (by simp) (by rw [forms_one]; have := M.form_le z.toNat; omega) (vals_one .u64 z 29 w)
  rw [forms_one] at h
  exact h.mono fun e w' ⟨h1, h2⟩ => ⟨h1, since_alloc hb h2⟩
/-- The document's Put of one number that lies in a slice that came in. -/
theorem rputAt (b off cap : Nat) (z : Int) (w0 w : World) (h0 : 0 ≤ z) (h1 : z ≤ 18446744073709551615) (hb : Below w0.heap.size w0 w) (hlt : b < w0.heap.size) (hc : w0.cell? ⟨b, off, none⟩ = some (.int .u64 z)) :
    Calls Try.prog 13 #[.slice (some ⟨b, off, none⟩) 1 cap] w fun e w' => e = .returned (.string (bs (M.form z.toNat))) ∧ Below w0.heap.size w0 w' := by
  have h := rputS (some ⟨b, off, none⟩) cap [z] w0 w (by intro y hy; rw [List.mem_singleton] at hy; subst hy; exact ⟨h0, h1⟩) (by simp) (by rw [forms_one]; have := M.form_le z.toNat; omega) (Or.inr ⟨b, off, rfl, hlt, fun j hj => by
    match j, hj with
    | 0, _ => simpa using hc⟩) hb
  rw [forms_one] at h
  exact h
end Go.Proofs.Ytkaoipckjilnbaa
