/- What a file's lay, cut and put leave. -/
import Derived.Test.YthjbhfhdepepmaaDfi
namespace Go.Proofs.Ythjbhfhdepepmaa
open Go.RowKit
/-- 'append(b, s...)', and where the new row lies. -/
theorem append_at {P : Program} (w : World) (base : Nat) (t u ty e : TypeId) (i : TypeInfo) (ht : P.underlying t = some (.slice e)) (hu : P.underlying u = some .string) (hi : P.info? e = some i) (hz : i.zero = some (.int .u8 0))
    (hsize : i.size = 1) (hby : i.bytes = 1) (v : Value) (n : Nat) (xs : List Value) (hown : w.ownsRow base e 1 v n xs) (s : ByteArray)
    (h63 : n + s.size ≤ maxLen) (hbytes : n + s.size ≤ 140737488355328) (hbase : base ≤ w.heap.size) :
    ∃ v' w', (Builtin.append_ #[t, u] ty #[v, .string s]).run P w = .ok v' w' ∧ w'.ownsRow base e 1 v' (n + s.size) (xs ++ Lib.strCells s) ∧ w.grownBy w' v.ownBlock ∧ (v'.ownBlock = v.ownBlock ∨ v'.ownBlock = some w.heap.size) := by
  obtain ⟨v', w', hr, h2, h3, h4⟩ := Lib.run_append_own_string (P := P) w base t u ty e i ht hu hi hz hsize hby v n xs hown s h63 hbytes hbase
  refine ⟨v', w', hr, h2, h3, ?_⟩
  have hsmall : n + s.size ≤ 9223372036854775807 := by simp only [maxLen] at h63; omega
  have hxl : xs.length = n := by simpa using hown.1
  rcases hown.2 with ⟨rfl, rfl⟩ | ⟨g, cap, cur, rfl, hbg, hg, hnc, hcm, hcs, htake⟩
  · by_cases hm : s.size = 0
    · rw [h4.2 ⟨rfl, hm⟩]; exact Or.inl rfl
    · have hr' := run_append_nil_string (P := P) w t u ty e i (.int .u8 0) ht hu hi hz s (by omega) (by omega) (by rw [hby]; omega)
      rw [hr'] at hr
      injection hr with hr _
      rw [← hr]; exact Or.inr rfl
  · by_cases hroom : n + s.size ≤ cap
    · have hcs' : cur.size = cap := by simpa using hcs
      have hr' := Lib.run_append_room_string (P := P) w t u ty e i ht hu hi hsize g n cap cur hg s hroom (by omega)
      rw [hr'] at hr
      injection hr with hr _
      rw [← hr]; exact Or.inl rfl
    · have holds : ∀ j u, xs[j]? = some u → w.cell? ((⟨g, 0, none⟩ : Addr).add j) = some u := hown.cells (g := g) rfl
      have hr' := Lib.run_append_grow_string (P := P) w t u ty e i (.int .u8 0) ht hu hi hz ⟨g, 0, none⟩ n cap xs (by rw [hsize]; simpa using hxl) holds s (by omega) (by omega) (by rw [hby]; exact growslice_fits (by omega) (by omega))
      rw [hr'] at hr
      injection hr with hr _
      rw [← hr]; exact Or.inr rfl
theorem wpList_append_at {P : Program} (w : World) {ops : Array Oper} {rest : List Oper} {o : Oper} {a : Act} {Q : Exit → Act → World → Prop} (hgd : o.guard = none) (sl x : Operand) (t u : TypeId)
    (ho : o.op = .call { callee := .builtin .append, args := #[sl, x], argTypes := #[t, u] })
    (base : Nat) (e : TypeId) (i : TypeInfo) (ht : P.underlying t = some (.slice e)) (hu : P.underlying u = some .string) (hi : P.info? e = some i) (hz : i.zero = some (.int .u8 0))
    (hsize : i.size = 1) (hby : i.bytes = 1)
    (v : Value) (n : Nat) (xs : List Value) (hs : a.eval sl = v) (hown : w.ownsRow base e 1 v n xs) (s : ByteArray) (hx : a.eval x = .string s)
    (h63 : n + s.size ≤ maxLen) (hbytes : n + s.size ≤ 140737488355328) (hbase : base ≤ w.heap.size)
    (h : ∀ v' w', w'.ownsRow base e 1 v' (n + s.size) (xs ++ Lib.strCells s) → w.grownBy w' v.ownBlock → (v'.ownBlock = v.ownBlock ∨ v'.ownBlock = some w.heap.size) → wpList P ops Q rest (a.put o.dst v') w') : wpList P ops Q (o :: rest) a w := by
  refine wpList_plain hgd fun K hK => ?_
  obtain ⟨v', w', hr, h2, h3, h4⟩ := append_at (P := P) w base t u o.type e i ht hu hi hz hsize hby v n xs hown s h63 hbytes hbase
  unfold Oper.wp execOp
  simp only [ho, resolve, invoke, builtin, Sem.run_bind, Sem.run_pure, Result.andThen_ok, List.map_toArray, List.map_cons, List.map_nil, hs, hx, hr]
  exact hK _ _ (h v' w' h2 h3 h4)
theorem own_form {w : World} {B n size : Nat} {e : TypeId} {v : Value} {l : List Value} (h : w.ownsRow B e size v n l) : ∃ a cap, v = .slice a n cap := by
  rcases h.2 with ⟨rfl, rfl⟩ | ⟨g, cap, cur, rfl, _⟩
  · exact ⟨_, _, rfl⟩
  · exact ⟨_, _, rfl⟩
/-- What a call upon one file turns: its block and its row. -/
def FS (f : Fl) : Nat → Prop := fun i => i = f.bk ∨ f.sl.ownBlock = some i
theorem own_setCell {w : World} {B n size : Nat} {e : TypeId} {v : Value} {l : List Value} {p : Addr} {u : Value} (h : w.ownsRow B e size v n l) (hp : v.ownBlock ≠ some p.block) : (w.setCell p u).ownsRow B e size v n l := by
  obtain ⟨h1, h2⟩ := h
  refine ⟨h1, ?_⟩
  rcases h2 with h2 | ⟨g, cap, cur, rfl, hg, hh, r⟩
  · exact Or.inl h2
  · exact Or.inr ⟨g, cap, cur, rfl, hg, heap_set_far hh (fun e => hp (by rw [← e]; rfl)), r⟩
theorem FA.row {w : World} {f : Fl} (h : FA w f) : f.sl.ownBlock ≠ some f.bk := by
  intro e
  obtain ⟨cur, hc⟩ := row_at h.2 e
  rw [h.1] at hc
  injection hc with hc
  injection hc with _ hc _
  exact absurd hc (by decide)
set_option maxHeartbeats 1000000 in
set_option maxRecDepth 20000 in
theorem lay_any (f : Fl) (s : ByteArray) (w : World) (h : FA w f) (hl : f.da.length + s.size ≤ 140737488355328) :
    Calls Try.prog 71 #[.pointer (some ⟨f.bk, 0, none⟩), .string s] w fun e w' => e = .returned (.tuple #[]) ∧ ∃ v, FA w' { f with sl := v, da := f.da ++ s.data.toList } ∧ Ch (FS f) w w' ∧ (v.ownBlock = f.sl.ownBlock ∨ v.ownBlock = some w.heap.size) := by
  obtain ⟨i0, hi, hz0, hz1, hz2⟩ := info_parts Try.info5
  have hrw := h.row
  obtain ⟨g, ho⟩ := h
  have c0 : w.cell? ⟨f.bk, 0, none⟩ = some f.sl := (cell_of g).trans rfl
  have HG := Hid.mk g
  clear g
  go_enter Try.func71, Try.ntmps71
  go_wp2_with (at_builtin; refine wpList_append_at _ rfl _ _ 81 9 rfl 0 5 i0 Try.underBytes Try.under9 hi hz0 hz1 hz2 _ _ _ rfl ho s rfl (by unfold maxLen; omega) hl (Nat.zero_le _) ?_)
  intro v' w1 hown hgrow hat
  obtain ⟨a', cap', rfl⟩ := own_form hown
  have hlt := lt_of_heap HG.out
  have g1 : w1.heap[f.bk]? = some (.cells #[f.sl, .int .i64 f.sy] 109 (0, 0)) := (hgrow.block f.bk hlt (fun e => hrw e.symm)).trans HG.out
  have d0 : w1.cell? ⟨f.bk, 0, none⟩ = some f.sl := (cell_of g1).trans rfl
  have e0 := froz_of (i := 0) g1
  have HG1 := Hid.mk g1
  have HO := Hid.mk hown
  have HW := Hid.mk hgrow
  clear g1 hown hgrow ho hl
  go_wp2
  go_end0
  refine ⟨rfl, _, ⟨heap_set HG1.out, ?_⟩, ?_, hat⟩
  · refine own_setCell ?_ ?_
    · show World.ownsRow _ _ _ _ _ (f.da ++ s.data.toList).length (Lib.byteCells (f.da ++ s.data.toList))
      have e1 : (f.da ++ s.data.toList).length = f.da.length + s.size := by rw [List.length_append, ← Lib.size_eq]
      rw [e1, Lib.byteCells_append]
      exact HO.out
    · rcases hat with h | h
      · rw [h]; exact hrw
      · rw [h]; intro e; injection e with e; simp only at e; omega
  · have hc : Ch (FS f) w w1 := ⟨HW.out.os, HW.out.tape, HW.out.output, HW.out.size, fun k hk hs => HW.out.block k hk (fun e => hs (Or.inr e.symm))⟩
    exact hc.setCell _ _ (fun _ => Or.inl rfl)
end Go.Proofs.Ythjbhfhdepepmaa
