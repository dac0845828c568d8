/- Rows of heads: where they lie, those of one's own; two that are the same. -/
import Derived.Test.YtolobmhbmajolaaPe2
import Derived.Deep.QuietTactic
import Derived.BigQuiet
import Derived.Laws.StructEq
namespace Go.Proofs.Ytolobmhbmajolaa
open Go.RowKit
/-- A head. -/
structure Hd where
  b : Int
  l : Int
  pk : Bool
  c : Int
  f : Int
  g : Int
  p : Int
  s : Int
def hd0 : Hd := ⟨0, 0, false, 0, 0, 0, 0, 0⟩
def hv (x : Hd) : List Value := [.int .i64 x.b, .int .i64 x.l, .bool x.pk, .int .i64 x.c, .int .i64 x.f, .int .i64 x.g, .int .i64 x.p, .int .i32 x.s]
def hvs (L : List Hd) : List Value := L.flatMap hv
theorem hv_len (x : Hd) : (hv x).length = 8 := rfl
theorem hvs_len (l : List Hd) : (hvs l).length = l.length * 8 := by
  induction l with
  | nil => rfl
  | cons r rs ih => simp only [hvs, List.flatMap_cons, List.length_append] at *; rw [ih, hv_len, List.length_cons]; omega
theorem hvs_app (a b : List Hd) : hvs (a ++ b) = hvs a ++ hvs b := by simp [hvs]
theorem hvs_snoc (a : List Hd) (x : Hd) : hvs (a ++ [x]) = hvs a ++ hv x := by simp [hvs]
theorem hvs_at {l : List Hd} {j k : Nat} (hj : j < l.length) (hk : k < 8) : (hvs l)[j * 8 + k]? = (hv (l.getD j hd0))[k]? := by
  have e : l = l.take j ++ l.getD j hd0 :: l.drop (j + 1) := by
    rw [List.getD_eq_getElem?_getD, List.getElem?_eq_getElem hj]
    simp
  have hl : (hvs (l.take j)).length = j * 8 := by rw [hvs_len, List.length_take]; congr 1; omega
  have e2 : hvs l = hvs (l.take j) ++ (hv (l.getD j hd0) ++ hvs (l.drop (j + 1))) := by
    conv => lhs; rw [e, hvs_app]
    rfl
  rw [e2, List.getElem?_append_right (by omega), hl, show j * 8 + k - j * 8 = k from by omega, List.getElem?_append_left (by show k < 8; exact hk)]
/-- The eight cells of a head. -/
def Eight (w : World) (b o : Nat) (x : Hd) : Prop := w.cell? ⟨b, o, none⟩ = some (.int .i64 x.b) ∧ w.cell? ⟨b, o + 1, none⟩ = some (.int .i64 x.l) ∧ w.cell? ⟨b, o + 2, none⟩ = some (.bool x.pk) ∧ w.cell? ⟨b, o + 3, none⟩ = some (.int .i64 x.c) ∧ w.cell? ⟨b, o + 4, none⟩ = some (.int .i64 x.f) ∧ w.cell? ⟨b, o + 5, none⟩ = some (.int .i64 x.g) ∧ w.cell? ⟨b, o + 6, none⟩ = some (.int .i64 x.p) ∧ w.cell? ⟨b, o + 7, none⟩ = some (.int .i32 x.s)
theorem Eight.keep {w w' : World} {b o : Nat} {x : Hd} (h : Eight w b o x) (k : w'.heap[b]? = w.heap[b]?) : Eight w' b o x := by
  have hc : ∀ o, w'.cell? ⟨b, o, none⟩ = w.cell? ⟨b, o, none⟩ := fun o => by simp [World.cell?, k]
  unfold Eight at *
  simp only [hc]
  exact h
/-- A row of heads where it lies. -/
def Hds (w : World) (a : Option Addr) (l : List Hd) : Prop := l = [] ∨ ∃ b off, a = some ⟨b, off, none⟩ ∧ b < w.heap.size ∧ ∀ j, j < l.length → Eight w b (off + j * 8) (l.getD j hd0)
theorem Hds.keep {w w' : World} {a : Option Addr} {l : List Hd} (h : Hds w a l) (hs : w.heap.size ≤ w'.heap.size) (hb : ∀ ad, a = some ad → ad.block < w.heap.size → w'.heap[ad.block]? = w.heap[ad.block]?) : Hds w' a l := by
  rcases h with h | ⟨b, off, rfl, h2, h3⟩
  · exact Or.inl h
  · exact Or.inr ⟨b, off, rfl, Nat.lt_of_lt_of_le h2 hs, fun j hj => (h3 j hj).keep (hb _ rfl h2)⟩
theorem Hds.below {w w' : World} {a : Option Addr} {l : List Hd} (h : Hds w a l) (hb : Below w.heap.size w w') : Hds w' a l := h.keep hb.size fun _ _ hlt => hb.block _ hlt
theorem Hds.nil (w : World) (a : Option Addr) : Hds w a [] := Or.inl rfl
/-- A row of heads of one's own. -/
def OwH (w : World) (B : Nat) (v : Value) (l : List Hd) : Prop := w.ownsRow B 29 8 v l.length (hvs l)
theorem OwH.keep {w w' : World} {B : Nat} {v : Value} {l : List Hd} (h : OwH w B v l) (hb : ∀ g, v.ownBlock = some g → g < w.heap.size → w'.heap[g]? = w.heap[g]?) : OwH w' B v l := by
  refine ⟨h.1, ?_⟩
  rcases h.2 with h2 | ⟨g, cap, cur, rfl, h3, h4, h5⟩
  · exact Or.inl h2
  · exact Or.inr ⟨g, cap, cur, rfl, h3, (hb g rfl (lt_of_heap h4)).trans h4, h5⟩
theorem OwH.below {w w' : World} {B : Nat} {v : Value} {l : List Hd} (h : OwH w B v l) (hb : Below w.heap.size w w') : OwH w' B v l := h.keep fun g _ hlt => hb.block g hlt
theorem OwH.base {w : World} {B C : Nat} {v : Value} {l : List Hd} (h : OwH w B v l) (hc : C ≤ B) : OwH w C v l := by
  refine ⟨h.1, ?_⟩
  rcases h.2 with h2 | ⟨g, cap, cur, rfl, h3, h4, h5⟩
  · exact Or.inl h2
  · exact Or.inr ⟨g, cap, cur, rfl, Nat.le_trans hc h3, h4, h5⟩
theorem OwH.hds {w : World} {B : Nat} {v : Value} {l : List Hd} (h : OwH w B v l) : ∃ a cap, v = .slice a l.length cap ∧ Hds w a l ∧ l.length ≤ cap ∧ cap ≤ maxLen := by
  have hr : w.ownsRow B 29 8 v l.length (hvs l) := h
  rcases h.2 with ⟨rfl, h2⟩ | ⟨g, cap, cur, rfl, h3, h4, h5⟩
  · exact ⟨none, 0, by rw [h2], Or.inl (List.eq_nil_of_length_eq_zero h2), by omega, by unfold maxLen; omega⟩
  · refine ⟨_, cap, rfl, Or.inr ⟨g, 0, rfl, lt_of_heap h4, fun j hj => ?_⟩, h5.1, h5.2.1⟩
    have c := fun k (hk : k < 8) => (hr.cellAt (j * 8 + k) (by omega)).trans (hvs_at hj hk)
    rw [Nat.zero_add]
    exact ⟨c 0 (by omega), c 1 (by omega), c 2 (by omega), c 3 (by omega), c 4 (by omega), c 5 (by omega), c 6 (by omega), c 7 (by omega)⟩
theorem OwH.nil (w : World) (B : Nat) : OwH w B (.slice none 0 0) [] := ⟨rfl, Or.inl ⟨rfl, rfl⟩⟩
theorem Try.hdStruct : Try.prog.underlying 29 = some (.struct (Try.prog.fieldsOf 29)) := by kernel_rfl
theorem Try.hdHeld : Try.prog.stoodInHeld 29 = false := by kernel_rfl
theorem Try.hdGuard : Try.prog.eqGuardType Try.prog.depth 29 = false := by kernel_rfl
theorem Try.infoH : (Try.prog.info? 29).map (fun i => (i.zero, i.size, i.bytes)) = some (some (.agg #[.int .i64 0, .int .i64 0, .bool false, .int .i64 0, .int .i64 0, .int .i64 0, .int .i64 0, .int .i32 0]), 8, 64) := by kernel_rfl
set_option maxRecDepth 20000 in
theorem neq_hd (b0 b1 : Int) (b2 : Bool) (b3 b4 b5 b6 b7 : Int) (w : World) : (binOp .neq 29 (.agg #[.int .i64 b0, .int .i64 b1, .bool b2, .int .i64 b3, .int .i64 b4, .int .i64 b5, .int .i64 b6, .int .i32 b7]) (.agg #[.int .i64 b0, .int .i64 b1, .bool b2, .int .i64 b3, .int .i64 b4, .int .i64 b5, .int .i64 b6, .int .i32 b7])).run Try.prog w = .ok (.bool false) w := by
  rw [run_neq_struct, run_equalIn_agg w 9999 _ _ _ Try.hdStruct Try.hdHeld]
  have hf : (Try.prog.fieldsOf 29) = (match Try.prog.underlying 29 with | some (.struct fs) => fs | _ => #[]) := rfl
  rw [hf, Try.underlying29]
  simp [go_sem, Op.eqFields, Try.underlying4, Try.underlying3, Try.underlying2, Try.underlying21]
theorem bel_drewN (w : World) (k : Nat) : Below w.heap.size w (w.drewN k) := ⟨rfl, rfl, rfl, Nat.le_refl _, fun _ _ => rfl⟩
set_option maxHeartbeats 2000000 in
set_option maxRecDepth 20000 in
theorem sameHeads_yes (a1 a2 : Option Addr) (cap1 cap2 : Nat) (l : List Hd) (w : World) (hl : l.length ≤ 9223372036854775807) (V1 : Hds w a1 l) (V2 : Hds w a2 l) :
    Calls Try.prog 21 #[.slice a1 l.length cap1, .slice a2 l.length cap2] w fun e w' => e = .returned (.bool true) ∧ Below w.heap.size w w' := by
  have HV1 := Hid.mk V1
  have HV2 := Hid.mk V2
  clear V1 V2
  go_enter Try.func21, Try.ntmps21
  go_wp2_with fail
  go_loopg [5] l.length (fun k i wr => ∃ j : Nat, j + k = l.length ∧ i = .int .i64 j ∧ Below w.heap.size w wr)
  case atStart => exact ⟨0, by omega, rfl, Below.refl _ _⟩
  case round =>
    obtain ⟨j, hk, rfl, hq⟩ := hrel
    by_cases hlt : j < l.length
    · obtain ⟨k, rfl⟩ : ∃ k, gk = k + 1 := ⟨gk - 1, by omega⟩
      rcases HV1.out.below hq with rfl | ⟨b, off, rfl, hbl, hc⟩
      · simp at hlt
      rcases HV2.out.below hq with rfl | ⟨b2, off2, rfl, hbl2, hc2⟩
      · simp at hlt
      obtain ⟨q0, q1, q2, q3, q4, q5, q6, q7⟩ := hc j hlt
      obtain ⟨p0, p1, p2, p3, p4, p5, p6, p7⟩ := hc2 j hlt
      generalize l.getD j hd0 = r at *
      obtain ⟨r0, r1, r2, r3, r4, r5, r6, r7⟩ := r
      dsimp only at q0 q1 q2 q3 q4 q5 q6 q7 p0 p1 p2 p3 p4 p5 p6 p7
      have hne := neq_hd r0 r1 r2 r3 r4 r5 r6 r7
      have hgd := fun x y w => run_eqGuard_agg (P := Try.prog) w BinOp.neq 29 x y #[.int .i64 r0, .int .i64 r1, .bool r2, .int .i64 r3, .int .i64 r4, .int .i64 r5, .int .i64 r6, .int .i32 r7] #[.int .i64 r0, .int .i64 r1, .bool r2, .int .i64 r3, .int .i64 r4, .int .i64 r5, .int .i64 r6, .int .i32 r7] Try.hdGuard
      have b1 : (0 : Int) ≤ (j : Int) := by omega
      have b2' : (j : Int) < l.length := by omega
      clear hc hc2
      go_wp2_with fail
      go_quiet (fail)
      go_wp2_with fail
      go_roundg k
      case measure => omega
      case rel => exact ⟨j + 1, by omega, by go_num, hq.trans ((bel_drewN _ _).mono hq.size)⟩
    · go_wp2_with fail
      go_ret
      exact ⟨rfl, hq⟩
end Go.Proofs.Ytolobmhbmajolaa
