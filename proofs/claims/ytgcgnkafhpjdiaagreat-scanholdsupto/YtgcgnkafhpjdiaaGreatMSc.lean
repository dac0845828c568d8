/- Texts of the proof, put together: Sfd, Sak, Son, Sfr. -/
import Derived.Test.YtgcgnkafhpjdiaaGreatMSb
import Derived.Deep.QuietTactic
import Derived.BigQuiet
import Derived.Laws.StructEq
import Derived.Test.YtgcgnkafhpjdiaaGreatMB5
import Derived.Deep.AppendLies
namespace Go.Proofs.YtgcgnkafhpjdiaaGreat
open Go.RowKit
def dfd : Fs × Nat := (⟨0, 0, 0, 0, 0, 0, 0, 0, 0, 0⟩, 0)
theorem fd1_len (x : Fs × Nat) : (fd1 x).length = 9 := rfl
theorem fcs_len (l : List (Fs × Nat)) : (fcs l).length = l.length * 9 := by
  induction l with
  | nil => rfl
  | cons r rs ih => simp only [fcs, List.flatMap_cons, List.length_append] at *; rw [ih, fd1_len, List.length_cons]; omega
theorem fcs_app (a b : List (Fs × Nat)) : fcs (a ++ b) = fcs a ++ fcs b := by simp [fcs]
theorem fcs_at {l : List (Fs × Nat)} {j k : Nat} (hj : j < l.length) (hk : k < 9) : (fcs l)[j * 9 + k]? = (fd1 (l.getD j dfd))[k]? := by
  have e : l = l.take j ++ l.getD j dfd :: l.drop (j + 1) := by
    rw [List.getD_eq_getElem?_getD, List.getElem?_eq_getElem hj]
    simp
  have hl : (fcs (l.take j)).length = j * 9 := by rw [fcs_len, List.length_take]; congr 1; omega
  have e2 : fcs l = fcs (l.take j) ++ (fd1 (l.getD j dfd) ++ fcs (l.drop (j + 1))) := by
    conv => lhs; rw [e, fcs_app]
    rfl
  rw [e2, List.getElem?_append_right (by omega), hl, show j * 9 + k - j * 9 = k from by omega, List.getElem?_append_left (by show k < 9; exact hk)]
theorem fcs_take (l : List (Fs × Nat)) : ∀ n, (fcs l).take (n * 9) = fcs (l.take n) := by
  induction l with
  | nil => intro n; simp [fcs]
  | cons r rs ih =>
    intro n
    cases n with
    | zero => rfl
    | succ n =>
      have : fcs (r :: rs) = fd1 r ++ fcs rs := by simp [fcs]
      rw [this, List.take_append, fd1_len, List.take_of_length_le (by rw [fd1_len]; omega), show (n + 1) * 9 - 9 = n * 9 from by omega, ih n, List.take_succ_cons]
      simp [fcs]
/-- The nine cells of a found frame. -/
def Nine (w : World) (b o : Nat) (x : Fs × Nat) : Prop := w.cell? ⟨b, o, none⟩ = some (.int .i64 x.1.base) ∧ w.cell? ⟨b, o + 1, none⟩ = some (.int .i64 (12 + x.1.len : Nat)) ∧ w.cell? ⟨b, o + 2, none⟩ = some (.bool (decide (x.1.st = 1))) ∧ w.cell? ⟨b, o + 3, none⟩ = some (.int .i64 x.1.cnt) ∧ w.cell? ⟨b, o + 4, none⟩ = some (.int .i64 x.1.first) ∧ w.cell? ⟨b, o + 5, none⟩ = some (.int .i64 x.1.grt) ∧ w.cell? ⟨b, o + 6, none⟩ = some (.int .i64 x.1.prod) ∧ w.cell? ⟨b, o + 7, none⟩ = some (.int .i32 x.1.seq) ∧ w.cell? ⟨b, o + 8, none⟩ = some (.int .i64 x.2)
theorem Nine.keep {w w' : World} {b o : Nat} {x : Fs × Nat} (h : Nine w b o x) (k : w'.heap[b]? = w.heap[b]?) : Nine w' b o x := by
  have hc : ∀ o, w'.cell? ⟨b, o, none⟩ = w.cell? ⟨b, o, none⟩ := fun o => by simp [World.cell?, k]
  unfold Nine at *
  simp only [hc]
  exact h
/-- A row of found frames where it lies. -/
def Fds (w : World) (a : Option Addr) (l : List (Fs × Nat)) : Prop := l = [] ∨ ∃ b off, a = some ⟨b, off, none⟩ ∧ b < w.heap.size ∧ ∀ j, j < l.length → Nine w b (off + j * 9) (l.getD j dfd)
theorem Fds.keep {w w' : World} {a : Option Addr} {l : List (Fs × Nat)} (h : Fds w a l) (hs : w.heap.size ≤ w'.heap.size) (hb : ∀ ad, a = some ad → ad.block < w.heap.size → w'.heap[ad.block]? = w.heap[ad.block]?) : Fds w' a l := by
  rcases h with h | ⟨b, off, rfl, h2, h3⟩
  · exact Or.inl h
  · exact Or.inr ⟨b, off, rfl, Nat.lt_of_lt_of_le h2 hs, fun j hj => (h3 j hj).keep (hb _ rfl h2)⟩
theorem Fds.below {w w' : World} {a : Option Addr} {l : List (Fs × Nat)} (h : Fds w a l) (hb : Below w.heap.size w w') : Fds w' a l := h.keep hb.size fun _ _ hlt => hb.block _ hlt
theorem Fds.nil (w : World) (a : Option Addr) : Fds w a [] := Or.inl rfl
theorem Fds.take {w : World} {a : Option Addr} {l : List (Fs × Nat)} (h : Fds w a l) (n : Nat) : Fds w a (l.take n) := by
  rcases h with rfl | ⟨b, off, rfl, h2, h3⟩
  · exact Or.inl (by simp)
  · refine Or.inr ⟨b, off, rfl, h2, fun j hj => ?_⟩
    rw [List.length_take] at hj
    have e : (l.take n).getD j dfd = l.getD j dfd := by rw [List.getD_eq_getElem?_getD, List.getD_eq_getElem?_getD, List.getElem?_take, if_pos (by omega)]
    rw [e]
    exact h3 j (by omega)
/-- A row of found frames of one's own. -/
def OwF (w : World) (B : Nat) (v : Value) (l : List (Fs × Nat)) : Prop := w.ownsRow B 36 9 v l.length (fcs l)
theorem OwF.keep {w w' : World} {B : Nat} {v : Value} {l : List (Fs × Nat)} (h : OwF w B v l) (hb : ∀ g, v.ownBlock = some g → g < w.heap.size → w'.heap[g]? = w.heap[g]?) : OwF w' B v l := by
  refine ⟨h.1, ?_⟩
  rcases h.2 with h2 | ⟨g, cap, cur, rfl, h3, h4, h5⟩
  · exact Or.inl h2
  · exact Or.inr ⟨g, cap, cur, rfl, h3, (hb g rfl (lt_of_heap h4)).trans h4, h5⟩
theorem OwF.below {w w' : World} {B : Nat} {v : Value} {l : List (Fs × Nat)} (h : OwF w B v l) (hb : Below w.heap.size w w') : OwF w' B v l := h.keep fun g _ hlt => hb.block g hlt
theorem OwF.fds {w : World} {B : Nat} {v : Value} {l : List (Fs × Nat)} (h : OwF w B v l) : ∃ a cap, v = .slice a l.length cap ∧ Fds w a l ∧ l.length ≤ cap := by
  have hr : w.ownsRow B 36 9 v l.length (fcs l) := h
  rcases h.2 with ⟨rfl, h2⟩ | ⟨g, cap, cur, rfl, h3, h4, h5⟩
  · exact ⟨none, 0, by rw [h2], Or.inl (List.eq_nil_of_length_eq_zero h2), by omega⟩
  · refine ⟨_, cap, rfl, Or.inr ⟨g, 0, rfl, lt_of_heap h4, fun j hj => ?_⟩, h5.1⟩
    have c := fun k (hk : k < 9) => (hr.cellAt (j * 9 + k) (by omega)).trans (fcs_at hj hk)
    rw [Nat.zero_add]
    exact ⟨c 0 (by omega), c 1 (by omega), c 2 (by omega), c 3 (by omega), c 4 (by omega), c 5 (by omega), c 6 (by omega), c 7 (by omega), c 8 (by omega)⟩
theorem Tryz.fdStruct : Tryz.prog.underlying 36 = some (.struct (Tryz.prog.fieldsOf 36)) := by kernel_rfl
theorem Tryz.fdHeld : Tryz.prog.stoodInHeld 36 = false := by kernel_rfl
theorem Tryz.fdGuard : Tryz.prog.eqGuardType Tryz.prog.depth 36 = false := by kernel_rfl
theorem Tryz.hdStruct : Tryz.prog.underlying 34 = some (.struct (Tryz.prog.fieldsOf 34)) := by kernel_rfl
theorem Tryz.hdHeld : Tryz.prog.stoodInHeld 34 = false := by kernel_rfl
theorem Tryz.hdGuard : Tryz.prog.eqGuardType Tryz.prog.depth 34 = false := by kernel_rfl
set_option maxRecDepth 20000 in
theorem neq_hd (b0 b1 : Int) (b2 : Bool) (b3 b4 b5 b6 b7 : Int) (w : World) : (binOp .neq 34 (.agg #[.int .i64 b0, .int .i64 b1, .bool b2, .int .i64 b3, .int .i64 b4, .int .i64 b5, .int .i64 b6, .int .i32 b7]) (.agg #[.int .i64 b0, .int .i64 b1, .bool b2, .int .i64 b3, .int .i64 b4, .int .i64 b5, .int .i64 b6, .int .i32 b7])).run Tryz.prog w = .ok (.bool false) w := by
  rw [run_neq_struct, run_equalIn_agg w 9999 _ _ _ Tryz.hdStruct Tryz.hdHeld]
  have hf : (Tryz.prog.fieldsOf 34) = (match Tryz.prog.underlying 34 with | some (.struct fs) => fs | _ => #[]) := rfl
  rw [hf, Tryz.underlying34]
  simp [go_sem, Op.eqFields, Tryz.underlying4, Tryz.underlying3, Tryz.underlying2, Tryz.underlying21]
set_option maxRecDepth 20000 in
theorem neq_fd (b0 b1 : Int) (b2 : Bool) (b3 b4 b5 b6 b7 b8 : Int) (w : World) : (binOp .neq 36 (.agg #[.int .i64 b0, .int .i64 b1, .bool b2, .int .i64 b3, .int .i64 b4, .int .i64 b5, .int .i64 b6, .int .i32 b7, .int .i64 b8]) (.agg #[.int .i64 b0, .int .i64 b1, .bool b2, .int .i64 b3, .int .i64 b4, .int .i64 b5, .int .i64 b6, .int .i32 b7, .int .i64 b8])).run Tryz.prog w = .ok (.bool false) w := by
  rw [run_neq_struct, run_equalIn_agg w 9999 _ _ _ Tryz.fdStruct Tryz.fdHeld]
  have hf : (Tryz.prog.fieldsOf 36) = (match Tryz.prog.underlying 36 with | some (.struct fs) => fs | _ => #[]) := rfl
  rw [hf, Tryz.underlying36]
  simp [go_sem, Op.eqFields, Tryz.underlying34, Tryz.underlying4, Tryz.underlying3, Tryz.underlying2, Tryz.underlying21]
end Go.Proofs.YtgcgnkafhpjdiaaGreat
namespace Go.Proofs.YtgcgnkafhpjdiaaGreat
open Go.RowKit
set_option maxHeartbeats 2000000 in
set_option maxRecDepth 20000 in
theorem alike_yes (a1 a2 : Option Addr) (cap1 cap2 : Nat) (l : List (Fs × Nat)) (w : World) (hl : l.length ≤ 9223372036854775807) (V1 : Fds w a1 l) (V2 : Fds w a2 l) :
    Calls Tryz.prog 26 #[.slice a1 l.length cap1, .slice a2 l.length cap2] w fun e w' => e = .returned (.bool true) ∧ Below w.heap.size w w' := by
  have HV1 := hid V1
  have HV2 := hid V2
  clear V1 V2
  go_enter Tryz.func26, Tryz.ntmps26
  go_wp2_with fail
  go_loopg [5] l.length (fun k i wr => ∃ j : Nat, j + k = l.length ∧ i = .int .i64 j ∧ Below w.heap.size w wr)
  case atStart => exact ⟨0, by omega, rfl, Below.refl _ _⟩
  case round =>
    obtain ⟨j, hk, rfl, hq⟩ := hrel
    by_cases hlt : j < l.length
    · obtain ⟨k, rfl⟩ : ∃ k, gk = k + 1 := ⟨gk - 1, by omega⟩
      rcases HV1.out.below hq with rfl | ⟨b, off, rfl, hbl, hc⟩
      · simp at hlt
      rcases HV2.out.below hq with rfl | ⟨b2, off2, rfl, hbl2, hc2⟩
      · simp at hlt
      obtain ⟨q0, q1, q2, q3, q4, q5, q6, q7, q8⟩ := hc j hlt
      obtain ⟨p0, p1, p2, p3, p4, p5, p6, p7, p8⟩ := hc2 j hlt
      generalize l.getD j dfd = r at *
      obtain ⟨f, at'⟩ := r
      dsimp only at q0 q1 q2 q3 q4 q5 q6 q7 q8 p0 p1 p2 p3 p4 p5 p6 p7 p8
      generalize ((12 + f.len : Nat) : Int) = LN at *
      have hne := neq_fd f.base LN (decide (f.st = 1)) f.cnt f.first f.grt f.prod f.seq at'
      have hgd := fun x y w => run_eqGuard_agg (P := Tryz.prog) w BinOp.neq 36 x y #[.int .i64 f.base, .int .i64 LN, .bool (decide (f.st = 1)), .int .i64 f.cnt, .int .i64 f.first, .int .i64 f.grt, .int .i64 f.prod, .int .i32 f.seq, .int .i64 at'] #[.int .i64 f.base, .int .i64 LN, .bool (decide (f.st = 1)), .int .i64 f.cnt, .int .i64 f.first, .int .i64 f.grt, .int .i64 f.prod, .int .i32 f.seq, .int .i64 at'] Tryz.fdGuard
      have b1 : (0 : Int) ≤ (j : Int) := by omega
      have b2' : (j : Int) < l.length := by omega
      clear hc hc2
      go_wp2_with fail
      go_quiet (fail)
      go_wp2_with fail
      go_roundg k
      case measure => omega
      case rel => exact ⟨j + 1, by omega, by go_num, hq.trans ((bel_drewN _ _).mono hq.size)⟩
    · go_wp2_with fail
      go_ret
      exact ⟨rfl, hq⟩
end Go.Proofs.YtgcgnkafhpjdiaaGreat
namespace Go.Proofs.YtgcgnkafhpjdiaaGreat
open Go.RowKit
def orec (i : Nat) : RI := ⟨⟨i, false, ⟨#[]⟩, false, ⟨#[]⟩, []⟩, none, 0⟩
def onl (n : Nat) : List RI := (List.range n).map orec
theorem onl_len (n : Nat) : (onl n).length = n := by simp [onl]
theorem onl_succ (n : Nat) : onl (n + 1) = onl n ++ [orec n] := by simp [onl, List.range_succ]
theorem rcs_onl (n : Nat) : rcs (onl (n + 1)) = rcs (onl n) ++ rc1 (orec n) := by rw [onl_succ, rcs_app]; simp [rcs]
theorem own_rcs {w : World} {B : Nat} {v : Value} {l : List RI} (h : w.ownsRow B 114 6 v l.length (rcs l)) (hh : ∀ x ∈ l, Hds w x.a x.r.hs) : ∃ a cap, v = .slice a l.length cap ∧ Rcs w a l := by
  have hlt := World.ownsRow.lt h
  have hcell := fun (g : Nat) (hg : v.ownBlock = some g) => World.ownsRow.cells h hg
  obtain ⟨hl, hr⟩ := h
  rcases hr with ⟨rfl, h1⟩ | ⟨g, cap, cur, rfl, _⟩
  · exact ⟨none, 0, by rw [h1], hh, Or.inl (List.eq_nil_of_length_eq_zero h1)⟩
  · refine ⟨some ⟨g, 0, none⟩, cap, rfl, hh, Or.inr ⟨g, 0, rfl, (hlt g rfl).2, fun j hj => ?_⟩⟩
    have e : ∀ i, (⟨g, 0, none⟩ : Addr).add i = ⟨g, 0 + i, none⟩ := fun i => Go.WideShapes.add_plain _ _ _
    have k : ∀ i v, i < 6 → (rc1 (l.getD j dri))[i]? = some v → w.cell? ⟨g, 0 + (j * 6 + i), none⟩ = some v := fun i v hi hv => by
      have := hcell g rfl _ _ (rcs_at l j i v hj hi hv); rw [e] at this; exact this
    exact ⟨by have := k 0 _ (by omega) rfl; simpa [Nat.add_assoc] using this, by have := k 1 _ (by omega) rfl; simpa [Nat.add_assoc] using this, by have := k 2 _ (by omega) rfl; simpa [Nat.add_assoc] using this, by have := k 3 _ (by omega) rfl; simpa [Nat.add_assoc] using this, by have := k 4 _ (by omega) rfl; simpa [Nat.add_assoc] using this, by have := k 5 _ (by omega) rfl; simpa [Nat.add_assoc] using this⟩
theorem set5_at {x : World} {G : Nat} {T : TypeId} {u0 u1 u2 u3 u4 : Value} (h : x.heap[G]? = some (.cells #[u0, u1, u2, u3, u4] T (0, 0))) (v0 v1 v2 v3 v4 : Value) :
    (((((x.setCell ⟨G, 0, none⟩ v0).setCell ⟨G, 1, none⟩ v1).setCell ⟨G, 2, none⟩ v2).setCell ⟨G, 3, none⟩ v3).setCell ⟨G, 4, none⟩ v4).heap[G]? = some (.cells #[v0, v1, v2, v3, v4] T (0, 0)) := by
  have h0 : (x.setCell ⟨G, 0, none⟩ v0).heap[G]? = some (.cells #[v0, u1, u2, u3, u4] T (0, 0)) := heap_set h
  have h1 : ((x.setCell ⟨G, 0, none⟩ v0).setCell ⟨G, 1, none⟩ v1).heap[G]? = some (.cells #[v0, v1, u2, u3, u4] T (0, 0)) := heap_set h0
  have h2 := heap_set (i := 2) (v := v2) h1
  have h3 := heap_set (i := 3) (v := v3) h2
  exact heap_set (i := 4) (v := v4) h3
theorem set5_far {x : World} {G R : Nat} (h : G ≠ R) (v0 v1 v2 v3 v4 : Value) :
    (((((x.setCell ⟨R, 0, none⟩ v0).setCell ⟨R, 1, none⟩ v1).setCell ⟨R, 2, none⟩ v2).setCell ⟨R, 3, none⟩ v3).setCell ⟨R, 4, none⟩ v4).heap[G]? = x.heap[G]? := by
  rw [Below.heap_setCell _ ⟨R, 4, none⟩ _ _ h, Below.heap_setCell _ ⟨R, 3, none⟩ _ _ h, Below.heap_setCell _ ⟨R, 2, none⟩ _ _ h, Below.heap_setCell _ ⟨R, 1, none⟩ _ _ h, Below.heap_setCell _ ⟨R, 0, none⟩ _ _ h]
def onb (n : Nat) (a : Option Addr) (cap : Nat) : Bt := ⟨0, false, -1, -1, onl n, a, cap⟩
set_option maxHeartbeats 2000000 in
set_option maxRecDepth 20000 in
theorem one_any (n : Nat) (hn : n ≤ 65536) (w : World) : Calls Tryz.prog 27 #[.int .i64 n] w fun e w' => ∃ a cap, e = .returned (btV (onb n a cap)) ∧ Rcs w' a (onl n) ∧ Below w.heap.size w w' := by
  obtain ⟨i0, hi, hz0, hz1, hz2⟩ := info_parts Tryz.infoRec
  go_enter Tryz.func27, Tryz.ntmps27
  go_wp2_with fail
  go_loopg [4] n (fun k i wr => ∃ (j : Nat) (va : Option Addr) (vn vc : Nat), j + k = n ∧ i = .int .i64 j ∧ wr.heap[w.heap.size + 1]? = some (.cells #[.int .i64 0, .bool false, .int .i64 (-1), .int .i32 (-1), .slice va vn vc] 72 (0, 0)) ∧ wr.heap[w.heap.size]? = some (.cells #[.int .i64 0, .bool false, .int .i64 0, .int .i32 0, .slice none 0 0] 72 (0, 0)) ∧ wr.ownsRow (w.heap.size + 2) 114 6 (.slice va vn vc) j (rcs (onl j)) ∧ Below w.heap.size w wr ∧ w.heap.size + 2 ≤ wr.heap.size)
  case atStart =>
    refine ⟨0, none, 0, 0, by omega, rfl, ?_, ?_, World.ownsRow_nil _ _ _ _, ?_, ?_⟩
    · exact heap_new' _ _ _ (by simp)
    · exact heap_alloc_at (heap_new _ _)
    · exact ((Below.refl _ _).alloc (Nat.le_refl _) _).alloc (by simp) _
    · simp
  case round =>
    obtain ⟨j, va, vn, vc, hk, rfl, hB, hR, hO, hb, hsz⟩ := hrel
    by_cases hlt : j < n
    · obtain ⟨k, rfl⟩ : ∃ k, gk = k + 1 := ⟨gk - 1, by omega⟩
      obtain ⟨k0, k1, k2, k3, k4⟩ := cells5 hB
      have HO1 := hid (hO.alloc (.cells #[.int .i64 j, .bool false, .string ⟨#[]⟩, .bool false, .string ⟨#[]⟩, .slice none 0 0] 114))
      have HBB := hid hB
      have HRR := hid hR
      have HB := hid hb
      clear hB hR hb
      go_wp2_with (at_builtin; refine wpList_append_lies _ rfl _ _ 70 rfl (w.heap.size + 2) 114 i0 (.agg #[.int .i64 0, .bool false, .string ⟨#[]⟩, .bool false, .string ⟨#[]⟩, .slice none 0 0]) 6 80 Tryz.underlying70 hi hz0 hz1 hz2 rfl (by decide) _ j (rcs (onl j)) rfl HO1.out ⟨wr.heap.size, 0, none⟩ 1 1 (rc1 (orec j)) rfl rfl ?c1 ?c2 ?c3 ?c4 ?c5 ?c6 _ rfl ?_)
      case c1 => exact World.news_of_block (heap_new wr _)
      case c2 => exact rc1_one _
      case c3 => omega
      case c4 => unfold maxLen; omega
      case c5 => omega
      case c6 => simp; omega
      intro g cap5 w5 hown5 hgrow5 hat5 hlt5
      have hne : ∀ {i : Nat} {c : Array Value} {T : TypeId}, wr.heap[i]? = some (.cells c T (0, 0)) → T ≠ 114 → w5.heap[i]? = some (.cells c T (0, 0)) := fun {i} {c} {T} h1 h2 =>
        (hgrow5.block i (by have := lt_of_heap h1; simp; omega) (fun e => own_ne hO h1 h2 e.symm)).trans (heap_alloc_at h1)
      have hB5 := hne HBB.out (by decide)
      have hR5 := hne HRR.out (by decide)
      have m4 := (cells5 hB5).2.2.2.2
      have m5 := froz_of (i := 4) hB5
      have hb5 : Below w.heap.size w w5 := (HB.out.alloc HB.out.size _).grown hgrow5 (by simp; omega) (fun k hk => by have := World.ownsRow.lt hO k hk; omega)
      have hs5 : w.heap.size + 2 ≤ w5.heap.size := by have := hgrow5.size; simp at this; omega
      clear hgrow5 hat5 hlt5 k0 k1 k2 k3 k4
      go_wp2_with fail
      go_roundg k
      case measure => omega
      case rel =>
        refine ⟨j + 1, some ⟨g, 0, none⟩, j + 1, cap5, by omega, by go_num, heap_set hB5, heap_set_far hR5 (Nat.ne_of_lt (Nat.lt_succ_self _)), ?_, hb5.setCell (p := ⟨w.heap.size + 1, 4, none⟩) (Nat.le_succ _) _, by simpa using hs5⟩
        rw [rcs_onl]
        exact own_apart hown5 fun g' hg' => Below.heap_setCell _ _ _ _ (fun e => own_ne hown5 hB5 (by decide) (by rw [hg', e]))
    · have hj : j = n := by omega
      subst hj
      obtain ⟨k0, k1, k2, k3, k4⟩ := cells5 hB
      obtain ⟨q0, q1, q2, q3, q4⟩ := cells5 hR
      have f0 := froz_of (i := 0) hR
      have f1 := froz_of (i := 1) hR
      have f2 := froz_of (i := 2) hR
      have f3 := froz_of (i := 3) hR
      have f4 := froz_of (i := 4) hR
      have hO' : wr.ownsRow (w.heap.size + 2) 114 6 (.slice va vn vc) (onl j).length (rcs (onl j)) := by rw [onl_len]; exact hO
      have HO := hid hO'
      have HB := hid hb
      have HR := hid hR
      clear hO hb hO' hR
      go_wp2_with fail
      have hU := set5_at HR.out (.int .i64 0) (.bool false) (.int .i64 (-1)) (.int .i32 (-1)) (.slice va vn vc)
      have hF := fun G (hG : G ≠ w.heap.size) => set5_far (x := wr) (R := w.heap.size) hG (.int .i64 0) (.bool false) (.int .i64 (-1)) (.int .i32 (-1)) (.slice va vn vc)
      have hBe := ((((HB.out.setCell (p := ⟨w.heap.size, 0, none⟩) (Nat.le_refl _) (.int .i64 0)).setCell (p := ⟨w.heap.size, 1, none⟩) (Nat.le_refl _) (.bool false)).setCell (p := ⟨w.heap.size, 2, none⟩) (Nat.le_refl _) (.int .i64 (-1))).setCell (p := ⟨w.heap.size, 3, none⟩) (Nat.le_refl _) (.int .i32 (-1))).setCell (p := ⟨w.heap.size, 4, none⟩) (Nat.le_refl _) (.slice va vn vc)
      generalize ((((wr.setCell ⟨w.heap.size, 0, none⟩ (.int .i64 0)).setCell ⟨w.heap.size, 1, none⟩ (.bool false)).setCell ⟨w.heap.size, 2, none⟩ (.int .i64 (-1))).setCell ⟨w.heap.size, 3, none⟩ (.int .i32 (-1))).setCell ⟨w.heap.size, 4, none⟩ (.slice va vn vc) = U at *
      obtain ⟨e0, e1, e2, e3, e4⟩ := cells5 hU
      obtain ⟨a, cap, e, V⟩ := own_rcs (own_apart HO.out fun g hg => hF g (by have := World.ownsRow.lt HO.out g hg; omega)) (fun x hx => by
        obtain ⟨i, _, rfl⟩ := List.mem_map.1 hx
        exact Or.inl rfl)
      exact bodyPost_ret (v := .agg #[.int .i64 0, .bool false, .int .i64 (-1), .int .i32 (-1), .slice va vn vc]) (by simp [results, Tryz.results27, go_sem, e0, e1, e2, e3, e4]) rfl ⟨a, cap, by rw [e]; rfl, V, hBe⟩
end Go.Proofs.YtgcgnkafhpjdiaaGreat
namespace Go.Proofs.YtgcgnkafhpjdiaaGreat
open Go.RowKit
def dbt : Bt := ⟨0, false, 0, 0, [], none, 0⟩
def Five (w : World) (g o : Nat) (b : Bt) : Prop := w.cell? ⟨g, o, none⟩ = some (.int .i64 b.base) ∧ w.cell? ⟨g, o + 1, none⟩ = some (.bool b.pk) ∧ w.cell? ⟨g, o + 2, none⟩ = some (.int .i64 b.prod) ∧ w.cell? ⟨g, o + 3, none⟩ = some (.int .i32 b.seq) ∧ w.cell? ⟨g, o + 4, none⟩ = some (.slice b.a b.l.length b.cap)
theorem Five.keep {w w' : World} {g o : Nat} {b : Bt} (h : Five w g o b) (k : w'.heap[g]? = w.heap[g]?) : Five w' g o b := by
  have hc : ∀ o, w'.cell? ⟨g, o, none⟩ = w.cell? ⟨g, o, none⟩ := fun o => by simp [World.cell?, k]
  unfold Five at *
  simp only [hc]
  exact h
/-- A row of batches where it lies. -/
def Bts (w : World) (a : Option Addr) (l : List Bt) : Prop := (∀ b ∈ l, Rcs w b.a b.l) ∧ (l = [] ∨ ∃ g off, a = some ⟨g, off, none⟩ ∧ g < w.heap.size ∧ ∀ j, j < l.length → Five w g (off + j * 5) (l.getD j dbt))
theorem Bts.below {w w' : World} {a : Option Addr} {l : List Bt} (h : Bts w a l) (k : Below w.heap.size w w') : Bts w' a l := by
  refine ⟨fun b hb => (h.1 b hb).below k, ?_⟩
  rcases h.2 with h | ⟨g, off, h1, h2, h3⟩
  · exact Or.inl h
  · exact Or.inr ⟨g, off, h1, Nat.lt_of_lt_of_le h2 k.size, fun j hj => (h3 j hj).keep (k.block _ h2)⟩
theorem btD_mem {l : List Bt} {j : Nat} (h : j < l.length) : l.getD j dbt ∈ l := by
  rw [List.getD_eq_getElem?_getD, List.getElem?_eq_getElem h, Option.getD_some]
  exact List.getElem_mem h
theorem btD_take {l : List Bt} {j : Nat} (h : j < l.length) : l.take (j + 1) = l.take j ++ [l.getD j dbt] := by
  rw [List.getD_eq_getElem?_getD, List.getElem?_eq_getElem h, Option.getD_some, List.take_succ_eq_append_getElem h]
/-- A batch with another base. -/
def rbb (b : Bt) (base : Int) : Bt := ⟨base, b.pk, b.prod, b.seq, b.l, b.a, b.cap⟩
/-- What becomes of batches: those that are framed, each with its body, and the base behind them. -/
inductive FrR (b0 : Int) : List Bt → List (Bt × ByteArray) → Int → Prop
  | nil : FrR b0 [] [] b0
  | no {bs : List Bt} {ps : List (Bt × ByteArray)} {b1 : Int} {b : Bt} {E : Nat} : FrR b0 bs ps b1 → E ≠ 0 → StoP (rbb b b1) E ⟨#[]⟩ → FrR b0 (bs ++ [b]) ps b1
  | yes {bs : List Bt} {ps : List (Bt × ByteArray)} {b1 : Int} {b : Bt} {T : ByteArray} : FrR b0 bs ps b1 → StoP (rbb b b1) 0 T → FrR b0 (bs ++ [b]) (ps ++ [(rbb b b1, T)]) (b1 + b.l.length)
def frB (p : Bt × ByteArray) : ByteArray := frm (fsB p.1 p.2.size) p.2
def cat : List (Bt × ByteArray) → ByteArray
  | [] => ⟨#[]⟩
  | p :: ps => frB p ++ cat ps
theorem cat_app : ∀ a b, cat (a ++ b) = cat a ++ cat b
  | [], b => by show cat b = ⟨#[]⟩ ++ cat b; exact ByteArray.empty_append.symm
  | p :: a, b => by show frB p ++ cat (a ++ b) = (frB p ++ cat a) ++ cat b; rw [cat_app a b, ByteArray.append_assoc]
theorem cat_snoc (a : List (Bt × ByteArray)) (p : Bt × ByteArray) : cat (a ++ [p]) = cat a ++ frB p := by
  rw [cat_app]
  show _ ++ (frB p ++ ⟨#[]⟩) = _
  rw [app_emp]
theorem frB_size (p : Bt × ByteArray) : (frB p).size = 51 + p.2.size := frm_size _ _
theorem FrR.small {b0 : Int} {bs : List Bt} {ps : List (Bt × ByteArray)} {b1 : Int} (h : FrR b0 bs ps b1) : (cat ps).size ≤ bs.length * 16777216 ∧ ps.length ≤ bs.length := by
  induction h with
  | nil => exact ⟨by show 0 ≤ _; omega, Nat.le_refl _⟩
  | no h1 h2 h3 ih => rw [List.length_append]; exact ⟨by omega, by omega⟩
  | yes h1 h2 ih =>
    have := (sto_zero h2).2 rfl
    rw [cat_snoc, ByteArray.size_append, frB_size, List.length_append, List.length_append]
    dsimp only [List.length_cons, List.length_nil] at *
    exact ⟨by omega, by omega⟩
theorem _root_.Go.World.ownsRow.below_row {w w' : World} {B n size : Nat} {e : TypeId} {v : Value} {l : List Value} (h : w.ownsRow B e size v n l) (hb : Below w.heap.size w w') : w'.ownsRow B e size v n l := own_apart h fun g hg => hb.block g (World.ownsRow.lt h g hg).2
def pst (ps : List (Bt × ByteArray)) : List Value := ps.map fun p => .string (frB p)
theorem pst_snoc (ps : List (Bt × ByteArray)) (p : Bt × ByteArray) : pst (ps ++ [p]) = pst ps ++ [.string (frB p)] := by simp [pst]
theorem pst_len (ps : List (Bt × ByteArray)) : (pst ps).length = ps.length := by simp [pst]
theorem rbb_ok {b : Bt} (h : BtOk b) (base : Int) : BtOk (rbb b base) := ⟨h.t, h.m, h.l, h.p1, h.p2, h.q1, h.q2⟩
theorem Tryz.infoStr : (Tryz.prog.info? 9).map (fun i => (i.zero, i.size, i.bytes)) = some (some (.string ⟨#[]⟩), 1, 16) := by kernel_rfl
set_option maxHeartbeats 4000000 in
set_option maxRecDepth 20000 in
theorem frames_any (base : Int) (a : Option Addr) (cap : Nat) (l : List Bt) (w : World) (V : Bts w a l) (hl : l.length ≤ 1048576) (hb : ∀ b ∈ l, BtOk b) :
    Calls Tryz.prog 24 #[.int .i64 base, .slice a l.length cap] w fun e w' => ∃ ps b1 v, e = .returned (.tuple #[.string (cat ps), v]) ∧ FrR base l ps b1 ∧ w'.ownsRow w.heap.size 9 1 v ps.length (pst ps) ∧ Below w.heap.size w w' := by
  obtain ⟨i0, hi, hz0, hz1, hz2⟩ := info_parts Tryz.infoStr
  have HV := hid V
  have HK := hid hb
  clear V hb
  go_enter Tryz.func24, Tryz.ntmps24
  go_wp2_with fail
  go_loopg [0, 6, 7, 8] l.length (fun k v0 v6 v7 v8 wr => ∃ (j : Nat) (b1 : Int) (ps : List (Bt × ByteArray)) (va : Option Addr) (vn vc : Nat), j + k = l.length ∧ v0 = .int .i64 b1 ∧ v6 = .slice va vn vc ∧ v7 = .string (cat ps) ∧ v8 = .int .i64 j ∧ FrR base (l.take j) ps b1 ∧ wr.ownsRow w.heap.size 9 1 (.slice va vn vc) ps.length (pst ps) ∧ Below w.heap.size w wr)
  case atStart => exact ⟨0, base, [], none, 0, 0, by omega, rfl, rfl, rfl, rfl, by rw [List.take_zero]; exact .nil, World.ownsRow_nil _ _ _ _, Below.refl _ _⟩
  case round =>
    obtain ⟨j, b1, ps, va, vn, vc, hk, rfl, rfl, rfl, rfl, hF, hO, hw⟩ := hrel
    by_cases hlt : j < l.length
    · obtain ⟨k, rfl⟩ : ∃ k, gk = k + 1 := ⟨gk - 1, by omega⟩
      have V := HV.out.below hw
      rcases V.2 with rfl | ⟨g, off, rfl, hg, hc⟩
      · simp at hlt
      obtain ⟨q0, q1, q2, q3, q4⟩ := hc j hlt
      have hB := HK.out _ (btD_mem hlt)
      have V1 := V.1 _ (btD_mem hlt)
      have hT := btD_take hlt
      generalize l.getD j dbt = b at *
      clear hc
      have CE := hid (fun w V => encode_any (rbb b b1) w V hB.t hB.m hB.l)
      unfold btV btA rbb at CE
      dsimp only at CE
      have Hj : (0 : Int) ≤ (j : Int) := by omega
      have Hj2 : (j : Int) < l.length := by omega
      have N0 := Bx1.new wr #[.int .i64 b1, .bool b.pk, .int .i64 b.prod, .int .i32 b.seq, .slice b.a b.l.length b.cap] 72
      have V2 := hid (V1.below N0.b)
      have HF := hid hF
      have HO := hid hO
      clear hF hO V V1
      go_wp2_with fail
      refine (CE.out _ V2.out).mono ?_
      rintro e w1 ⟨⟨E, S, rfl, hE⟩, hb1⟩
      have N1 := N0.call hb1
      have hw1 := hid (hw.trans (N1.b.mono hw.size))
      obtain ⟨k0, k1, k2, k3, k4⟩ := cells5 N1.p
      have hO1 := HO.out.below_row N1.b
      clear CE hb1 N0
      by_cases h0 : E = 0
      · subst h0
        obtain ⟨h1, _⟩ | ⟨_, T, hT1, hS⟩ := hE
        · exact absurd rfl h1
        obtain ⟨z1, z2⟩ := (sto_zero hT1).2 rfl
        have hF2 : FrR base (l.take (j + 1)) (ps ++ [(rbb b b1, T)]) (b1 + b.l.length) := by rw [hT]; exact .yes HF.out hT1
        have hsm := hF2.small
        have hsz : S.size = 51 + T.size := by rw [hS]; exact frB_size (rbb b b1, T)
        have hS' : S = frB (rbb b b1, T) := hS
        have hcat := HF.out.small
        rw [List.length_take] at hcat
        have hc1 : ¬ 9223372036854775807 < (cat ps).size + S.size := by omega
        have hr := rfh_zero z1
        have hr1 : 0 ≤ b1 ∧ b1 < 4611686018427387904 := hr.2.1
        have hr2 : b1 ≤ 4611686018427387904 - b.l.length := hr.2.2.2
        have hr3 : b.l.length ≤ 65536 := hr.1.2
        have hpl : ps.length ≤ 1048576 := by omega
        have HF2 := hid hF2
        have HS' := hid hS'
        have HO2 := hid (hO1.alloc (.cells #[.string S] 9))
        have HN1 := hid N1
        clear hF2 hS' hS hcat hsm hsz z1 z2 hr hT1 hO1
        go_wp2_with (at_builtin; refine wpList_append_lies _ rfl _ _ 63 rfl w.heap.size 9 i0 (.string ⟨#[]⟩) 1 16 Tryz.underlying63 hi hz0 hz1 hz2 rfl (by decide) _ ps.length (pst ps) rfl HO2.out ⟨w1.heap.size, 0, none⟩ 1 1 [.string S] rfl rfl ?c1 ?c2 ?c3 ?c4 ?c5 ?c6 _ rfl ?_)
        case c1 => exact World.news_of_block (heap_new w1 _)
        case c2 => intro u hu; rw [List.mem_singleton.1 hu]; rfl
        case c3 => omega
        case c4 => unfold maxLen; omega
        case c5 => omega
        case c6 => have := hw1.out.size; simp; omega
        intro g5 cap5 w5 hown5 hgrow5 hat5 hlt5
        have hne : ∀ {i : Nat} {c : Array Value} {T : TypeId}, w1.heap[i]? = some (.cells c T (0, 0)) → T ≠ 9 → w5.heap[i]? = some (.cells c T (0, 0)) := fun {i} {c} {T} h1 h2 =>
          (hgrow5.block i (by have := lt_of_heap h1; simp; omega) (fun e => own_ne HO2.out (heap_alloc_at h1) h2 e.symm)).trans (heap_alloc_at h1)
        have m4 := (cells5 (hne HN1.out.p (by decide))).2.2.2.2
        have hb5 := hid (show Below w.heap.size w w5 from (hw1.out.alloc hw1.out.size _).grown hgrow5 (by have := hw1.out.size; simp; omega) (fun k hk => (World.ownsRow.lt HO2.out k hk).1))
        have HO5 := hid hown5
        clear hgrow5 hat5 hlt5 hown5 hne k0 k1 k2 k3 k4
        go_wp2_with fail
        go_roundg k
        case measure => omega
        case rel =>
          refine ⟨j + 1, b1 + b.l.length, ps ++ [(rbb b b1, T)], some ⟨g5, 0, none⟩, ps.length + 1, cap5, by omega, by go_num, rfl, ?_, by go_num, HF2.out, ?_, hb5.out⟩
          · rw [cat_snoc, ← HS'.out]
          · rw [pst_snoc, ← HS'.out, List.length_append]
            exact HO5.out
      · have h0' : ¬ (E : Int) = 0 := by omega
        obtain ⟨_, h2, _⟩ | ⟨h1, _⟩ := hE
        · have HF2 : Hid (FrR base (l.take (j + 1)) ps b1) := by show FrR _ _ _ _; rw [hT]; exact .no HF.out h0 h2
          have HO2 := hid hO1
          clear h2 k0 k1 k2 k3 k4 hO1
          go_wp2_with fail
          go_roundg k
          case measure => omega
          case rel => exact ⟨j + 1, b1, ps, va, vn, vc, by omega, rfl, rfl, rfl, by go_num, HF2.out, HO2.out, hw1.out⟩
        · exact absurd h1 h0
    · have hj : l.take j = l := List.take_of_length_le (by omega)
      rw [hj] at hF
      have HF := hid hF
      clear hF
      go_wp2_with fail
      go_ret2
      exact ⟨ps, b1, _, rfl, HF.out, hO, hw⟩
end Go.Proofs.YtgcgnkafhpjdiaaGreat
