/- Texts of the proof, put together: Bop, Boq, Bor, Bch, Bbh. -/
import Derived.Test.YtihokphamgkkcaaGreatMB2
import Derived.Test.YtihokphamgkkcaaGreatMB1
namespace Go.Proofs.YtihokphamgkkcaaGreat
open Go.RowKit
/-- What open answers. -/
def OpnV (R : Except Nat (Fs × ByteArray)) : Value := match R with
  | .error x => .tuple #[noHd, .string ⟨#[]⟩, .int .i64 x]
  | .ok (f, b) => .tuple #[hdV f, .string b, .int .i64 0]
def ChkV (R : Except Nat (Fs × ByteArray)) : Value := match R with
  | .error x => .tuple #[noHd, .int .i64 x]
  | .ok (f, _) => .tuple #[hdV f, .int .i64 0]
theorem Bx1.set {w : World} {b : Array Value} {T : TypeId} {x : World} (h : Bx1 w b T x) (i : Nat) (v : Value) : Bx1 w (b.setIfInBounds i v) T (x.setCell ⟨w.heap.size, i, none⟩ v) := ⟨heap_set h.p, h.b.setCell (Nat.le_refl _) v⟩
theorem put8' {w : World} {U : TypeId} {u0 u1 u2 u3 u4 u5 u6 u7 : Value} {x : World} (h : Bx1 w #[u0, u1, u2, u3, u4, u5, u6, u7] U x) (v0 v1 v2 v3 v4 v5 v6 v7 : Value) :
    Bx1 w #[v0, v1, v2, v3, v4, v5, v6, v7] U ((((((((x.setCell ⟨w.heap.size, 0, none⟩ v0).setCell ⟨w.heap.size, 1, none⟩ v1).setCell ⟨w.heap.size, 2, none⟩ v2).setCell ⟨w.heap.size, 3, none⟩ v3).setCell ⟨w.heap.size, 4, none⟩ v4).setCell ⟨w.heap.size, 5, none⟩ v5).setCell ⟨w.heap.size, 6, none⟩ v6).setCell ⟨w.heap.size, 7, none⟩ v7) := by
  have h0 : Bx1 w #[v0, u1, u2, u3, u4, u5, u6, u7] U (x.setCell ⟨w.heap.size, 0, none⟩ v0) := h.set 0 v0
  have h1 : Bx1 w #[v0, v1, u2, u3, u4, u5, u6, u7] U _ := h0.set 1 v1
  have h2 : Bx1 w #[v0, v1, v2, u3, u4, u5, u6, u7] U _ := h1.set 2 v2
  have h3 : Bx1 w #[v0, v1, v2, v3, u4, u5, u6, u7] U _ := h2.set 3 v3
  have h4 : Bx1 w #[v0, v1, v2, v3, v4, u5, u6, u7] U _ := h3.set 4 v4
  have h5 : Bx1 w #[v0, v1, v2, v3, v4, v5, u6, u7] U _ := h4.set 5 v5
  have h6 : Bx1 w #[v0, v1, v2, v3, v4, v5, v6, u7] U _ := h5.set 6 v6
  have h7 : Bx1 w #[v0, v1, v2, v3, v4, v5, v6, v7] U _ := h6.set 7 v7
  exact h7
/-- A block that was there stays. -/
theorem keep {x x' : World} {g : Nat} {o : Obj} (h : x.heap[g]? = some o) (k : Below x.heap.size x x') : x'.heap[g]? = some o := (k.block _ (lt_of_heap h)).trans h
set_option maxHeartbeats 1000000 in
set_option maxRecDepth 20000 in
theorem open_peek (s : ByteArray) (frame plain : Int) (E : Nat) (w : World) (h0 : ¬ E = 0) (cp : ∀ w, Calls Tryz.prog 34 #[.string s] w fun e w' => e = .returned (.tuple #[noFs, .int .i64 E]) ∧ Below w.heap.size w w') :
    Calls Tryz.prog 37 #[.string s, .int .i64 frame, .int .i64 plain] w fun e w' => e = .returned (.tuple #[noHd, .string ⟨#[]⟩, .int .i64 E]) ∧ Below w.heap.size w w' := by
  have CP := hid cp
  clear cp
  unfold noHd
  unfold noFs at CP
  have h0' : ¬ (E : Int) = 0 := by omega
  go_enter Tryz.func37, Tryz.ntmps37
  go_wp2_with fail
  refine (CP.out _).mono ?_
  rintro e w1 ⟨rfl, b1⟩
  have X1 := ((Bx1.new w #[.int .i64 0, .int .i64 0, .bool false, .int .i64 0, .int .i64 0, .int .i64 0, .int .i64 0, .int .i32 0] 35).call b1).alloc (.cells #[.int .i64 0, .int .u32 0, .int .u8 0, .int .u32 0, .int .u16 0, .int .u32 0, .int .i64 0, .int .i64 0, .int .i64 0, .int .i32 0] 59)
  obtain ⟨r0, r1, r2, r3, r4, r5, r6, r7⟩ := cells8 X1.p
  obtain ⟨z0, z1, z2, z3, z4, z5, z6, z7⟩ := froz8 X1.p
  clear b1
  go_wp2_with fail
  clear r0 r1 r2 r3 r4 r5 r6 r7 z0 z1 z2 z3 z4 z5 z6 z7
  have P := put8' X1 (.int .i64 0) (.int .i64 0) (.bool false) (.int .i64 0) (.int .i64 0) (.int .i64 0) (.int .i64 0) (.int .i32 0)
  generalize (((((((((w1.alloc (.cells #[.int .i64 0, .int .u32 0, .int .u8 0, .int .u32 0, .int .u16 0, .int .u32 0, .int .i64 0, .int .i64 0, .int .i64 0, .int .i32 0] 59)).setCell ⟨w.heap.size, 0, none⟩ (.int .i64 0)).setCell ⟨w.heap.size, 1, none⟩ (.int .i64 0)).setCell ⟨w.heap.size, 2, none⟩ (.bool false)).setCell ⟨w.heap.size, 3, none⟩ (.int .i64 0)).setCell ⟨w.heap.size, 4, none⟩ (.int .i64 0)).setCell ⟨w.heap.size, 5, none⟩ (.int .i64 0)).setCell ⟨w.heap.size, 6, none⟩ (.int .i64 0)).setCell ⟨w.heap.size, 7, none⟩ (.int .i32 0)) = WF at *
  obtain ⟨e0, e1, e2, e3, e4, e5, e6, e7⟩ := cells8 P.p
  exact bodyPost_ret (v := .tuple #[.agg #[.int .i64 0, .int .i64 0, .bool false, .int .i64 0, .int .i64 0, .int .i64 0, .int .i64 0, .int .i32 0], .string ⟨#[]⟩, .int .i64 E]) (by simp [results, Tryz.results37, go_sem, e0, e1, e2, e3, e4, e5, e6, e7]) rfl ⟨rfl, P.b⟩
/-- The answer's block, the fields' box, the head's box. -/
structure Ow (w : World) (F : Fs) (L : Nat) (g1 g2 : Nat) (x : World) : Prop where
  r : Bx1 w #[.int .i64 0, .int .i64 0, .bool false, .int .i64 0, .int .i64 0, .int .i64 0, .int .i64 0, .int .i32 0] 35 x
  f : x.heap[g1]? = some (.cells #[.int .i64 F.base, .int .u32 F.len, .int .u8 F.mark, .int .u32 F.sum, .int .u16 F.st, .int .u32 F.cnt, .int .i64 F.first, .int .i64 F.grt, .int .i64 F.prod, .int .i32 F.seq] 59 (0, 0))
  h : x.heap[g2]? = some (.cells #[.int .i64 F.base, .int .i64 L, .bool (decide (F.st = 1)), .int .i64 F.cnt, .int .i64 F.first, .int .i64 F.grt, .int .i64 F.prod, .int .i32 F.seq] 35 (0, 0))
theorem Ow.call {w : World} {F : Fs} {L : Nat} {g1 g2 : Nat} {x x' : World} (h : Ow w F L g1 g2 x) (k : Below x.heap.size x x') : Ow w F L g1 g2 x' := ⟨h.r.call k, keep h.f k, keep h.h k⟩
theorem Ow.drew {w : World} {F : Fs} {L : Nat} {g1 g2 : Nat} {x : World} (h : Ow w F L g1 g2 x) : Ow w F L g1 g2 x.drew := ⟨h.r.drew, h.f, h.h⟩
set_option maxHeartbeats 2000000 in
set_option maxRecDepth 20000 in
theorem open_whole (s : ByteArray) (frame plain : Int) (F : Fs) (L : Nat) (w : World) (FR : Int) (WE : Nat) (hw0 : ¬ WE = 0)
    (CP : Hid (∀ w, Calls Tryz.prog 34 #[.string s] w fun e w' => e = .returned (.tuple #[.agg #[.int .i64 F.base, .int .u32 F.len, .int .u8 F.mark, .int .u32 F.sum, .int .u16 F.st, .int .u32 F.cnt, .int .i64 F.first, .int .i64 F.grt, .int .i64 F.prod, .int .i32 F.seq], .int .i64 0]) ∧ Below w.heap.size w w'))
    (CH : Hid (∀ w, Calls Tryz.prog 35 #[.agg #[.int .i64 F.base, .int .u32 F.len, .int .u8 F.mark, .int .u32 F.sum, .int .u16 F.st, .int .u32 F.cnt, .int .i64 F.first, .int .i64 F.grt, .int .i64 F.prod, .int .i32 F.seq]] w fun e w' => e = .returned (.agg #[.int .i64 F.base, .int .i64 L, .bool (decide (F.st = 1)), .int .i64 F.cnt, .int .i64 F.first, .int .i64 F.grt, .int .i64 F.prod, .int .i32 F.seq]) ∧ Below w.heap.size w w'))
    (CW : Hid (∀ w, Calls Tryz.prog 68 #[.string s, .agg #[.int .i64 F.base, .int .u32 F.len, .int .u8 F.mark, .int .u32 F.sum, .int .u16 F.st, .int .u32 F.cnt, .int .i64 F.first, .int .i64 F.grt, .int .i64 F.prod, .int .i32 F.seq], .int .i64 FR] w fun e w' => e = .returned (.int .i64 WE) ∧ Below w.heap.size w w'))
    (CN1 : Hid (∀ w, Calls Tryz.prog 69 #[.int .i64 frame, .int .i64 58, .int .i64 16777216] w fun e w' => e = .returned (.int .i64 FR) ∧ w' = w)) :
    Calls Tryz.prog 37 #[.string s, .int .i64 frame, .int .i64 plain] w fun e w' => e = .returned (.tuple #[noHd, .string ⟨#[]⟩, .int .i64 WE]) ∧ Below w.heap.size w w' := by
  unfold noHd
  have hw0' : ¬ (WE : Int) = 0 := by omega
  go_enter Tryz.func37, Tryz.ntmps37
  go_wp2_with fail
  refine (CP.out _).mono ?_
  rintro e w1 ⟨rfl, b1⟩
  have X1 := ((Bx1.new w #[.int .i64 0, .int .i64 0, .bool false, .int .i64 0, .int .i64 0, .int .i64 0, .int .i64 0, .int .i32 0] 35).call b1).alloc (.cells #[.int .i64 F.base, .int .u32 F.len, .int .u8 F.mark, .int .u32 F.sum, .int .u16 F.st, .int .u32 F.cnt, .int .i64 F.first, .int .i64 F.grt, .int .i64 F.prod, .int .i32 F.seq] 59)
  have F1 : (w1.alloc (.cells #[.int .i64 F.base, .int .u32 F.len, .int .u8 F.mark, .int .u32 F.sum, .int .u16 F.st, .int .u32 F.cnt, .int .i64 F.first, .int .i64 F.grt, .int .i64 F.prod, .int .i32 F.seq] 59)).heap[w1.heap.size]? = some (.cells #[.int .i64 F.base, .int .u32 F.len, .int .u8 F.mark, .int .u32 F.sum, .int .u16 F.st, .int .u32 F.cnt, .int .i64 F.first, .int .i64 F.grt, .int .i64 F.prod, .int .i32 F.seq] 59 (0, 0)) := heap_new _ _
  obtain ⟨W1, hW1⟩ : ∃ x, w1.alloc (.cells #[.int .i64 F.base, .int .u32 F.len, .int .u8 F.mark, .int .u32 F.sum, .int .u16 F.st, .int .u32 F.cnt, .int .i64 F.first, .int .i64 F.grt, .int .i64 F.prod, .int .i32 F.seq] 59) = x := ⟨_, rfl⟩
  rw [hW1] at X1 F1
  obtain ⟨f0, f1, f2, f3, f4, f5, f6, f7, f8, f9⟩ := cells10 F1
  clear b1
  go_wp2_with fail
  refine (CH.out _).mono ?_
  rintro e w2 ⟨rfl, b2⟩
  have X2 := (X1.call b2).alloc (.cells #[.int .i64 F.base, .int .i64 L, .bool (decide (F.st = 1)), .int .i64 F.cnt, .int .i64 F.first, .int .i64 F.grt, .int .i64 F.prod, .int .i32 F.seq] 35)
  have F2 := heap_alloc_at (o' := .cells #[.int .i64 F.base, .int .i64 L, .bool (decide (F.st = 1)), .int .i64 F.cnt, .int .i64 F.first, .int .i64 F.grt, .int .i64 F.prod, .int .i32 F.seq] 35) (keep F1 b2)
  have H2 : (w2.alloc (.cells #[.int .i64 F.base, .int .i64 L, .bool (decide (F.st = 1)), .int .i64 F.cnt, .int .i64 F.first, .int .i64 F.grt, .int .i64 F.prod, .int .i32 F.seq] 35)).heap[w2.heap.size]? = some (.cells #[.int .i64 F.base, .int .i64 L, .bool (decide (F.st = 1)), .int .i64 F.cnt, .int .i64 F.first, .int .i64 F.grt, .int .i64 F.prod, .int .i32 F.seq] 35 (0, 0)) := heap_new _ _
  obtain ⟨W2, hW2⟩ : ∃ x, w2.alloc (.cells #[.int .i64 F.base, .int .i64 L, .bool (decide (F.st = 1)), .int .i64 F.cnt, .int .i64 F.first, .int .i64 F.grt, .int .i64 F.prod, .int .i32 F.seq] 35) = x := ⟨_, rfl⟩
  rw [hW2] at X2 F2 H2
  have O2 : Ow w F L w1.heap.size w2.heap.size W2 := ⟨X2, F2, H2⟩
  clear f0 f1 f2 f3 f4 f5 f6 f7 f8 f9 b2 X2 F2 H2 X1 F1
  go_wp2_with fail
  have CWO : Hid (∀ x, Ow w F L w1.heap.size w2.heap.size x → Calls Tryz.prog 68 #[.string s, .agg #[.int .i64 F.base, .int .u32 F.len, .int .u8 F.mark, .int .u32 F.sum, .int .u16 F.st, .int .u32 F.cnt, .int .i64 F.first, .int .i64 F.grt, .int .i64 F.prod, .int .i32 F.seq], .int .i64 FR] x fun e w' => e = .returned (.int .i64 WE) ∧ Ow w F L w1.heap.size w2.heap.size w') := fun x hx => (CW.out x).mono fun e w' h => ⟨h.1, hx.call h.2⟩
  go_region_held3 (fun x => x.cell? ⟨w1.heap.size, 0, none⟩ = some (.int .i64 F.base) ∧ x.cell? ⟨w1.heap.size, 1, none⟩ = some (.int .u32 F.len) ∧ x.cell? ⟨w1.heap.size, 2, none⟩ = some (.int .u8 F.mark) ∧ x.cell? ⟨w1.heap.size, 3, none⟩ = some (.int .u32 F.sum) ∧ x.cell? ⟨w1.heap.size, 4, none⟩ = some (.int .u16 F.st) ∧ x.cell? ⟨w1.heap.size, 5, none⟩ = some (.int .u32 F.cnt) ∧ x.cell? ⟨w1.heap.size, 6, none⟩ = some (.int .i64 F.first) ∧ x.cell? ⟨w1.heap.size, 7, none⟩ = some (.int .i64 F.grt) ∧ x.cell? ⟨w1.heap.size, 8, none⟩ = some (.int .i64 F.prod) ∧ x.cell? ⟨w1.heap.size, 9, none⟩ = some (.int .i32 F.seq)) (first | with_reducible exact cells10 O2.f | with_reducible exact cells10 O2.drew.f | with_reducible exact cells10 (Ow.f (by assumption))) (first | (go_at_call 69; refine (CN1.out _).mono ?_; rintro e w3 ⟨rfl, rfl⟩) | (go_at_call 68; with_reducible refine (CWO.out _ ?_).mono ?_; (first | exact O2.drew | exact O2); rintro e w3 ⟨rfl, O3⟩))
  have X3 := O3.r
  obtain ⟨r0, r1, r2, r3, r4, r5, r6, r7⟩ := cells8 X3.p
  obtain ⟨z0, z1, z2, z3, z4, z5, z6, z7⟩ := froz8 X3.p
  clear O3 O2
  go_wp2_with fail
  clear r0 r1 r2 r3 r4 r5 r6 r7 z0 z1 z2 z3 z4 z5 z6 z7
  have P := put8' X3 (.int .i64 0) (.int .i64 0) (.bool false) (.int .i64 0) (.int .i64 0) (.int .i64 0) (.int .i64 0) (.int .i32 0)
  generalize ((((((((w3.setCell ⟨w.heap.size, 0, none⟩ (.int .i64 0)).setCell ⟨w.heap.size, 1, none⟩ (.int .i64 0)).setCell ⟨w.heap.size, 2, none⟩ (.bool false)).setCell ⟨w.heap.size, 3, none⟩ (.int .i64 0)).setCell ⟨w.heap.size, 4, none⟩ (.int .i64 0)).setCell ⟨w.heap.size, 5, none⟩ (.int .i64 0)).setCell ⟨w.heap.size, 6, none⟩ (.int .i64 0)).setCell ⟨w.heap.size, 7, none⟩ (.int .i32 0)) = WF at *
  obtain ⟨e0, e1, e2, e3, e4, e5, e6, e7⟩ := cells8 P.p
  exact bodyPost_ret (v := .tuple #[.agg #[.int .i64 0, .int .i64 0, .bool false, .int .i64 0, .int .i64 0, .int .i64 0, .int .i64 0, .int .i32 0], .string ⟨#[]⟩, .int .i64 WE]) (by simp [results, Tryz.results37, go_sem, e0, e1, e2, e3, e4, e5, e6, e7]) rfl ⟨rfl, P.b⟩

end Go.Proofs.YtihokphamgkkcaaGreat
namespace Go.Proofs.YtihokphamgkkcaaGreat
open Go.RowKit
theorem Ow.two {w : World} {F : Fs} {L : Nat} {g1 g2 : Nat} {x : World} (h : Ow w F L g1 g2 x) : x.cell? ⟨g2, 1, none⟩ = some (.int .i64 L) ∧ x.cell? ⟨g1, 4, none⟩ = some (.int .u16 F.st) := ⟨(cells8 h.h).2.1, (cells10 h.f).2.2.2.2.1⟩
set_option maxHeartbeats 2000000 in
set_option maxRecDepth 20000 in
theorem open_body (s : ByteArray) (frame plain : Int) (F : Fs) (L : Nat) (w : World) (FR PL : Int) (E : Nat) (h0 : ¬ E = 0) (hL1 : 51 ≤ L) (hL2 : L ≤ s.size) (hL3 : L ≤ 16777216)
    (CP : Hid (∀ w, Calls Tryz.prog 34 #[.string s] w fun e w' => e = .returned (.tuple #[.agg #[.int .i64 F.base, .int .u32 F.len, .int .u8 F.mark, .int .u32 F.sum, .int .u16 F.st, .int .u32 F.cnt, .int .i64 F.first, .int .i64 F.grt, .int .i64 F.prod, .int .i32 F.seq], .int .i64 0]) ∧ Below w.heap.size w w'))
    (CH : Hid (∀ w, Calls Tryz.prog 35 #[.agg #[.int .i64 F.base, .int .u32 F.len, .int .u8 F.mark, .int .u32 F.sum, .int .u16 F.st, .int .u32 F.cnt, .int .i64 F.first, .int .i64 F.grt, .int .i64 F.prod, .int .i32 F.seq]] w fun e w' => e = .returned (.agg #[.int .i64 F.base, .int .i64 L, .bool (decide (F.st = 1)), .int .i64 F.cnt, .int .i64 F.first, .int .i64 F.grt, .int .i64 F.prod, .int .i32 F.seq]) ∧ Below w.heap.size w w'))
    (CW : Hid (∀ w, Calls Tryz.prog 68 #[.string s, .agg #[.int .i64 F.base, .int .u32 F.len, .int .u8 F.mark, .int .u32 F.sum, .int .u16 F.st, .int .u32 F.cnt, .int .i64 F.first, .int .i64 F.grt, .int .i64 F.prod, .int .i32 F.seq], .int .i64 FR] w fun e w' => e = .returned (.int .i64 (0 : Nat)) ∧ Below w.heap.size w w'))
    (CN1 : Hid (∀ w, Calls Tryz.prog 69 #[.int .i64 frame, .int .i64 58, .int .i64 16777216] w fun e w' => e = .returned (.int .i64 FR) ∧ w' = w))
    (CN2 : Hid (∀ w, Calls Tryz.prog 69 #[.int .i64 plain, .int .i64 7, .int .i64 16777216] w fun e w' => e = .returned (.int .i64 PL) ∧ w' = w))
    (CB : Hid (∀ w, Calls Tryz.prog 70 #[.string (s.extract 51 L), .int .u16 F.st, .int .i64 PL] w fun e w' => e = .returned (.tuple #[.string ⟨#[]⟩, .int .i64 E]) ∧ Below w.heap.size w w')) :
    Calls Tryz.prog 37 #[.string s, .int .i64 frame, .int .i64 plain] w fun e w' => e = .returned (.tuple #[noHd, .string ⟨#[]⟩, .int .i64 E]) ∧ Below w.heap.size w w' := by
  unfold noHd
  have h0' : ¬ (E : Int) = 0 := by omega
  have d1 : (51 : Int) ≤ L := by omega
  have d2 : (L : Int) ≤ s.size := by omega
  go_enter Tryz.func37, Tryz.ntmps37
  go_wp2_with fail
  refine (CP.out _).mono ?_
  rintro e w1 ⟨rfl, b1⟩
  have X1 := ((Bx1.new w #[.int .i64 0, .int .i64 0, .bool false, .int .i64 0, .int .i64 0, .int .i64 0, .int .i64 0, .int .i32 0] 35).call b1).alloc (.cells #[.int .i64 F.base, .int .u32 F.len, .int .u8 F.mark, .int .u32 F.sum, .int .u16 F.st, .int .u32 F.cnt, .int .i64 F.first, .int .i64 F.grt, .int .i64 F.prod, .int .i32 F.seq] 59)
  have F1 : (w1.alloc (.cells #[.int .i64 F.base, .int .u32 F.len, .int .u8 F.mark, .int .u32 F.sum, .int .u16 F.st, .int .u32 F.cnt, .int .i64 F.first, .int .i64 F.grt, .int .i64 F.prod, .int .i32 F.seq] 59)).heap[w1.heap.size]? = some (.cells #[.int .i64 F.base, .int .u32 F.len, .int .u8 F.mark, .int .u32 F.sum, .int .u16 F.st, .int .u32 F.cnt, .int .i64 F.first, .int .i64 F.grt, .int .i64 F.prod, .int .i32 F.seq] 59 (0, 0)) := heap_new _ _
  obtain ⟨W1, hW1⟩ : ∃ x, w1.alloc (.cells #[.int .i64 F.base, .int .u32 F.len, .int .u8 F.mark, .int .u32 F.sum, .int .u16 F.st, .int .u32 F.cnt, .int .i64 F.first, .int .i64 F.grt, .int .i64 F.prod, .int .i32 F.seq] 59) = x := ⟨_, rfl⟩
  rw [hW1] at X1 F1
  obtain ⟨f0, f1, f2, f3, f4, f5, f6, f7, f8, f9⟩ := cells10 F1
  clear b1
  go_wp2_with fail
  refine (CH.out _).mono ?_
  rintro e w2 ⟨rfl, b2⟩
  have X2 := (X1.call b2).alloc (.cells #[.int .i64 F.base, .int .i64 L, .bool (decide (F.st = 1)), .int .i64 F.cnt, .int .i64 F.first, .int .i64 F.grt, .int .i64 F.prod, .int .i32 F.seq] 35)
  have F2 := heap_alloc_at (o' := .cells #[.int .i64 F.base, .int .i64 L, .bool (decide (F.st = 1)), .int .i64 F.cnt, .int .i64 F.first, .int .i64 F.grt, .int .i64 F.prod, .int .i32 F.seq] 35) (keep F1 b2)
  have H2 : (w2.alloc (.cells #[.int .i64 F.base, .int .i64 L, .bool (decide (F.st = 1)), .int .i64 F.cnt, .int .i64 F.first, .int .i64 F.grt, .int .i64 F.prod, .int .i32 F.seq] 35)).heap[w2.heap.size]? = some (.cells #[.int .i64 F.base, .int .i64 L, .bool (decide (F.st = 1)), .int .i64 F.cnt, .int .i64 F.first, .int .i64 F.grt, .int .i64 F.prod, .int .i32 F.seq] 35 (0, 0)) := heap_new _ _
  obtain ⟨W2, hW2⟩ : ∃ x, w2.alloc (.cells #[.int .i64 F.base, .int .i64 L, .bool (decide (F.st = 1)), .int .i64 F.cnt, .int .i64 F.first, .int .i64 F.grt, .int .i64 F.prod, .int .i32 F.seq] 35) = x := ⟨_, rfl⟩
  rw [hW2] at X2 F2 H2
  have O2 : Ow w F L w1.heap.size w2.heap.size W2 := ⟨X2, F2, H2⟩
  clear f0 f1 f2 f3 f4 f5 f6 f7 f8 f9 b2 X2 F2 H2 X1 F1
  go_wp2_with fail
  have CWO : Hid (∀ x, Ow w F L w1.heap.size w2.heap.size x → Calls Tryz.prog 68 #[.string s, .agg #[.int .i64 F.base, .int .u32 F.len, .int .u8 F.mark, .int .u32 F.sum, .int .u16 F.st, .int .u32 F.cnt, .int .i64 F.first, .int .i64 F.grt, .int .i64 F.prod, .int .i32 F.seq], .int .i64 FR] x fun e w' => e = .returned (.int .i64 (0 : Nat)) ∧ Ow w F L w1.heap.size w2.heap.size w') := fun x hx => (CW.out x).mono fun e w' h => ⟨h.1, hx.call h.2⟩
  go_region_held3 (fun x => x.cell? ⟨w1.heap.size, 0, none⟩ = some (.int .i64 F.base) ∧ x.cell? ⟨w1.heap.size, 1, none⟩ = some (.int .u32 F.len) ∧ x.cell? ⟨w1.heap.size, 2, none⟩ = some (.int .u8 F.mark) ∧ x.cell? ⟨w1.heap.size, 3, none⟩ = some (.int .u32 F.sum) ∧ x.cell? ⟨w1.heap.size, 4, none⟩ = some (.int .u16 F.st) ∧ x.cell? ⟨w1.heap.size, 5, none⟩ = some (.int .u32 F.cnt) ∧ x.cell? ⟨w1.heap.size, 6, none⟩ = some (.int .i64 F.first) ∧ x.cell? ⟨w1.heap.size, 7, none⟩ = some (.int .i64 F.grt) ∧ x.cell? ⟨w1.heap.size, 8, none⟩ = some (.int .i64 F.prod) ∧ x.cell? ⟨w1.heap.size, 9, none⟩ = some (.int .i32 F.seq)) (first | with_reducible exact cells10 O2.f | with_reducible exact cells10 O2.drew.f | with_reducible exact cells10 (Ow.f (by assumption))) (first | (go_at_call 69; refine (CN1.out _).mono ?_; rintro e w3 ⟨rfl, rfl⟩) | (go_at_call 68; with_reducible refine (CWO.out _ ?_).mono ?_; (first | exact O2.drew | exact O2); rintro e w3 ⟨rfl, O3⟩))
  clear O2
  go_wp2_with fail
  have CBO : Hid (∀ x, Ow w F L w1.heap.size w2.heap.size x → Calls Tryz.prog 70 #[.string (s.extract 51 L), .int .u16 F.st, .int .i64 PL] x fun e w' => e = .returned (.tuple #[.string ⟨#[]⟩, .int .i64 E]) ∧ Ow w F L w1.heap.size w2.heap.size w') := fun x hx => (CB.out x).mono fun e w' h => ⟨h.1, hx.call h.2⟩
  go_region_held3 (fun x => x.cell? ⟨w2.heap.size, 1, none⟩ = some (.int .i64 L) ∧ x.cell? ⟨w1.heap.size, 4, none⟩ = some (.int .u16 F.st)) (first | with_reducible exact O3.two | with_reducible exact O3.drew.two | with_reducible exact Ow.two (by assumption)) (first | (go_at_call 69; refine (CN2.out _).mono ?_; rintro e w4 ⟨rfl, rfl⟩) | (go_at_call 70; with_reducible refine (CBO.out _ ?_).mono ?_; (first | exact O3.drew | exact O3); rintro e w4 ⟨rfl, O4⟩))
  have X4 := O4.r
  obtain ⟨r0, r1, r2, r3, r4, r5, r6, r7⟩ := cells8 X4.p
  obtain ⟨z0, z1, z2, z3, z4, z5, z6, z7⟩ := froz8 X4.p
  clear O3 O4
  go_wp2_with fail
  clear r0 r1 r2 r3 r4 r5 r6 r7 z0 z1 z2 z3 z4 z5 z6 z7
  have P := put8' X4 (.int .i64 0) (.int .i64 0) (.bool false) (.int .i64 0) (.int .i64 0) (.int .i64 0) (.int .i64 0) (.int .i32 0)
  generalize ((((((((w4.setCell ⟨w.heap.size, 0, none⟩ (.int .i64 0)).setCell ⟨w.heap.size, 1, none⟩ (.int .i64 0)).setCell ⟨w.heap.size, 2, none⟩ (.bool false)).setCell ⟨w.heap.size, 3, none⟩ (.int .i64 0)).setCell ⟨w.heap.size, 4, none⟩ (.int .i64 0)).setCell ⟨w.heap.size, 5, none⟩ (.int .i64 0)).setCell ⟨w.heap.size, 6, none⟩ (.int .i64 0)).setCell ⟨w.heap.size, 7, none⟩ (.int .i32 0)) = WF at *
  obtain ⟨e0, e1, e2, e3, e4, e5, e6, e7⟩ := cells8 P.p
  exact bodyPost_ret (v := .tuple #[.agg #[.int .i64 0, .int .i64 0, .bool false, .int .i64 0, .int .i64 0, .int .i64 0, .int .i64 0, .int .i32 0], .string ⟨#[]⟩, .int .i64 E]) (by simp [results, Tryz.results37, go_sem, e0, e1, e2, e3, e4, e5, e6, e7]) rfl ⟨rfl, P.b⟩
set_option maxHeartbeats 2000000 in
set_option maxRecDepth 20000 in
theorem open_last (s : ByteArray) (frame plain : Int) (F : Fs) (L : Nat) (w : World) (FR PL : Int) (B : ByteArray) (E : Nat) (hL1 : 51 ≤ L) (hL2 : L ≤ s.size) (hL3 : L ≤ 16777216)
    (CP : Hid (∀ w, Calls Tryz.prog 34 #[.string s] w fun e w' => e = .returned (.tuple #[.agg #[.int .i64 F.base, .int .u32 F.len, .int .u8 F.mark, .int .u32 F.sum, .int .u16 F.st, .int .u32 F.cnt, .int .i64 F.first, .int .i64 F.grt, .int .i64 F.prod, .int .i32 F.seq], .int .i64 0]) ∧ Below w.heap.size w w'))
    (CH : Hid (∀ w, Calls Tryz.prog 35 #[.agg #[.int .i64 F.base, .int .u32 F.len, .int .u8 F.mark, .int .u32 F.sum, .int .u16 F.st, .int .u32 F.cnt, .int .i64 F.first, .int .i64 F.grt, .int .i64 F.prod, .int .i32 F.seq]] w fun e w' => e = .returned (.agg #[.int .i64 F.base, .int .i64 L, .bool (decide (F.st = 1)), .int .i64 F.cnt, .int .i64 F.first, .int .i64 F.grt, .int .i64 F.prod, .int .i32 F.seq]) ∧ Below w.heap.size w w'))
    (CW : Hid (∀ w, Calls Tryz.prog 68 #[.string s, .agg #[.int .i64 F.base, .int .u32 F.len, .int .u8 F.mark, .int .u32 F.sum, .int .u16 F.st, .int .u32 F.cnt, .int .i64 F.first, .int .i64 F.grt, .int .i64 F.prod, .int .i32 F.seq], .int .i64 FR] w fun e w' => e = .returned (.int .i64 (0 : Nat)) ∧ Below w.heap.size w w'))
    (CN1 : Hid (∀ w, Calls Tryz.prog 69 #[.int .i64 frame, .int .i64 58, .int .i64 16777216] w fun e w' => e = .returned (.int .i64 FR) ∧ w' = w))
    (CN2 : Hid (∀ w, Calls Tryz.prog 69 #[.int .i64 plain, .int .i64 7, .int .i64 16777216] w fun e w' => e = .returned (.int .i64 PL) ∧ w' = w))
    (CB : Hid (∀ w, Calls Tryz.prog 70 #[.string (s.extract 51 L), .int .u16 F.st, .int .i64 PL] w fun e w' => e = .returned (.tuple #[.string B, .int .i64 0]) ∧ Below w.heap.size w w'))
    (CC : Hid (∀ w, Calls Tryz.prog 71 #[.string B, .agg #[.int .i64 F.base, .int .i64 L, .bool (decide (F.st = 1)), .int .i64 F.cnt, .int .i64 F.first, .int .i64 F.grt, .int .i64 F.prod, .int .i32 F.seq]] w fun e w' => e = .returned (.int .i64 E) ∧ Below w.heap.size w w')) :
    Calls Tryz.prog 37 #[.string s, .int .i64 frame, .int .i64 plain] w fun e w' => e = .returned (if E = 0 then .tuple #[.agg #[.int .i64 F.base, .int .i64 L, .bool (decide (F.st = 1)), .int .i64 F.cnt, .int .i64 F.first, .int .i64 F.grt, .int .i64 F.prod, .int .i32 F.seq], .string B, .int .i64 0] else .tuple #[noHd, .string ⟨#[]⟩, .int .i64 E]) ∧ Below w.heap.size w w' := by
  unfold noHd
  have d1 : (51 : Int) ≤ L := by omega
  have d2 : (L : Int) ≤ s.size := by omega
  by_cases h0 : E = 0
  · subst h0
    rw [if_pos rfl]
    go_enter Tryz.func37, Tryz.ntmps37
    go_wp2_with fail
    refine (CP.out _).mono ?_
    rintro e w1 ⟨rfl, b1⟩
    have X1 := ((Bx1.new w #[.int .i64 0, .int .i64 0, .bool false, .int .i64 0, .int .i64 0, .int .i64 0, .int .i64 0, .int .i32 0] 35).call b1).alloc (.cells #[.int .i64 F.base, .int .u32 F.len, .int .u8 F.mark, .int .u32 F.sum, .int .u16 F.st, .int .u32 F.cnt, .int .i64 F.first, .int .i64 F.grt, .int .i64 F.prod, .int .i32 F.seq] 59)
    have F1 : (w1.alloc (.cells #[.int .i64 F.base, .int .u32 F.len, .int .u8 F.mark, .int .u32 F.sum, .int .u16 F.st, .int .u32 F.cnt, .int .i64 F.first, .int .i64 F.grt, .int .i64 F.prod, .int .i32 F.seq] 59)).heap[w1.heap.size]? = some (.cells #[.int .i64 F.base, .int .u32 F.len, .int .u8 F.mark, .int .u32 F.sum, .int .u16 F.st, .int .u32 F.cnt, .int .i64 F.first, .int .i64 F.grt, .int .i64 F.prod, .int .i32 F.seq] 59 (0, 0)) := heap_new _ _
    obtain ⟨W1, hW1⟩ : ∃ x, w1.alloc (.cells #[.int .i64 F.base, .int .u32 F.len, .int .u8 F.mark, .int .u32 F.sum, .int .u16 F.st, .int .u32 F.cnt, .int .i64 F.first, .int .i64 F.grt, .int .i64 F.prod, .int .i32 F.seq] 59) = x := ⟨_, rfl⟩
    rw [hW1] at X1 F1
    obtain ⟨f0, f1, f2, f3, f4, f5, f6, f7, f8, f9⟩ := cells10 F1
    clear b1
    go_wp2_with fail
    refine (CH.out _).mono ?_
    rintro e w2 ⟨rfl, b2⟩
    have X2 := (X1.call b2).alloc (.cells #[.int .i64 F.base, .int .i64 L, .bool (decide (F.st = 1)), .int .i64 F.cnt, .int .i64 F.first, .int .i64 F.grt, .int .i64 F.prod, .int .i32 F.seq] 35)
    have F2 := heap_alloc_at (o' := .cells #[.int .i64 F.base, .int .i64 L, .bool (decide (F.st = 1)), .int .i64 F.cnt, .int .i64 F.first, .int .i64 F.grt, .int .i64 F.prod, .int .i32 F.seq] 35) (keep F1 b2)
    have H2 : (w2.alloc (.cells #[.int .i64 F.base, .int .i64 L, .bool (decide (F.st = 1)), .int .i64 F.cnt, .int .i64 F.first, .int .i64 F.grt, .int .i64 F.prod, .int .i32 F.seq] 35)).heap[w2.heap.size]? = some (.cells #[.int .i64 F.base, .int .i64 L, .bool (decide (F.st = 1)), .int .i64 F.cnt, .int .i64 F.first, .int .i64 F.grt, .int .i64 F.prod, .int .i32 F.seq] 35 (0, 0)) := heap_new _ _
    obtain ⟨W2, hW2⟩ : ∃ x, w2.alloc (.cells #[.int .i64 F.base, .int .i64 L, .bool (decide (F.st = 1)), .int .i64 F.cnt, .int .i64 F.first, .int .i64 F.grt, .int .i64 F.prod, .int .i32 F.seq] 35) = x := ⟨_, rfl⟩
    rw [hW2] at X2 F2 H2
    have O2 : Ow w F L w1.heap.size w2.heap.size W2 := ⟨X2, F2, H2⟩
    clear f0 f1 f2 f3 f4 f5 f6 f7 f8 f9 b2 X2 F2 H2 X1 F1
    go_wp2_with fail
    have CWO : Hid (∀ x, Ow w F L w1.heap.size w2.heap.size x → Calls Tryz.prog 68 #[.string s, .agg #[.int .i64 F.base, .int .u32 F.len, .int .u8 F.mark, .int .u32 F.sum, .int .u16 F.st, .int .u32 F.cnt, .int .i64 F.first, .int .i64 F.grt, .int .i64 F.prod, .int .i32 F.seq], .int .i64 FR] x fun e w' => e = .returned (.int .i64 (0 : Nat)) ∧ Ow w F L w1.heap.size w2.heap.size w') := fun x hx => (CW.out x).mono fun e w' h => ⟨h.1, hx.call h.2⟩
    go_region_held3 (fun x => x.cell? ⟨w1.heap.size, 0, none⟩ = some (.int .i64 F.base) ∧ x.cell? ⟨w1.heap.size, 1, none⟩ = some (.int .u32 F.len) ∧ x.cell? ⟨w1.heap.size, 2, none⟩ = some (.int .u8 F.mark) ∧ x.cell? ⟨w1.heap.size, 3, none⟩ = some (.int .u32 F.sum) ∧ x.cell? ⟨w1.heap.size, 4, none⟩ = some (.int .u16 F.st) ∧ x.cell? ⟨w1.heap.size, 5, none⟩ = some (.int .u32 F.cnt) ∧ x.cell? ⟨w1.heap.size, 6, none⟩ = some (.int .i64 F.first) ∧ x.cell? ⟨w1.heap.size, 7, none⟩ = some (.int .i64 F.grt) ∧ x.cell? ⟨w1.heap.size, 8, none⟩ = some (.int .i64 F.prod) ∧ x.cell? ⟨w1.heap.size, 9, none⟩ = some (.int .i32 F.seq)) (first | with_reducible exact cells10 O2.f | with_reducible exact cells10 O2.drew.f | with_reducible exact cells10 (Ow.f (by assumption))) (first | (go_at_call 69; refine (CN1.out _).mono ?_; rintro e w3 ⟨rfl, rfl⟩) | (go_at_call 68; with_reducible refine (CWO.out _ ?_).mono ?_; (first | exact O2.drew | exact O2); rintro e w3 ⟨rfl, O3⟩))
    clear O2
    go_wp2_with fail
    have CBO : Hid (∀ x, Ow w F L w1.heap.size w2.heap.size x → Calls Tryz.prog 70 #[.string (s.extract 51 L), .int .u16 F.st, .int .i64 PL] x fun e w' => e = .returned (.tuple #[.string B, .int .i64 0]) ∧ Ow w F L w1.heap.size w2.heap.size w') := fun x hx => (CB.out x).mono fun e w' h => ⟨h.1, hx.call h.2⟩
    go_region_held3 (fun x => x.cell? ⟨w2.heap.size, 1, none⟩ = some (.int .i64 L) ∧ x.cell? ⟨w1.heap.size, 4, none⟩ = some (.int .u16 F.st)) (first | with_reducible exact O3.two | with_reducible exact O3.drew.two | with_reducible exact Ow.two (by assumption)) (first | (go_at_call 69; refine (CN2.out _).mono ?_; rintro e w4 ⟨rfl, rfl⟩) | (go_at_call 70; with_reducible refine (CBO.out _ ?_).mono ?_; (first | exact O3.drew | exact O3); rintro e w4 ⟨rfl, O4⟩))
    obtain ⟨h0, h1, h2, h3, h4, h5, h6, h7⟩ := cells8 O4.h
    clear O3
    go_wp2_with fail
    refine (CC.out _).mono ?_
    rintro e w5 ⟨rfl, b5⟩
    have O5 := O4.call b5
    have X5 := O5.r
    clear O4 b5 h0 h1 h2 h3 h4 h5 h6 h7
    obtain ⟨h0, h1, h2, h3, h4, h5, h6, h7⟩ := cells8 O5.h
    obtain ⟨r0, r1, r2, r3, r4, r5, r6, r7⟩ := cells8 X5.p
    obtain ⟨z0, z1, z2, z3, z4, z5, z6, z7⟩ := froz8 X5.p
    clear O5
    go_wp2_with fail
    clear r0 r1 r2 r3 r4 r5 r6 r7 z0 z1 z2 z3 z4 z5 z6 z7
    have P := put8' X5 (.int .i64 F.base) (.int .i64 L) (.bool (decide (F.st = 1))) (.int .i64 F.cnt) (.int .i64 F.first) (.int .i64 F.grt) (.int .i64 F.prod) (.int .i32 F.seq)
    generalize ((((((((w5.setCell ⟨w.heap.size, 0, none⟩ (.int .i64 F.base)).setCell ⟨w.heap.size, 1, none⟩ (.int .i64 L)).setCell ⟨w.heap.size, 2, none⟩ (.bool (decide (F.st = 1)))).setCell ⟨w.heap.size, 3, none⟩ (.int .i64 F.cnt)).setCell ⟨w.heap.size, 4, none⟩ (.int .i64 F.first)).setCell ⟨w.heap.size, 5, none⟩ (.int .i64 F.grt)).setCell ⟨w.heap.size, 6, none⟩ (.int .i64 F.prod)).setCell ⟨w.heap.size, 7, none⟩ (.int .i32 F.seq)) = WF at *
    obtain ⟨e0, e1, e2, e3, e4, e5, e6, e7⟩ := cells8 P.p
    exact bodyPost_ret (v := .tuple #[.agg #[.int .i64 F.base, .int .i64 L, .bool (decide (F.st = 1)), .int .i64 F.cnt, .int .i64 F.first, .int .i64 F.grt, .int .i64 F.prod, .int .i32 F.seq], .string B, .int .i64 0]) (by simp [results, Tryz.results37, go_sem, e0, e1, e2, e3, e4, e5, e6, e7]) rfl ⟨rfl, P.b⟩
  · rw [if_neg h0]
    have h0' : ¬ (E : Int) = 0 := by omega
    go_enter Tryz.func37, Tryz.ntmps37
    go_wp2_with fail
    refine (CP.out _).mono ?_
    rintro e w1 ⟨rfl, b1⟩
    have X1 := ((Bx1.new w #[.int .i64 0, .int .i64 0, .bool false, .int .i64 0, .int .i64 0, .int .i64 0, .int .i64 0, .int .i32 0] 35).call b1).alloc (.cells #[.int .i64 F.base, .int .u32 F.len, .int .u8 F.mark, .int .u32 F.sum, .int .u16 F.st, .int .u32 F.cnt, .int .i64 F.first, .int .i64 F.grt, .int .i64 F.prod, .int .i32 F.seq] 59)
    have F1 : (w1.alloc (.cells #[.int .i64 F.base, .int .u32 F.len, .int .u8 F.mark, .int .u32 F.sum, .int .u16 F.st, .int .u32 F.cnt, .int .i64 F.first, .int .i64 F.grt, .int .i64 F.prod, .int .i32 F.seq] 59)).heap[w1.heap.size]? = some (.cells #[.int .i64 F.base, .int .u32 F.len, .int .u8 F.mark, .int .u32 F.sum, .int .u16 F.st, .int .u32 F.cnt, .int .i64 F.first, .int .i64 F.grt, .int .i64 F.prod, .int .i32 F.seq] 59 (0, 0)) := heap_new _ _
    obtain ⟨W1, hW1⟩ : ∃ x, w1.alloc (.cells #[.int .i64 F.base, .int .u32 F.len, .int .u8 F.mark, .int .u32 F.sum, .int .u16 F.st, .int .u32 F.cnt, .int .i64 F.first, .int .i64 F.grt, .int .i64 F.prod, .int .i32 F.seq] 59) = x := ⟨_, rfl⟩
    rw [hW1] at X1 F1
    obtain ⟨f0, f1, f2, f3, f4, f5, f6, f7, f8, f9⟩ := cells10 F1
    clear b1
    go_wp2_with fail
    refine (CH.out _).mono ?_
    rintro e w2 ⟨rfl, b2⟩
    have X2 := (X1.call b2).alloc (.cells #[.int .i64 F.base, .int .i64 L, .bool (decide (F.st = 1)), .int .i64 F.cnt, .int .i64 F.first, .int .i64 F.grt, .int .i64 F.prod, .int .i32 F.seq] 35)
    have F2 := heap_alloc_at (o' := .cells #[.int .i64 F.base, .int .i64 L, .bool (decide (F.st = 1)), .int .i64 F.cnt, .int .i64 F.first, .int .i64 F.grt, .int .i64 F.prod, .int .i32 F.seq] 35) (keep F1 b2)
    have H2 : (w2.alloc (.cells #[.int .i64 F.base, .int .i64 L, .bool (decide (F.st = 1)), .int .i64 F.cnt, .int .i64 F.first, .int .i64 F.grt, .int .i64 F.prod, .int .i32 F.seq] 35)).heap[w2.heap.size]? = some (.cells #[.int .i64 F.base, .int .i64 L, .bool (decide (F.st = 1)), .int .i64 F.cnt, .int .i64 F.first, .int .i64 F.grt, .int .i64 F.prod, .int .i32 F.seq] 35 (0, 0)) := heap_new _ _
    obtain ⟨W2, hW2⟩ : ∃ x, w2.alloc (.cells #[.int .i64 F.base, .int .i64 L, .bool (decide (F.st = 1)), .int .i64 F.cnt, .int .i64 F.first, .int .i64 F.grt, .int .i64 F.prod, .int .i32 F.seq] 35) = x := ⟨_, rfl⟩
    rw [hW2] at X2 F2 H2
    have O2 : Ow w F L w1.heap.size w2.heap.size W2 := ⟨X2, F2, H2⟩
    clear f0 f1 f2 f3 f4 f5 f6 f7 f8 f9 b2 X2 F2 H2 X1 F1
    go_wp2_with fail
    have CWO : Hid (∀ x, Ow w F L w1.heap.size w2.heap.size x → Calls Tryz.prog 68 #[.string s, .agg #[.int .i64 F.base, .int .u32 F.len, .int .u8 F.mark, .int .u32 F.sum, .int .u16 F.st, .int .u32 F.cnt, .int .i64 F.first, .int .i64 F.grt, .int .i64 F.prod, .int .i32 F.seq], .int .i64 FR] x fun e w' => e = .returned (.int .i64 (0 : Nat)) ∧ Ow w F L w1.heap.size w2.heap.size w') := fun x hx => (CW.out x).mono fun e w' h => ⟨h.1, hx.call h.2⟩
    go_region_held3 (fun x => x.cell? ⟨w1.heap.size, 0, none⟩ = some (.int .i64 F.base) ∧ x.cell? ⟨w1.heap.size, 1, none⟩ = some (.int .u32 F.len) ∧ x.cell? ⟨w1.heap.size, 2, none⟩ = some (.int .u8 F.mark) ∧ x.cell? ⟨w1.heap.size, 3, none⟩ = some (.int .u32 F.sum) ∧ x.cell? ⟨w1.heap.size, 4, none⟩ = some (.int .u16 F.st) ∧ x.cell? ⟨w1.heap.size, 5, none⟩ = some (.int .u32 F.cnt) ∧ x.cell? ⟨w1.heap.size, 6, none⟩ = some (.int .i64 F.first) ∧ x.cell? ⟨w1.heap.size, 7, none⟩ = some (.int .i64 F.grt) ∧ x.cell? ⟨w1.heap.size, 8, none⟩ = some (.int .i64 F.prod) ∧ x.cell? ⟨w1.heap.size, 9, none⟩ = some (.int .i32 F.seq)) (first | with_reducible exact cells10 O2.f | with_reducible exact cells10 O2.drew.f | with_reducible exact cells10 (Ow.f (by assumption))) (first | (go_at_call 69; refine (CN1.out _).mono ?_; rintro e w3 ⟨rfl, rfl⟩) | (go_at_call 68; with_reducible refine (CWO.out _ ?_).mono ?_; (first | exact O2.drew | exact O2); rintro e w3 ⟨rfl, O3⟩))
    clear O2
    go_wp2_with fail
    have CBO : Hid (∀ x, Ow w F L w1.heap.size w2.heap.size x → Calls Tryz.prog 70 #[.string (s.extract 51 L), .int .u16 F.st, .int .i64 PL] x fun e w' => e = .returned (.tuple #[.string B, .int .i64 0]) ∧ Ow w F L w1.heap.size w2.heap.size w') := fun x hx => (CB.out x).mono fun e w' h => ⟨h.1, hx.call h.2⟩
    go_region_held3 (fun x => x.cell? ⟨w2.heap.size, 1, none⟩ = some (.int .i64 L) ∧ x.cell? ⟨w1.heap.size, 4, none⟩ = some (.int .u16 F.st)) (first | with_reducible exact O3.two | with_reducible exact O3.drew.two | with_reducible exact Ow.two (by assumption)) (first | (go_at_call 69; refine (CN2.out _).mono ?_; rintro e w4 ⟨rfl, rfl⟩) | (go_at_call 70; with_reducible refine (CBO.out _ ?_).mono ?_; (first | exact O3.drew | exact O3); rintro e w4 ⟨rfl, O4⟩))
    obtain ⟨h0, h1, h2, h3, h4, h5, h6, h7⟩ := cells8 O4.h
    clear O3
    go_wp2_with fail
    refine (CC.out _).mono ?_
    rintro e w5 ⟨rfl, b5⟩
    have X5 := (O4.call b5).r
    clear O4 b5 h0 h1 h2 h3 h4 h5 h6 h7
    obtain ⟨r0, r1, r2, r3, r4, r5, r6, r7⟩ := cells8 X5.p
    obtain ⟨z0, z1, z2, z3, z4, z5, z6, z7⟩ := froz8 X5.p
    go_wp2_with fail
    clear r0 r1 r2 r3 r4 r5 r6 r7 z0 z1 z2 z3 z4 z5 z6 z7
    have P := put8' X5 (.int .i64 0) (.int .i64 0) (.bool false) (.int .i64 0) (.int .i64 0) (.int .i64 0) (.int .i64 0) (.int .i32 0)
    generalize ((((((((w5.setCell ⟨w.heap.size, 0, none⟩ (.int .i64 0)).setCell ⟨w.heap.size, 1, none⟩ (.int .i64 0)).setCell ⟨w.heap.size, 2, none⟩ (.bool false)).setCell ⟨w.heap.size, 3, none⟩ (.int .i64 0)).setCell ⟨w.heap.size, 4, none⟩ (.int .i64 0)).setCell ⟨w.heap.size, 5, none⟩ (.int .i64 0)).setCell ⟨w.heap.size, 6, none⟩ (.int .i64 0)).setCell ⟨w.heap.size, 7, none⟩ (.int .i32 0)) = WF at *
    obtain ⟨e0, e1, e2, e3, e4, e5, e6, e7⟩ := cells8 P.p
    exact bodyPost_ret (v := .tuple #[.agg #[.int .i64 0, .int .i64 0, .bool false, .int .i64 0, .int .i64 0, .int .i64 0, .int .i64 0, .int .i32 0], .string ⟨#[]⟩, .int .i64 E]) (by simp [results, Tryz.results37, go_sem, e0, e1, e2, e3, e4, e5, e6, e7]) rfl ⟨rfl, P.b⟩
end Go.Proofs.YtihokphamgkkcaaGreat
namespace Go.Proofs.YtihokphamgkkcaaGreat
open Go.RowKit
theorem un_len' (len : Nat) : ∀ (n : Nat) (p out F : List UInt8), p.length = n → out.length ≤ len → Lz.M.un len p out = .ok F → F.length = len := by
  intro n
  induction n using Nat.strongRecOn with
  | ind n ih =>
    intro p out F hn ho h
    by_cases h0 : p.length = 0
    · rw [List.eq_nil_of_length_eq_zero h0, Lz.M.un_nil] at h
      split at h
      · cases h
      · injection h with h; subst h; omega
    · rw [Lz.M.un_step h0] at h
      cases hf : Lz.M.fst' p with
      | error e => rw [hf] at h; cases h
      | ok tn =>
        obtain ⟨t, m⟩ := tn
        rw [hf] at h
        simp only at h
        have hok := Lz.M.fst_ok h0 hf
        split at h
        · cases h
        · rename_i hd
          split at h
          · cases h
          · refine ih (p.drop m).length (by simp; omega) _ _ _ rfl ?_ h
            have := Lz.M.app_len out t
            omega
theorem un_len {n : Nat} {p F : List UInt8} (h : Lz.M.un n p [] = .ok F) : F.length = n := un_len' n _ p [] F rfl (Nat.zero_le _) h
theorem wth_in (n a b : Int) (h : a ≤ b) : a ≤ wth n a b ∧ wth n a b ≤ b := by unfold wth; omega
theorem whe_zero {s : ByteArray} {f : Fs} {m : Int} (h : whe s f m = 0) : ¬ m < (12 + f.len : Nat) ∧ ¬ s.size < 12 + f.len := by
  unfold whe at h
  split at h
  · cases h
  · rename_i h1
    split at h
    · cases h
    · exact ⟨h1, by assumption⟩
theorem open_any (s : ByteArray) (frame plain : Int) (w : World) (hs : s.size ≤ 9223372036854775807) :
    Calls Tryz.prog 37 #[.string s, .int .i64 frame, .int .i64 plain] w fun e w' => e = .returned (OpnV (opn s frame plain)) ∧ Below w.heap.size w w' := by
  have cp := fun w => peek_any s w hs
  unfold PeekP at cp
  unfold opn
  by_cases h0 : pke s = 0
  · rw [if_pos h0] at cp
    rw [if_neg (fun h => h h0)]
    have hz : ¬ s.size < 51 := by intro h; rw [pke_short h] at h0; cases h0
    have hr : rgt (fsOf s) = true := by
      cases h : rgt (fsOf s) with
      | true => rfl
      | false => rw [pke_no hz h] at h0; cases h0
    have hf := fsOf_ok (s := s) (by omega)
    have R := rgt_iff.1 hr
    clear hr h0
    generalize fsOf s = F at *
    have hm1 := wth_in frame 58 16777216 (by omega)
    have hm2 := wth_in plain 7 16777216 (by omega)
    have CP := hid cp
    have CH := hid (fun w => b6head_any F w hf)
    have cw := fun w => checkWhole_any s F (wth frame 58 16777216) w hf R.l1
    have CN1 := hid (fun w => b6within_any frame 58 16777216 w)
    have CN2 := hid (fun w => b6within_any plain 7 16777216 w)
    unfold hdV at CH
    unfold fsV fsA at CP CH cw
    have l1 := R.l1
    have l2 := R.l2
    by_cases hw0 : whe s F (wth frame 58 16777216) = 0
    · rw [if_neg (fun h => h hw0)]
      obtain ⟨_, h3⟩ := whe_zero hw0
      rw [hw0] at cw
      have hes : (s.extract 51 (12 + F.len)).size ≤ 9223372036854775807 := by rw [ByteArray.size_extract]; omega
      have cb := fun w => bodyOf_any (s.extract 51 (12 + F.len)) F.st (wth plain 7 16777216) w hf.st (by omega) hm2.2 hes
      unfold BodV at cb
      cases hb : bod (s.extract 51 (12 + F.len)) F.st (wth plain 7 16777216) with
      | error x =>
        rw [hb] at cb
        dsimp only at cb ⊢
        have hx : ¬ x = 0 := by
          unfold bod at hb
          split at hb
          · split at hb
            · cases hb; decide
            · split at hb
              · cases hb; decide
              · split at hb
                · cases hb; decide
                · cases hb
          · split at hb
            · cases hb; decide
            · cases hb
        exact open_body s frame plain F (12 + F.len) w _ _ x hx (by omega) (by omega) (by omega) CP CH (hid cw) CN1 CN2 (hid cb)
      | ok b =>
        rw [hb] at cb
        dsimp only at cb ⊢
        have hbs : b.size ≤ 16777216 := by
          unfold bod at hb
          split at hb
          · split at hb
            · cases hb
            · split at hb
              · cases hb
              · rename_i hn
                split at hb
                · cases hb
                · rename_i T hu
                  cases hb
                  rw [Lz.ba_size]
                  have := un_len hu
                  omega
          · split at hb
            · cases hb
            · cases hb; omega
        have cc := fun w => checkBody_any b F w hf ⟨R.c1, R.c2⟩ (by omega)
        unfold hdV at cc
        have K := open_last s frame plain F (12 + F.len) w _ _ b (cbe b F) (by omega) (by omega) (by omega) CP CH (hid cw) CN1 CN2 (hid cb) (hid cc)
        by_cases hc : cbe b F = 0
        · rw [if_pos hc] at K
          rw [if_neg (fun h => h hc)]
          exact K
        · rw [if_neg hc] at K
          rw [if_pos hc]
          exact K
    · rw [if_pos hw0]
      exact open_whole s frame plain F (12 + F.len) w _ _ hw0 CP CH (hid cw) CN1
  · rw [if_neg h0] at cp
    rw [if_pos h0]
    exact open_peek s frame plain _ w h0 cp
end Go.Proofs.YtihokphamgkkcaaGreat
namespace Go.Proofs.YtihokphamgkkcaaGreat
open Go.RowKit
set_option maxHeartbeats 1000000 in
set_option maxRecDepth 20000 in
theorem check_of (s : ByteArray) (frame plain : Int) (b0 b1 : Int) (b2 : Bool) (b3 b4 b5 b6 b7 : Int) (B : ByteArray) (E : Nat) (w : World)
    (CO : Hid (∀ w, Calls Tryz.prog 37 #[.string s, .int .i64 frame, .int .i64 plain] w fun e w' => e = .returned (.tuple #[.agg #[.int .i64 b0, .int .i64 b1, .bool b2, .int .i64 b3, .int .i64 b4, .int .i64 b5, .int .i64 b6, .int .i32 b7], .string B, .int .i64 E]) ∧ Below w.heap.size w w')) :
    Calls Tryz.prog 14 #[.string s, .int .i64 frame, .int .i64 plain] w fun e w' => e = .returned (.tuple #[.agg #[.int .i64 b0, .int .i64 b1, .bool b2, .int .i64 b3, .int .i64 b4, .int .i64 b5, .int .i64 b6, .int .i32 b7], .int .i64 E]) ∧ Below w.heap.size w w' := by
  go_enter Tryz.func14, Tryz.ntmps14
  go_wp2_with fail
  refine (CO.out _).mono ?_
  rintro e w1 ⟨rfl, b1'⟩
  have X1 := ((Bx1.new w #[.int .i64 0, .int .i64 0, .bool false, .int .i64 0, .int .i64 0, .int .i64 0, .int .i64 0, .int .i32 0] 35).call b1').alloc (.cells #[.int .i64 b0, .int .i64 b1, .bool b2, .int .i64 b3, .int .i64 b4, .int .i64 b5, .int .i64 b6, .int .i32 b7] 35)
  have H1 : (w1.alloc (.cells #[.int .i64 b0, .int .i64 b1, .bool b2, .int .i64 b3, .int .i64 b4, .int .i64 b5, .int .i64 b6, .int .i32 b7] 35)).heap[w1.heap.size]? = some (.cells #[.int .i64 b0, .int .i64 b1, .bool b2, .int .i64 b3, .int .i64 b4, .int .i64 b5, .int .i64 b6, .int .i32 b7] 35 (0, 0)) := heap_new _ _
  obtain ⟨h0, h1, h2, h3, h4, h5, h6, h7⟩ := cells8 H1
  obtain ⟨r0, r1, r2, r3, r4, r5, r6, r7⟩ := cells8 X1.p
  obtain ⟨z0, z1, z2, z3, z4, z5, z6, z7⟩ := froz8 X1.p
  clear b1' H1
  go_wp2_with fail
  clear r0 r1 r2 r3 r4 r5 r6 r7 z0 z1 z2 z3 z4 z5 z6 z7 h0 h1 h2 h3 h4 h5 h6 h7
  have P := put8' X1 (.int .i64 b0) (.int .i64 b1) (.bool b2) (.int .i64 b3) (.int .i64 b4) (.int .i64 b5) (.int .i64 b6) (.int .i32 b7)
  generalize (((((((((w1.alloc (.cells #[.int .i64 b0, .int .i64 b1, .bool b2, .int .i64 b3, .int .i64 b4, .int .i64 b5, .int .i64 b6, .int .i32 b7] 35)).setCell ⟨w.heap.size, 0, none⟩ (.int .i64 b0)).setCell ⟨w.heap.size, 1, none⟩ (.int .i64 b1)).setCell ⟨w.heap.size, 2, none⟩ (.bool b2)).setCell ⟨w.heap.size, 3, none⟩ (.int .i64 b3)).setCell ⟨w.heap.size, 4, none⟩ (.int .i64 b4)).setCell ⟨w.heap.size, 5, none⟩ (.int .i64 b5)).setCell ⟨w.heap.size, 6, none⟩ (.int .i64 b6)).setCell ⟨w.heap.size, 7, none⟩ (.int .i32 b7)) = WF at *
  obtain ⟨e0, e1, e2, e3, e4, e5, e6, e7⟩ := cells8 P.p
  exact bodyPost_ret (v := .tuple #[.agg #[.int .i64 b0, .int .i64 b1, .bool b2, .int .i64 b3, .int .i64 b4, .int .i64 b5, .int .i64 b6, .int .i32 b7], .int .i64 E]) (by simp [results, Tryz.results14, go_sem, e0, e1, e2, e3, e4, e5, e6, e7]) rfl ⟨rfl, P.b⟩
theorem check6_any (s : ByteArray) (frame plain : Int) (w : World) (hs : s.size ≤ 9223372036854775807) :
    Calls Tryz.prog 14 #[.string s, .int .i64 frame, .int .i64 plain] w fun e w' => e = .returned (ChkV (opn s frame plain)) ∧ Below w.heap.size w w' := by
  have co := fun w => open_any s frame plain w hs
  unfold OpnV at co
  unfold ChkV
  cases h : opn s frame plain with
  | error x =>
    rw [h] at co
    dsimp only at co ⊢
    unfold noHd at *
    exact check_of s frame plain 0 0 false 0 0 0 0 0 ⟨#[]⟩ x w (hid co)
  | ok y =>
    obtain ⟨f, b⟩ := y
    rw [h] at co
    dsimp only at co ⊢
    unfold hdV at *
    exact check_of s frame plain _ _ _ _ _ _ _ _ b 0 w (hid co)
end Go.Proofs.YtihokphamgkkcaaGreat
namespace Go.Proofs.YtihokphamgkkcaaGreat
open Go.RowKit
theorem behind_any (f : Fs) (w : World) (h : Right f) : Calls Tryz.prog 24 #[hdV f] w fun e w' => e = .returned (.int .i64 (f.base + f.cnt)) ∧ Below w.heap.size w w' := by
  have h1 := h.b
  have h2 := h.c2
  unfold hdV
  go_enter Tryz.func24, Tryz.ntmps24
  go_wp2
  go_ret
  exact ⟨rfl, (Below.refl _ _).alloc (Nat.le_refl _) _⟩
end Go.Proofs.YtihokphamgkkcaaGreat
