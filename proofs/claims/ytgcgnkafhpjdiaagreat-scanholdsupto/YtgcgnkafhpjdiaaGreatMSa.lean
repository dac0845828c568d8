/- Texts of the proof, put together: Scm, Slk. -/
import Derived.Test.YtgcgnkafhpjdiaaGreatMB3
namespace Go.Proofs.YtgcgnkafhpjdiaaGreat
open Go.RowKit
theorem opn_parts {s : ByteArray} {frame plain : Int} {f : Fs} {b : ByteArray} (h : opn s frame plain = .ok (f, b)) : pke s = 0 ∧ fsOf s = f ∧ whe s f (wth frame 58 16777216) = 0 ∧ bod (s.extract 51 (12 + f.len)) f.st (wth plain 7 16777216) = .ok b ∧ cbe b f = 0 := by
  unfold opn at h
  split at h
  · cases h
  · rename_i h1
    split at h
    · cases h
    · rename_i h2
      split at h
      · cases h
      · rename_i b' hb
        split at h
        · cases h
        · rename_i h3
          cases h
          exact ⟨Classical.not_not.1 h1, rfl, Classical.not_not.1 h2, hb, Classical.not_not.1 h3⟩
theorem opn_of {s : ByteArray} {frame plain : Int} {f : Fs} {b : ByteArray} (h1 : pke s = 0) (h2 : fsOf s = f) (h3 : whe s f (wth frame 58 16777216) = 0) (h4 : bod (s.extract 51 (12 + f.len)) f.st (wth plain 7 16777216) = .ok b) (h5 : cbe b f = 0) : opn s frame plain = .ok (f, b) := by
  subst h2
  unfold opn
  rw [if_neg (fun h => h h1), if_neg (fun h => h h3), h4]
  dsimp only
  rw [if_neg (fun h => h h5)]
theorem bod_pos {t : ByteArray} {st : Nat} {most : Int} {e : Nat} (h : bod t st most = .error e) : e ≠ 0 := by
  unfold bod at h
  split at h
  · split at h
    · cases h; decide
    · split at h
      · cases h; decide
      · split at h
        · cases h; decide
        · cases h
  · split at h
    · cases h; decide
    · cases h
theorem opn_pos {s : ByteArray} {frame plain : Int} {e : Nat} (h : opn s frame plain = .error e) : e ≠ 0 := by
  unfold opn at h
  split at h
  · rename_i h1; cases h; exact h1
  · split at h
    · rename_i h2; cases h; exact h2
    · split at h
      · rename_i e' hb
        cases h
        exact bod_pos hb
      · split at h
        · rename_i h3; cases h; exact h3
        · cases h
theorem pke_zero {s : ByteArray} (h : pke s = 0) : 51 ≤ s.size ∧ Right (fsOf s) := by
  unfold pke at h
  split at h
  · cases h
  · rename_i h1
    split at h
    · rename_i h2; exact ⟨by omega, rgt_iff.1 h2⟩
    · cases h
theorem opn_right {s : ByteArray} {frame plain : Int} {f : Fs} {b : ByteArray} (h : opn s frame plain = .ok (f, b)) : Right f ∧ FsOk f ∧ 12 + f.len ≤ s.size := by
  obtain ⟨h1, h2, h3, _, _⟩ := opn_parts h
  obtain ⟨h6, h7⟩ := pke_zero h1
  have h8 := fsOf_ok h6
  rw [h2] at h7 h8
  exact ⟨h7, h8, by have := (whe_zero h3).2; omega⟩
/-- Two texts that begin with the same bytes. -/
theorem ext_in {s t : ByteArray} {L a b : Nat} (h : s.extract 0 L = t.extract 0 L) (hb : b ≤ L) : s.extract a b = t.extract a b := by
  have e : ∀ u : ByteArray, (u.extract 0 L).extract a b = u.extract a b := fun u => by rw [ByteArray.extract_extract]; congr 1 <;> omega
  rw [← e s, ← e t, h]
theorem fsOf_same {s t : ByteArray} {L : Nat} (h : s.extract 0 L = t.extract 0 L) (hL : 51 ≤ L) : fsOf s = fsOf t := by
  unfold fsOf num
  rw [ext_in h (a := 0) (b := 0 + 8) (by omega), ext_in h (a := 8) (b := 8 + 4) (by omega), ext_in h (a := 12) (b := 12 + 1) (by omega), ext_in h (a := 13) (b := 13 + 4) (by omega), ext_in h (a := 17) (b := 17 + 2) (by omega), ext_in h (a := 19) (b := 19 + 4) (by omega), ext_in h (a := 23) (b := 23 + 8) (by omega), ext_in h (a := 31) (b := 31 + 8) (by omega), ext_in h (a := 39) (b := 39 + 8) (by omega), ext_in h (a := 47) (b := 47 + 4) (by omega)]
/-- What a right frame is hangs on its own bytes alone. -/
theorem opn_loc {s t : ByteArray} {frame plain : Int} {f : Fs} {b : ByteArray} (h : opn s frame plain = .ok (f, b)) (ht : 12 + f.len ≤ t.size) (he : s.extract 0 (12 + f.len) = t.extract 0 (12 + f.len)) : opn t frame plain = .ok (f, b) := by
  obtain ⟨h1, h2, h3, h4, h5⟩ := opn_parts h
  obtain ⟨h6, h7⟩ := pke_zero h1
  have hR := (opn_right h).1
  have hl := hR.l1
  have hf : fsOf t = f := by rw [← h2]; exact (fsOf_same he (by omega)).symm
  refine opn_of ?_ hf ?_ ?_ h5
  · unfold pke
    rw [if_neg (by omega), hf, if_pos (rgt_iff.2 hR)]
  · obtain ⟨w1, w2⟩ := whe_zero h3
    unfold whe at h3 ⊢
    rw [if_neg w1, if_neg w2] at h3
    rw [if_neg w1, if_neg (by omega), ← ext_in he (Nat.le_refl _)]
    exact h3
  · rw [← ext_in he (Nat.le_refl _)]
    exact h4
/-- The right frame that stands at a place, if it has the offset that is wanted. -/
def lks (s : ByteArray) (frame plain : Int) (k : Nat) (want : Int) : Except Nat Fs := match opn (s.extract k s.size) frame plain with
  | .error e => .error e
  | .ok (f, _) => if f.base = want then .ok f else .error 30
theorem lks_ok {s : ByteArray} {frame plain : Int} {k : Nat} {want : Int} {f : Fs} (h : lks s frame plain k want = .ok f) : ∃ b, opn (s.extract k s.size) frame plain = .ok (f, b) ∧ f.base = want := by
  unfold lks at h
  split at h
  · cases h
  · rename_i f' b' ho
    split at h
    · rename_i hw; cases h; exact ⟨_, ho, hw⟩
    · cases h
theorem lks_pos {s : ByteArray} {frame plain : Int} {k : Nat} {want : Int} {e : Nat} (h : lks s frame plain k want = .error e) : e ≠ 0 := by
  unfold lks at h
  split at h
  · rename_i e' ho; cases h; exact opn_pos ho
  · split at h
    · cases h
    · cases h; decide
/-- What a walk through a run is handed: a frame and its place, or why the run ends. -/
inductive Yd where
  | fr (f : Fs) (k : Nat)
  | no (e : Nat)
/-- The walk, from a place on. -/
def trc (lk : Nat → Int → Except Nat Fs) (N : Nat) : Nat → Nat → Int → List Yd
  | 0, _, _ => []
  | m + 1, k, b => if k < N then (match lk k b with
    | .error e => [.no e]
    | .ok f => .fr f k :: trc lk N m (k + (12 + f.len)) (f.base + f.cnt)) else []
theorem trc_end {lk : Nat → Int → Except Nat Fs} {N m k : Nat} {b : Int} (h : ¬ k < N) : trc lk N m k b = [] := by
  cases m with
  | zero => rfl
  | succ m => show (if k < N then _ else _) = _; rw [if_neg h]
theorem trc_no {lk : Nat → Int → Except Nat Fs} {N m k : Nat} {b : Int} {e : Nat} (h : k < N) (h2 : lk k b = .error e) : trc lk N (m + 1) k b = [.no e] := by
  show (if k < N then _ else _) = _
  rw [if_pos h, h2]
theorem trc_fr {lk : Nat → Int → Except Nat Fs} {N m k : Nat} {b : Int} {f : Fs} (h : k < N) (h2 : lk k b = .ok f) : trc lk N (m + 1) k b = .fr f k :: trc lk N m (k + (12 + f.len)) (f.base + f.cnt) := by
  show (if k < N then _ else _) = _
  rw [if_pos h, h2]
/-- The frames, the end, and why. -/
def frs : List Yd → List (Fs × Nat)
  | [] => []
  | .fr f k :: t => (f, k) :: frs t
  | .no _ :: t => frs t
def enG (d : Nat) : List Yd → Nat
  | [] => d
  | .fr f k :: t => enG (k + (12 + f.len)) t
  | .no _ :: t => enG d t
def wyG (d : Nat) : List Yd → Nat
  | [] => d
  | .fr _ _ :: t => wyG d t
  | .no e :: t => wyG e t
theorem frs_app : ∀ a b, frs (a ++ b) = frs a ++ frs b
  | [], _ => rfl
  | .fr f k :: t, b => by show (f, k) :: frs (t ++ b) = _; rw [frs_app t b]; rfl
  | .no _ :: t, b => by show frs (t ++ b) = _; rw [frs_app t b]; rfl
theorem enG_app : ∀ d a b, enG d (a ++ b) = enG (enG d a) b
  | _, [], _ => rfl
  | _, .fr _ _ :: t, b => enG_app _ t b
  | _, .no _ :: t, b => enG_app _ t b
theorem wyG_app : ∀ d a b, wyG d (a ++ b) = wyG (wyG d a) b
  | _, [], _ => rfl
  | _, .fr _ _ :: t, b => wyG_app _ t b
  | _, .no _ :: t, b => wyG_app _ t b
theorem frs_fr (a : List Yd) (f : Fs) (k : Nat) : frs (a ++ [.fr f k]) = frs a ++ [(f, k)] := frs_app _ _
theorem frs_no (a : List Yd) (e : Nat) : frs (a ++ [.no e]) = frs a := by rw [frs_app]; exact List.append_nil _
theorem enG_fr (d : Nat) (a : List Yd) (f : Fs) (k : Nat) : enG d (a ++ [.fr f k]) = k + (12 + f.len) := enG_app _ _ _
theorem enG_no (d : Nat) (a : List Yd) (e : Nat) : enG d (a ++ [.no e]) = enG d a := enG_app _ _ _
theorem wyG_no (d : Nat) (a : List Yd) (e : Nat) : wyG d (a ++ [.no e]) = e := wyG_app _ _ _
/-- Only the last may be no frame. -/
theorem trc_last {lk : Nat → Int → Except Nat Fs} {N : Nat} : ∀ (m k : Nat) (b : Int) (a : List Yd) (e : Nat), (a ++ [.no e]) <+: trc lk N m k b → a ++ [.no e] = trc lk N m k b
  | 0, k, b, a, e, h => by
    have h1 := List.prefix_nil.1 h
    simp at h1
  | m + 1, k, b, a, e, h => by
    by_cases hk : k < N
    · cases hl : lk k b with
      | error x =>
        rw [trc_no hk hl] at h ⊢
        cases a with
        | nil => simpa using h
        | cons y a =>
          have := h.length_le
          simp at this
      | ok f =>
        rw [trc_fr hk hl] at h ⊢
        cases a with
        | nil => have := (List.cons_prefix_cons.1 h).1; cases this
        | cons y a =>
          obtain ⟨h1, h2⟩ := List.cons_prefix_cons.1 h
          rw [List.cons_append, h1, trc_last m _ _ a e h2]
    · rw [trc_end hk] at h
      have h1 := List.prefix_nil.1 h
      simp at h1
/-- The run of some bytes. -/
def tr (s : ByteArray) (base frame plain : Int) : List Yd := trc (lks s frame plain) s.size (s.size + 1) 0 base
end Go.Proofs.YtgcgnkafhpjdiaaGreat
namespace Go.Proofs.YtgcgnkafhpjdiaaGreat
open Go.RowKit
theorem cells4 {w : World} {G : Nat} {T : TypeId} {v0 v1 v2 v3 : Value} (h : w.heap[G]? = some (.cells #[v0, v1, v2, v3] T (0, 0))) :
    w.cell? ⟨G, 0, none⟩ = some v0 ∧ w.cell? ⟨G, 1, none⟩ = some v1 ∧ w.cell? ⟨G, 2, none⟩ = some v2 ∧ w.cell? ⟨G, 3, none⟩ = some v3 :=
  ⟨(cell_of h).trans rfl, (cell_of h).trans rfl, (cell_of h).trans rfl, (cell_of h).trans rfl⟩
theorem cells9 {w : World} {G : Nat} {T : TypeId} {v0 v1 v2 v3 v4 v5 v6 v7 v8 : Value} (h : w.heap[G]? = some (.cells #[v0, v1, v2, v3, v4, v5, v6, v7, v8] T (0, 0))) :
    w.cell? ⟨G, 0, none⟩ = some v0 ∧ w.cell? ⟨G, 1, none⟩ = some v1 ∧ w.cell? ⟨G, 2, none⟩ = some v2 ∧ w.cell? ⟨G, 3, none⟩ = some v3 ∧ w.cell? ⟨G, 4, none⟩ = some v4 ∧ w.cell? ⟨G, 5, none⟩ = some v5 ∧ w.cell? ⟨G, 6, none⟩ = some v6 ∧ w.cell? ⟨G, 7, none⟩ = some v7 ∧ w.cell? ⟨G, 8, none⟩ = some v8 :=
  ⟨(cell_of h).trans rfl, (cell_of h).trans rfl, (cell_of h).trans rfl, (cell_of h).trans rfl, (cell_of h).trans rfl, (cell_of h).trans rfl, (cell_of h).trans rfl, (cell_of h).trans rfl, (cell_of h).trans rfl⟩
theorem froz9 {w : World} {G : Nat} {T : TypeId} {c : Array Value} (h : w.heap[G]? = some (.cells c T (0, 0))) :
    w.frozen? ⟨G, 0, none⟩ = false ∧ w.frozen? ⟨G, 1, none⟩ = false ∧ w.frozen? ⟨G, 2, none⟩ = false ∧ w.frozen? ⟨G, 3, none⟩ = false ∧ w.frozen? ⟨G, 4, none⟩ = false ∧ w.frozen? ⟨G, 5, none⟩ = false ∧ w.frozen? ⟨G, 6, none⟩ = false ∧ w.frozen? ⟨G, 7, none⟩ = false ∧ w.frozen? ⟨G, 8, none⟩ = false :=
  ⟨froz_of h, froz_of h, froz_of h, froz_of h, froz_of h, froz_of h, froz_of h, froz_of h, froz_of h⟩
theorem Bx2.al {w : World} {b : Array Value} {T : TypeId} {r : Array Value} {U : TypeId} {x : World} (h : Bx2 w b T r U x) (o : Obj) : Bx2 w b T r U (x.alloc o) := h.call ((Below.refl _ _).alloc (Nat.le_refl _) o)
theorem set8_at {x : World} {G : Nat} {T : TypeId} {u0 u1 u2 u3 u4 u5 u6 u7 : Value} (h : x.heap[G]? = some (.cells #[u0, u1, u2, u3, u4, u5, u6, u7] T (0, 0))) (v0 v1 v2 v3 v4 v5 v6 v7 : Value) :
    ((((((((x.setCell ⟨G, 0, none⟩ v0).setCell ⟨G, 1, none⟩ v1).setCell ⟨G, 2, none⟩ v2).setCell ⟨G, 3, none⟩ v3).setCell ⟨G, 4, none⟩ v4).setCell ⟨G, 5, none⟩ v5).setCell ⟨G, 6, none⟩ v6).setCell ⟨G, 7, none⟩ v7).heap[G]? = some (.cells #[v0, v1, v2, v3, v4, v5, v6, v7] T (0, 0)) := by
  have h0 : (x.setCell ⟨G, 0, none⟩ v0).heap[G]? = some (.cells #[v0, u1, u2, u3, u4, u5, u6, u7] T (0, 0)) := heap_set h
  have h1 : ((x.setCell ⟨G, 0, none⟩ v0).setCell ⟨G, 1, none⟩ v1).heap[G]? = some (.cells #[v0, v1, u2, u3, u4, u5, u6, u7] T (0, 0)) := heap_set h0
  have h2 : (((x.setCell ⟨G, 0, none⟩ v0).setCell ⟨G, 1, none⟩ v1).setCell ⟨G, 2, none⟩ v2).heap[G]? = some (.cells #[v0, v1, v2, u3, u4, u5, u6, u7] T (0, 0)) := heap_set h1
  have h3 := heap_set (i := 3) (v := v3) h2
  have h4 := heap_set (i := 4) (v := v4) h3
  have h5 := heap_set (i := 5) (v := v5) h4
  have h6 := heap_set (i := 6) (v := v6) h5
  exact heap_set (i := 7) (v := v7) h6
theorem Bx2.sto8 {w : World} {b : Array Value} {T : TypeId} {r : Array Value} {U : TypeId} {x : World} (h : Bx2 w b T r U x) {G : Nat} (n0 : w.heap.size ≠ G) (n1 : w.heap.size + 1 ≠ G) (hG : w.heap.size ≤ G) (v0 v1 v2 v3 v4 v5 v6 v7 : Value) :
    Bx2 w b T r U ((((((((x.setCell ⟨G, 0, none⟩ v0).setCell ⟨G, 1, none⟩ v1).setCell ⟨G, 2, none⟩ v2).setCell ⟨G, 3, none⟩ v3).setCell ⟨G, 4, none⟩ v4).setCell ⟨G, 5, none⟩ v5).setCell ⟨G, 6, none⟩ v6).setCell ⟨G, 7, none⟩ v7) :=
  ⟨store8 h.p n0, store8 h.q n1, (((((((h.b.setCell hG v0).setCell hG v1).setCell hG v2).setCell hG v3).setCell hG v4).setCell hG v5).setCell hG v6).setCell hG v7⟩
theorem put9 {w : World} {b : Array Value} {T U : TypeId} {u0 u1 u2 u3 u4 u5 u6 u7 u8 : Value} {x : World} (h : Bx2 w b T #[u0, u1, u2, u3, u4, u5, u6, u7, u8] U x) (v0 v1 v2 v3 v4 v5 v6 v7 v8 : Value) :
    Bx2 w b T #[v0, v1, v2, v3, v4, v5, v6, v7, v8] U (((((((((x.setCell ⟨w.heap.size + 1, 0, none⟩ v0).setCell ⟨w.heap.size + 1, 1, none⟩ v1).setCell ⟨w.heap.size + 1, 2, none⟩ v2).setCell ⟨w.heap.size + 1, 3, none⟩ v3).setCell ⟨w.heap.size + 1, 4, none⟩ v4).setCell ⟨w.heap.size + 1, 5, none⟩ v5).setCell ⟨w.heap.size + 1, 6, none⟩ v6).setCell ⟨w.heap.size + 1, 7, none⟩ v7).setCell ⟨w.heap.size + 1, 8, none⟩ v8) := by
  have h0 : Bx2 w b T #[v0, u1, u2, u3, u4, u5, u6, u7, u8] U (x.setCell ⟨w.heap.size + 1, 0, none⟩ v0) := h.set 0 v0
  have h1 : Bx2 w b T #[v0, v1, u2, u3, u4, u5, u6, u7, u8] U _ := h0.set 1 v1
  have h2 : Bx2 w b T #[v0, v1, v2, u3, u4, u5, u6, u7, u8] U _ := h1.set 2 v2
  have h3 : Bx2 w b T #[v0, v1, v2, v3, u4, u5, u6, u7, u8] U _ := h2.set 3 v3
  have h4 : Bx2 w b T #[v0, v1, v2, v3, v4, u5, u6, u7, u8] U _ := h3.set 4 v4
  have h5 : Bx2 w b T #[v0, v1, v2, v3, v4, v5, u6, u7, u8] U _ := h4.set 5 v5
  have h6 : Bx2 w b T #[v0, v1, v2, v3, v4, v5, v6, u7, u8] U _ := h5.set 6 v6
  have h7 : Bx2 w b T #[v0, v1, v2, v3, v4, v5, v6, v7, u8] U _ := h6.set 7 v7
  have h8 : Bx2 w b T #[v0, v1, v2, v3, v4, v5, v6, v7, v8] U _ := h7.set 8 v8
  exact h8
/-- A frame that is found, and none. -/
def fdA (f : Fs) (k : Nat) : Array Value := #[.int .i64 f.base, .int .i64 (12 + f.len : Nat), .bool (decide (f.st = 1)), .int .i64 f.cnt, .int .i64 f.first, .int .i64 f.grt, .int .i64 f.prod, .int .i32 f.seq, .int .i64 k]
def fdV (f : Fs) (k : Nat) : Value := .agg (fdA f k)
def noFd : Value := .agg #[.int .i64 0, .int .i64 0, .bool false, .int .i64 0, .int .i64 0, .int .i64 0, .int .i64 0, .int .i32 0, .int .i64 0]
theorem fbehind_any (f : Fs) (k : Nat) (w : World) (h : Right f) (hk : k ≤ 4611686018427387904) : Calls Tryz.prog 46 #[fdV f k] w fun e w' => e = .returned (.int .i64 (k + (12 + f.len) : Nat)) ∧ Below w.heap.size w w' := by
  have h2 := h.l2
  unfold fdV fdA
  go_enter Tryz.func46, Tryz.ntmps46
  go_wp2
  go_ret
  exact ⟨ret_int (by omega), (Below.refl _ _).alloc (Nat.le_refl _) _⟩
theorem tsize_any (s : ByteArray) (w : World) : Calls Tryz.prog 242 #[.string s] w fun e w' => e = .returned (.int .i64 s.size) ∧ w' = w := by
  go_enter Tryz.func242, Tryz.ntmps242
  go_wp2
  go_ret
  exact ⟨rfl, rfl⟩
theorem tfrom_any (s : ByteArray) (k : Nat) (n : Int) (w : World) (hk : k ≤ s.size) : Calls Tryz.prog 241 #[.string s, .int .i64 k, .int .i64 n] w fun e w' => e = .returned (.string (s.extract k s.size)) ∧ w' = w := by
  go_enter Tryz.func241, Tryz.ntmps241
  go_wp2
  go_ret
  exact ⟨rfl, rfl⟩
theorem mth_from (s : ByteArray) (w : World) : (method 412 75 (.string s) "gantry/scan.from").run Tryz.prog w = .ok (241, .string s) w := by kernel_rfl
theorem mth_size (s : ByteArray) (w : World) : (method 412 75 (.string s) "gantry/scan.size").run Tryz.prog w = .ok (242, .string s) w := by kernel_rfl
set_option maxHeartbeats 1000000 in
set_option maxRecDepth 20000 in
theorem look_err (s : ByteArray) (base frame plain : Int) (k : Nat) (want : Int) (b0 b1 : Int) (b2 : Bool) (b3 b4 b5 b6 b7 : Int) (w : World) (hk : k ≤ s.size) (E : Int) (hE : E ≠ 0)
    (CC : Hid (∀ w, Calls Tryz.prog 25 #[.string (s.extract k s.size), .int .i64 frame, .int .i64 plain] w fun e w' => e = .returned (.tuple #[.agg #[.int .i64 b0, .int .i64 b1, .bool b2, .int .i64 b3, .int .i64 b4, .int .i64 b5, .int .i64 b6, .int .i32 b7], .int .i64 E]) ∧ Below w.heap.size w w')) :
    Calls Tryz.prog 48 #[.agg #[.iface 75 (.string s), .int .i64 base, .int .i64 frame, .int .i64 plain], .int .i64 k, .int .i64 want] w fun e w' => e = .returned (.tuple #[.agg #[.int .i64 0, .int .i64 0, .bool false, .int .i64 0, .int .i64 0, .int .i64 0, .int .i64 0, .int .i32 0, .int .i64 0], .int .i64 E]) ∧ Below w.heap.size w w' := by
  have CF := hid (fun w => tfrom_any s k frame w hk)
  have hm := mth_from s
  have X0 := Bx2.new w #[.iface 75 (.string s), .int .i64 base, .int .i64 frame, .int .i64 plain] 79 #[.int .i64 0, .int .i64 0, .bool false, .int .i64 0, .int .i64 0, .int .i64 0, .int .i64 0, .int .i32 0, .int .i64 0] 36
  generalize hP : s.extract k s.size = P at *
  clear hP
  go_enter Tryz.func48, Tryz.ntmps48
  go_wp2_with fail
  generalize (w.alloc (.cells #[.iface 75 (.string s), .int .i64 base, .int .i64 frame, .int .i64 plain] 79)).alloc (.cells #[.int .i64 0, .int .i64 0, .bool false, .int .i64 0, .int .i64 0, .int .i64 0, .int .i64 0, .int .i32 0, .int .i64 0] 36) = W0 at *
  have CCX : Hid (∀ x, Bx2 w #[.iface 75 (.string s), .int .i64 base, .int .i64 frame, .int .i64 plain] 79 #[.int .i64 0, .int .i64 0, .bool false, .int .i64 0, .int .i64 0, .int .i64 0, .int .i64 0, .int .i32 0, .int .i64 0] 36 x → Calls Tryz.prog 25 #[.string P, .int .i64 frame, .int .i64 plain] x fun e w' => e = .returned (.tuple #[.agg #[.int .i64 b0, .int .i64 b1, .bool b2, .int .i64 b3, .int .i64 b4, .int .i64 b5, .int .i64 b6, .int .i32 b7], .int .i64 E]) ∧ Bx2 w #[.iface 75 (.string s), .int .i64 base, .int .i64 frame, .int .i64 plain] 79 #[.int .i64 0, .int .i64 0, .bool false, .int .i64 0, .int .i64 0, .int .i64 0, .int .i64 0, .int .i32 0, .int .i64 0] 36 w' ∧ Below x.heap.size x w') := fun x hx => (CC.out x).mono fun e w' h => ⟨h.1, hx.call h.2, h.2⟩
  have XA := X0.al (.cells #[.int .i64 0, .int .i64 0, .bool false, .int .i64 0, .int .i64 0, .int .i64 0, .int .i64 0, .int .i32 0] 34)
  have KA : (W0.alloc (.cells #[.int .i64 0, .int .i64 0, .bool false, .int .i64 0, .int .i64 0, .int .i64 0, .int .i64 0, .int .i32 0] 34)).drew.heap[W0.heap.size]? = some (.cells #[.int .i64 0, .int .i64 0, .bool false, .int .i64 0, .int .i64 0, .int .i64 0, .int .i64 0, .int .i32 0] 34 (0, 0)) := heap_new _ _
  have KA' : (W0.alloc (.cells #[.int .i64 0, .int .i64 0, .bool false, .int .i64 0, .int .i64 0, .int .i64 0, .int .i64 0, .int .i32 0] 34)).heap[W0.heap.size]? = some (.cells #[.int .i64 0, .int .i64 0, .bool false, .int .i64 0, .int .i64 0, .int .i64 0, .int .i64 0, .int .i32 0] 34 (0, 0)) := heap_new _ _
  have hne : w.heap.size ≠ W0.heap.size := by have := lt_of_heap X0.q; omega
  have hne1 : w.heap.size + 1 ≠ W0.heap.size := by have := lt_of_heap X0.q; omega
  go_cut [8, 9] (fun v8 v9 wc => ∃ G, v8 = .pointer (some ⟨G, 0, none⟩) ∧ v9 = .int .i64 E ∧ Bx2 w #[.iface 75 (.string s), .int .i64 base, .int .i64 frame, .int .i64 plain] 79 #[.int .i64 0, .int .i64 0, .bool false, .int .i64 0, .int .i64 0, .int .i64 0, .int .i64 0, .int .i32 0, .int .i64 0] 36 wc ∧ w.heap.size + 1 ≠ G ∧ wc.heap[G]? = some (.cells #[.int .i64 b0, .int .i64 b1, .bool b2, .int .i64 b3, .int .i64 b4, .int .i64 b5, .int .i64 b6, .int .i32 b7] 34 (0, 0)))
  case first =>
    go_region_held3 (fun x => x.cell? ⟨w.heap.size, 0, none⟩ = some (.iface 75 (.string s)) ∧ x.cell? ⟨w.heap.size, 1, none⟩ = some (.int .i64 base) ∧ x.cell? ⟨w.heap.size, 2, none⟩ = some (.int .i64 frame) ∧ x.cell? ⟨w.heap.size, 3, none⟩ = some (.int .i64 plain)) (first | with_reducible exact cells4 X0.p | with_reducible exact cells4 X0.drew.p | with_reducible exact cells4 XA.p | with_reducible exact cells4 XA.drew.p | with_reducible exact cells4 X3.p | with_reducible exact cells4 X3.drew.p | with_reducible exact cells4 (X3.al _).p | with_reducible exact cells4 (X3.al _).drew.p | with_reducible exact cells4 (store8 X3.p hne) | with_reducible exact cells4 (World.drew_heap (store8 X3.p hne))) (first | (go_at_call 241; refine (CF.out _).mono ?_; rintro e w3 ⟨rfl, rfl⟩) | (go_at_call 25; with_reducible refine (CCX.out _ ?_).mono ?_; (first | with_reducible exact X0.drew | with_reducible exact X0 | with_reducible exact XA.drew | with_reducible exact XA); rintro e w3 ⟨rfl, X3, b3⟩; try (have K3 := keep KA b3; obtain ⟨k0, k1, k2, k3, k4, k5, k6, k7⟩ := cells8 K3; obtain ⟨z0, z1, z2, z3, z4, z5, z6, z7⟩ := froz8 K3); try (have K3 := keep KA' b3; obtain ⟨k0, k1, k2, k3, k4, k5, k6, k7⟩ := cells8 K3; obtain ⟨z0, z1, z2, z3, z4, z5, z6, z7⟩ := froz8 K3)))
    all_goals
      go_wp2
      go_meet
      case rel => first
        | (with_reducible refine ⟨_, rfl, rfl, X3.al _, ?_, heap_new _ _⟩); have := lt_of_heap X3.q; omega
        | (with_reducible refine ⟨_, rfl, rfl, X3.sto8 hne hne1 ?_ _ _ _ _ _ _ _ _, hne1, set8_at K3 _ _ _ _ _ _ _ _⟩); have := lt_of_heap X0.p; omega
  case rest =>
    obtain ⟨G, rfl, rfl, X4, hG, K4⟩ := hcut
    clear CCX XA KA KA' hne hne1 X0 CF CC
    obtain ⟨h0, h1, h2, h3, h4, h5, h6, h7⟩ := cells8 K4
    obtain ⟨r0, r1, r2, r3, r4, r5, r6, r7, r8⟩ := cells9 X4.q
    obtain ⟨z0, z1, z2, z3, z4, z5, z6, z7, z8⟩ := froz9 X4.q
    go_wp2_with fail
    have PP := put9 X4 (.int .i64 0) (.int .i64 0) (.bool false) (.int .i64 0) (.int .i64 0) (.int .i64 0) (.int .i64 0) (.int .i32 0) (.int .i64 0)
    clear r0 r1 r2 r3 r4 r5 r6 r7 r8 z0 z1 z2 z3 z4 z5 z6 z7 z8 h0 h1 h2 h3 h4 h5 h6 h7
    obtain ⟨e0, e1, e2, e3, e4, e5, e6, e7, e8⟩ := cells9 PP.q
    exact bodyPost_ret (v := .tuple #[.agg #[.int .i64 0, .int .i64 0, .bool false, .int .i64 0, .int .i64 0, .int .i64 0, .int .i64 0, .int .i32 0, .int .i64 0], .int .i64 E]) (by simp [results, Tryz.results48, go_sem, e0, e1, e2, e3, e4, e5, e6, e7, e8]) rfl ⟨rfl, PP.b⟩
set_option maxHeartbeats 1000000 in
set_option maxRecDepth 20000 in
theorem look_ord (s : ByteArray) (base frame plain : Int) (k : Nat) (want : Int) (b0 b1 : Int) (b2 : Bool) (b3 b4 b5 b6 b7 : Int) (w : World) (hk : k ≤ s.size) (hw : b0 ≠ want)
    (CC : Hid (∀ w, Calls Tryz.prog 25 #[.string (s.extract k s.size), .int .i64 frame, .int .i64 plain] w fun e w' => e = .returned (.tuple #[.agg #[.int .i64 b0, .int .i64 b1, .bool b2, .int .i64 b3, .int .i64 b4, .int .i64 b5, .int .i64 b6, .int .i32 b7], .int .i64 0]) ∧ Below w.heap.size w w')) :
    Calls Tryz.prog 48 #[.agg #[.iface 75 (.string s), .int .i64 base, .int .i64 frame, .int .i64 plain], .int .i64 k, .int .i64 want] w fun e w' => e = .returned (.tuple #[.agg #[.int .i64 0, .int .i64 0, .bool false, .int .i64 0, .int .i64 0, .int .i64 0, .int .i64 0, .int .i32 0, .int .i64 0], .int .i64 30]) ∧ Below w.heap.size w w' := by
  have CF := hid (fun w => tfrom_any s k frame w hk)
  have hm := mth_from s
  have X0 := Bx2.new w #[.iface 75 (.string s), .int .i64 base, .int .i64 frame, .int .i64 plain] 79 #[.int .i64 0, .int .i64 0, .bool false, .int .i64 0, .int .i64 0, .int .i64 0, .int .i64 0, .int .i32 0, .int .i64 0] 36
  generalize hP : s.extract k s.size = P at *
  clear hP
  go_enter Tryz.func48, Tryz.ntmps48
  go_wp2_with fail
  generalize (w.alloc (.cells #[.iface 75 (.string s), .int .i64 base, .int .i64 frame, .int .i64 plain] 79)).alloc (.cells #[.int .i64 0, .int .i64 0, .bool false, .int .i64 0, .int .i64 0, .int .i64 0, .int .i64 0, .int .i32 0, .int .i64 0] 36) = W0 at *
  have CCX : Hid (∀ x, Bx2 w #[.iface 75 (.string s), .int .i64 base, .int .i64 frame, .int .i64 plain] 79 #[.int .i64 0, .int .i64 0, .bool false, .int .i64 0, .int .i64 0, .int .i64 0, .int .i64 0, .int .i32 0, .int .i64 0] 36 x → Calls Tryz.prog 25 #[.string P, .int .i64 frame, .int .i64 plain] x fun e w' => e = .returned (.tuple #[.agg #[.int .i64 b0, .int .i64 b1, .bool b2, .int .i64 b3, .int .i64 b4, .int .i64 b5, .int .i64 b6, .int .i32 b7], .int .i64 0]) ∧ Bx2 w #[.iface 75 (.string s), .int .i64 base, .int .i64 frame, .int .i64 plain] 79 #[.int .i64 0, .int .i64 0, .bool false, .int .i64 0, .int .i64 0, .int .i64 0, .int .i64 0, .int .i32 0, .int .i64 0] 36 w' ∧ Below x.heap.size x w') := fun x hx => (CC.out x).mono fun e w' h => ⟨h.1, hx.call h.2, h.2⟩
  have XA := X0.al (.cells #[.int .i64 0, .int .i64 0, .bool false, .int .i64 0, .int .i64 0, .int .i64 0, .int .i64 0, .int .i32 0] 34)
  have KA : (W0.alloc (.cells #[.int .i64 0, .int .i64 0, .bool false, .int .i64 0, .int .i64 0, .int .i64 0, .int .i64 0, .int .i32 0] 34)).drew.heap[W0.heap.size]? = some (.cells #[.int .i64 0, .int .i64 0, .bool false, .int .i64 0, .int .i64 0, .int .i64 0, .int .i64 0, .int .i32 0] 34 (0, 0)) := heap_new _ _
  have KA' : (W0.alloc (.cells #[.int .i64 0, .int .i64 0, .bool false, .int .i64 0, .int .i64 0, .int .i64 0, .int .i64 0, .int .i32 0] 34)).heap[W0.heap.size]? = some (.cells #[.int .i64 0, .int .i64 0, .bool false, .int .i64 0, .int .i64 0, .int .i64 0, .int .i64 0, .int .i32 0] 34 (0, 0)) := heap_new _ _
  have hne : w.heap.size ≠ W0.heap.size := by have := lt_of_heap X0.q; omega
  have hne1 : w.heap.size + 1 ≠ W0.heap.size := by have := lt_of_heap X0.q; omega
  go_cut [8, 9] (fun v8 v9 wc => ∃ G, v8 = .pointer (some ⟨G, 0, none⟩) ∧ v9 = .int .i64 0 ∧ Bx2 w #[.iface 75 (.string s), .int .i64 base, .int .i64 frame, .int .i64 plain] 79 #[.int .i64 0, .int .i64 0, .bool false, .int .i64 0, .int .i64 0, .int .i64 0, .int .i64 0, .int .i32 0, .int .i64 0] 36 wc ∧ w.heap.size + 1 ≠ G ∧ wc.heap[G]? = some (.cells #[.int .i64 b0, .int .i64 b1, .bool b2, .int .i64 b3, .int .i64 b4, .int .i64 b5, .int .i64 b6, .int .i32 b7] 34 (0, 0)))
  case first =>
    go_region_held3 (fun x => x.cell? ⟨w.heap.size, 0, none⟩ = some (.iface 75 (.string s)) ∧ x.cell? ⟨w.heap.size, 1, none⟩ = some (.int .i64 base) ∧ x.cell? ⟨w.heap.size, 2, none⟩ = some (.int .i64 frame) ∧ x.cell? ⟨w.heap.size, 3, none⟩ = some (.int .i64 plain)) (first | with_reducible exact cells4 X0.p | with_reducible exact cells4 X0.drew.p | with_reducible exact cells4 XA.p | with_reducible exact cells4 XA.drew.p | with_reducible exact cells4 X3.p | with_reducible exact cells4 X3.drew.p | with_reducible exact cells4 (X3.al _).p | with_reducible exact cells4 (X3.al _).drew.p | with_reducible exact cells4 (store8 X3.p hne) | with_reducible exact cells4 (World.drew_heap (store8 X3.p hne))) (first | (go_at_call 241; refine (CF.out _).mono ?_; rintro e w3 ⟨rfl, rfl⟩) | (go_at_call 25; with_reducible refine (CCX.out _ ?_).mono ?_; (first | with_reducible exact X0.drew | with_reducible exact X0 | with_reducible exact XA.drew | with_reducible exact XA); rintro e w3 ⟨rfl, X3, b3⟩; try (have K3 := keep KA b3; obtain ⟨k0, k1, k2, k3, k4, k5, k6, k7⟩ := cells8 K3; obtain ⟨z0, z1, z2, z3, z4, z5, z6, z7⟩ := froz8 K3); try (have K3 := keep KA' b3; obtain ⟨k0, k1, k2, k3, k4, k5, k6, k7⟩ := cells8 K3; obtain ⟨z0, z1, z2, z3, z4, z5, z6, z7⟩ := froz8 K3)))
    all_goals
      go_wp2
      go_meet
      case rel => first
        | (with_reducible refine ⟨_, rfl, rfl, X3.al _, ?_, heap_new _ _⟩); have := lt_of_heap X3.q; omega
        | (with_reducible refine ⟨_, rfl, rfl, X3.sto8 hne hne1 ?_ _ _ _ _ _ _ _ _, hne1, set8_at K3 _ _ _ _ _ _ _ _⟩); have := lt_of_heap X0.p; omega
  case rest =>
    obtain ⟨G, rfl, rfl, X4, hG, K4⟩ := hcut
    clear CCX XA KA KA' hne hne1 X0 CF CC
    obtain ⟨h0, h1, h2, h3, h4, h5, h6, h7⟩ := cells8 K4
    obtain ⟨r0, r1, r2, r3, r4, r5, r6, r7, r8⟩ := cells9 X4.q
    obtain ⟨z0, z1, z2, z3, z4, z5, z6, z7, z8⟩ := froz9 X4.q
    go_wp2_with fail
    have PP := put9 X4 (.int .i64 0) (.int .i64 0) (.bool false) (.int .i64 0) (.int .i64 0) (.int .i64 0) (.int .i64 0) (.int .i32 0) (.int .i64 0)
    clear r0 r1 r2 r3 r4 r5 r6 r7 r8 z0 z1 z2 z3 z4 z5 z6 z7 z8 h0 h1 h2 h3 h4 h5 h6 h7
    obtain ⟨e0, e1, e2, e3, e4, e5, e6, e7, e8⟩ := cells9 PP.q
    exact bodyPost_ret (v := .tuple #[.agg #[.int .i64 0, .int .i64 0, .bool false, .int .i64 0, .int .i64 0, .int .i64 0, .int .i64 0, .int .i32 0, .int .i64 0], .int .i64 30]) (by simp [results, Tryz.results48, go_sem, e0, e1, e2, e3, e4, e5, e6, e7, e8]) rfl ⟨rfl, PP.b⟩
set_option maxHeartbeats 1000000 in
set_option maxRecDepth 20000 in
theorem look_yes (s : ByteArray) (base frame plain : Int) (k : Nat) (want : Int) (b0 b1 : Int) (b2 : Bool) (b3 b4 b5 b6 b7 : Int) (w : World) (hk : k ≤ s.size) (hw : b0 = want)
    (CC : Hid (∀ w, Calls Tryz.prog 25 #[.string (s.extract k s.size), .int .i64 frame, .int .i64 plain] w fun e w' => e = .returned (.tuple #[.agg #[.int .i64 b0, .int .i64 b1, .bool b2, .int .i64 b3, .int .i64 b4, .int .i64 b5, .int .i64 b6, .int .i32 b7], .int .i64 0]) ∧ Below w.heap.size w w')) :
    Calls Tryz.prog 48 #[.agg #[.iface 75 (.string s), .int .i64 base, .int .i64 frame, .int .i64 plain], .int .i64 k, .int .i64 want] w fun e w' => e = .returned (.tuple #[.agg #[.int .i64 b0, .int .i64 b1, .bool b2, .int .i64 b3, .int .i64 b4, .int .i64 b5, .int .i64 b6, .int .i32 b7, .int .i64 k], .int .i64 0]) ∧ Below w.heap.size w w' := by
  subst hw
  have CF := hid (fun w => tfrom_any s k frame w hk)
  have hm := mth_from s
  have X0 := Bx2.new w #[.iface 75 (.string s), .int .i64 base, .int .i64 frame, .int .i64 plain] 79 #[.int .i64 0, .int .i64 0, .bool false, .int .i64 0, .int .i64 0, .int .i64 0, .int .i64 0, .int .i32 0, .int .i64 0] 36
  generalize hP : s.extract k s.size = P at *
  clear hP
  go_enter Tryz.func48, Tryz.ntmps48
  go_wp2_with fail
  generalize (w.alloc (.cells #[.iface 75 (.string s), .int .i64 base, .int .i64 frame, .int .i64 plain] 79)).alloc (.cells #[.int .i64 0, .int .i64 0, .bool false, .int .i64 0, .int .i64 0, .int .i64 0, .int .i64 0, .int .i32 0, .int .i64 0] 36) = W0 at *
  have CCX : Hid (∀ x, Bx2 w #[.iface 75 (.string s), .int .i64 base, .int .i64 frame, .int .i64 plain] 79 #[.int .i64 0, .int .i64 0, .bool false, .int .i64 0, .int .i64 0, .int .i64 0, .int .i64 0, .int .i32 0, .int .i64 0] 36 x → Calls Tryz.prog 25 #[.string P, .int .i64 frame, .int .i64 plain] x fun e w' => e = .returned (.tuple #[.agg #[.int .i64 b0, .int .i64 b1, .bool b2, .int .i64 b3, .int .i64 b4, .int .i64 b5, .int .i64 b6, .int .i32 b7], .int .i64 0]) ∧ Bx2 w #[.iface 75 (.string s), .int .i64 base, .int .i64 frame, .int .i64 plain] 79 #[.int .i64 0, .int .i64 0, .bool false, .int .i64 0, .int .i64 0, .int .i64 0, .int .i64 0, .int .i32 0, .int .i64 0] 36 w' ∧ Below x.heap.size x w') := fun x hx => (CC.out x).mono fun e w' h => ⟨h.1, hx.call h.2, h.2⟩
  have XA := X0.al (.cells #[.int .i64 0, .int .i64 0, .bool false, .int .i64 0, .int .i64 0, .int .i64 0, .int .i64 0, .int .i32 0] 34)
  have KA : (W0.alloc (.cells #[.int .i64 0, .int .i64 0, .bool false, .int .i64 0, .int .i64 0, .int .i64 0, .int .i64 0, .int .i32 0] 34)).drew.heap[W0.heap.size]? = some (.cells #[.int .i64 0, .int .i64 0, .bool false, .int .i64 0, .int .i64 0, .int .i64 0, .int .i64 0, .int .i32 0] 34 (0, 0)) := heap_new _ _
  have KA' : (W0.alloc (.cells #[.int .i64 0, .int .i64 0, .bool false, .int .i64 0, .int .i64 0, .int .i64 0, .int .i64 0, .int .i32 0] 34)).heap[W0.heap.size]? = some (.cells #[.int .i64 0, .int .i64 0, .bool false, .int .i64 0, .int .i64 0, .int .i64 0, .int .i64 0, .int .i32 0] 34 (0, 0)) := heap_new _ _
  have hne : w.heap.size ≠ W0.heap.size := by have := lt_of_heap X0.q; omega
  have hne1 : w.heap.size + 1 ≠ W0.heap.size := by have := lt_of_heap X0.q; omega
  go_cut [8, 9] (fun v8 v9 wc => ∃ G, v8 = .pointer (some ⟨G, 0, none⟩) ∧ v9 = .int .i64 0 ∧ Bx2 w #[.iface 75 (.string s), .int .i64 base, .int .i64 frame, .int .i64 plain] 79 #[.int .i64 0, .int .i64 0, .bool false, .int .i64 0, .int .i64 0, .int .i64 0, .int .i64 0, .int .i32 0, .int .i64 0] 36 wc ∧ w.heap.size + 1 ≠ G ∧ wc.heap[G]? = some (.cells #[.int .i64 b0, .int .i64 b1, .bool b2, .int .i64 b3, .int .i64 b4, .int .i64 b5, .int .i64 b6, .int .i32 b7] 34 (0, 0)))
  case first =>
    go_region_held3 (fun x => x.cell? ⟨w.heap.size, 0, none⟩ = some (.iface 75 (.string s)) ∧ x.cell? ⟨w.heap.size, 1, none⟩ = some (.int .i64 base) ∧ x.cell? ⟨w.heap.size, 2, none⟩ = some (.int .i64 frame) ∧ x.cell? ⟨w.heap.size, 3, none⟩ = some (.int .i64 plain)) (first | with_reducible exact cells4 X0.p | with_reducible exact cells4 X0.drew.p | with_reducible exact cells4 XA.p | with_reducible exact cells4 XA.drew.p | with_reducible exact cells4 X3.p | with_reducible exact cells4 X3.drew.p | with_reducible exact cells4 (X3.al _).p | with_reducible exact cells4 (X3.al _).drew.p | with_reducible exact cells4 (store8 X3.p hne) | with_reducible exact cells4 (World.drew_heap (store8 X3.p hne))) (first | (go_at_call 241; refine (CF.out _).mono ?_; rintro e w3 ⟨rfl, rfl⟩) | (go_at_call 25; with_reducible refine (CCX.out _ ?_).mono ?_; (first | with_reducible exact X0.drew | with_reducible exact X0 | with_reducible exact XA.drew | with_reducible exact XA); rintro e w3 ⟨rfl, X3, b3⟩; try (have K3 := keep KA b3; obtain ⟨k0, k1, k2, k3, k4, k5, k6, k7⟩ := cells8 K3; obtain ⟨z0, z1, z2, z3, z4, z5, z6, z7⟩ := froz8 K3); try (have K3 := keep KA' b3; obtain ⟨k0, k1, k2, k3, k4, k5, k6, k7⟩ := cells8 K3; obtain ⟨z0, z1, z2, z3, z4, z5, z6, z7⟩ := froz8 K3)))
    all_goals
      go_wp2
      go_meet
      case rel => first
        | (with_reducible refine ⟨_, rfl, rfl, X3.al _, ?_, heap_new _ _⟩); have := lt_of_heap X3.q; omega
        | (with_reducible refine ⟨_, rfl, rfl, X3.sto8 hne hne1 ?_ _ _ _ _ _ _ _ _, hne1, set8_at K3 _ _ _ _ _ _ _ _⟩); have := lt_of_heap X0.p; omega
  case rest =>
    obtain ⟨G, rfl, rfl, X4, hG, K4⟩ := hcut
    clear CCX XA KA KA' hne hne1 X0 CF CC
    obtain ⟨h0, h1, h2, h3, h4, h5, h6, h7⟩ := cells8 K4
    obtain ⟨r0, r1, r2, r3, r4, r5, r6, r7, r8⟩ := cells9 X4.q
    obtain ⟨z0, z1, z2, z3, z4, z5, z6, z7, z8⟩ := froz9 X4.q
    go_wp2_with fail
    have PP := put9 X4 (.int .i64 b0) (.int .i64 b1) (.bool b2) (.int .i64 b3) (.int .i64 b4) (.int .i64 b5) (.int .i64 b6) (.int .i32 b7) (.int .i64 k)
    clear r0 r1 r2 r3 r4 r5 r6 r7 r8 z0 z1 z2 z3 z4 z5 z6 z7 z8 h0 h1 h2 h3 h4 h5 h6 h7
    obtain ⟨e0, e1, e2, e3, e4, e5, e6, e7, e8⟩ := cells9 PP.q
    exact bodyPost_ret (v := .tuple #[.agg #[.int .i64 b0, .int .i64 b1, .bool b2, .int .i64 b3, .int .i64 b4, .int .i64 b5, .int .i64 b6, .int .i32 b7, .int .i64 k], .int .i64 0]) (by simp [results, Tryz.results48, go_sem, e0, e1, e2, e3, e4, e5, e6, e7, e8]) rfl ⟨rfl, PP.b⟩
/-- What look answers. -/
def LkV (R : Except Nat Fs) (k : Nat) : Value := match R with
  | .error e => .tuple #[noFd, .int .i64 e]
  | .ok f => .tuple #[fdV f k, .int .i64 0]
theorem look_any (s : ByteArray) (base frame plain : Int) (k : Nat) (want : Int) (w : World) (hk : k ≤ s.size) (hs : s.size ≤ 9223372036854775807) :
    Calls Tryz.prog 48 #[.agg #[.iface 75 (.string s), .int .i64 base, .int .i64 frame, .int .i64 plain], .int .i64 k, .int .i64 want] w fun e w' => e = .returned (LkV (lks s frame plain k want) k) ∧ Below w.heap.size w w' := by
  have cc := fun w => check6_any (s.extract k s.size) frame plain w (by rw [ByteArray.size_extract]; omega)
  unfold lks
  cases h : opn (s.extract k s.size) frame plain with
  | error e =>
    rw [h] at cc
    unfold ChkV noHd at cc
    exact look_err s base frame plain k want _ _ _ _ _ _ _ _ w hk e (by have := opn_pos h; omega) (hid cc)
  | ok y =>
    obtain ⟨f, b⟩ := y
    rw [h] at cc
    unfold ChkV hdV at cc
    dsimp only at cc ⊢
    by_cases hw : f.base = want
    · rw [if_pos hw]
      exact look_yes s base frame plain k want _ _ _ _ _ _ _ _ w hk hw (hid cc)
    · rw [if_neg hw]
      exact look_ord s base frame plain k want _ _ _ _ _ _ _ _ w hk hw (hid cc)
end Go.Proofs.YtgcgnkafhpjdiaaGreat
