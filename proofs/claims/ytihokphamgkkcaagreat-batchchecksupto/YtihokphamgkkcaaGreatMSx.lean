/- Texts of the proof, put together: Scm, Slk, Sst. -/
import Derived.Test.YtihokphamgkkcaaGreatMB3
import Derived.Test.YtihokphamgkkcaaGreatMB1
namespace Go.Proofs.YtihokphamgkkcaaGreat
open Go.RowKit
theorem opn_parts {s : ByteArray} {frame plain : Int} {f : Fs} {b : ByteArray} (h : opn s frame plain = .ok (f, b)) : pke s = 0 ∧ fsOf s = f ∧ whe s f (wth frame 58 16777216) = 0 ∧ bod (s.extract 51 (12 + f.len)) f.st (wth plain 7 16777216) = .ok b ∧ cbe b f = 0 := by
  unfold opn at h
  split at h
  · cases h
  · rename_i h1
    split at h
    · cases h
    · rename_i h2
      split at h
      · cases h
      · rename_i b' hb
        split at h
        · cases h
        · rename_i h3
          cases h
          exact ⟨Classical.not_not.1 h1, rfl, Classical.not_not.1 h2, hb, Classical.not_not.1 h3⟩
theorem opn_of {s : ByteArray} {frame plain : Int} {f : Fs} {b : ByteArray} (h1 : pke s = 0) (h2 : fsOf s = f) (h3 : whe s f (wth frame 58 16777216) = 0) (h4 : bod (s.extract 51 (12 + f.len)) f.st (wth plain 7 16777216) = .ok b) (h5 : cbe b f = 0) : opn s frame plain = .ok (f, b) := by
  subst h2
  unfold opn
  rw [if_neg (fun h => h h1), if_neg (fun h => h h3), h4]
  dsimp only
  rw [if_neg (fun h => h h5)]
theorem bod_pos {t : ByteArray} {st : Nat} {most : Int} {e : Nat} (h : bod t st most = .error e) : e ≠ 0 := by
  unfold bod at h
  split at h
  · split at h
    · cases h; decide
    · split at h
      · cases h; decide
      · split at h
        · cases h; decide
        · cases h
  · split at h
    · cases h; decide
    · cases h
theorem opn_pos {s : ByteArray} {frame plain : Int} {e : Nat} (h : opn s frame plain = .error e) : e ≠ 0 := by
  unfold opn at h
  split at h
  · rename_i h1; cases h; exact h1
  · split at h
    · rename_i h2; cases h; exact h2
    · split at h
      · rename_i e' hb
        cases h
        exact bod_pos hb
      · split at h
        · rename_i h3; cases h; exact h3
        · cases h
theorem pke_zero {s : ByteArray} (h : pke s = 0) : 51 ≤ s.size ∧ Right (fsOf s) := by
  unfold pke at h
  split at h
  · cases h
  · rename_i h1
    split at h
    · rename_i h2; exact ⟨by omega, rgt_iff.1 h2⟩
    · cases h
theorem opn_right {s : ByteArray} {frame plain : Int} {f : Fs} {b : ByteArray} (h : opn s frame plain = .ok (f, b)) : Right f ∧ FsOk f ∧ 12 + f.len ≤ s.size := by
  obtain ⟨h1, h2, h3, _, _⟩ := opn_parts h
  obtain ⟨h6, h7⟩ := pke_zero h1
  have h8 := fsOf_ok h6
  rw [h2] at h7 h8
  exact ⟨h7, h8, by have := (whe_zero h3).2; omega⟩
/-- Two texts that begin with the same bytes. -/
theorem ext_in {s t : ByteArray} {L a b : Nat} (h : s.extract 0 L = t.extract 0 L) (hb : b ≤ L) : s.extract a b = t.extract a b := by
  have e : ∀ u : ByteArray, (u.extract 0 L).extract a b = u.extract a b := fun u => by rw [ByteArray.extract_extract]; congr 1 <;> omega
  rw [← e s, ← e t, h]
theorem fsOf_same {s t : ByteArray} {L : Nat} (h : s.extract 0 L = t.extract 0 L) (hL : 51 ≤ L) : fsOf s = fsOf t := by
  unfold fsOf num
  rw [ext_in h (a := 0) (b := 0 + 8) (by omega), ext_in h (a := 8) (b := 8 + 4) (by omega), ext_in h (a := 12) (b := 12 + 1) (by omega), ext_in h (a := 13) (b := 13 + 4) (by omega), ext_in h (a := 17) (b := 17 + 2) (by omega), ext_in h (a := 19) (b := 19 + 4) (by omega), ext_in h (a := 23) (b := 23 + 8) (by omega), ext_in h (a := 31) (b := 31 + 8) (by omega), ext_in h (a := 39) (b := 39 + 8) (by omega), ext_in h (a := 47) (b := 47 + 4) (by omega)]
/-- What a right frame is hangs on its own bytes alone. -/
theorem opn_loc {s t : ByteArray} {frame plain : Int} {f : Fs} {b : ByteArray} (h : opn s frame plain = .ok (f, b)) (ht : 12 + f.len ≤ t.size) (he : s.extract 0 (12 + f.len) = t.extract 0 (12 + f.len)) : opn t frame plain = .ok (f, b) := by
  obtain ⟨h1, h2, h3, h4, h5⟩ := opn_parts h
  obtain ⟨h6, h7⟩ := pke_zero h1
  have hR := (opn_right h).1
  have hl := hR.l1
  have hf : fsOf t = f := by rw [← h2]; exact (fsOf_same he (by omega)).symm
  refine opn_of ?_ hf ?_ ?_ h5
  · unfold pke
    rw [if_neg (by omega), hf, if_pos (rgt_iff.2 hR)]
  · obtain ⟨w1, w2⟩ := whe_zero h3
    unfold whe at h3 ⊢
    rw [if_neg w1, if_neg w2] at h3
    rw [if_neg w1, if_neg (by omega), ← ext_in he (Nat.le_refl _)]
    exact h3
  · rw [← ext_in he (Nat.le_refl _)]
    exact h4
/-- The right frame that stands at a place, if it has the offset that is wanted. -/
def lks (s : ByteArray) (frame plain : Int) (k : Nat) (want : Int) : Except Nat Fs := match opn (s.extract k s.size) frame plain with
  | .error e => .error e
  | .ok (f, _) => if f.base = want then .ok f else .error 30
theorem lks_ok {s : ByteArray} {frame plain : Int} {k : Nat} {want : Int} {f : Fs} (h : lks s frame plain k want = .ok f) : ∃ b, opn (s.extract k s.size) frame plain = .ok (f, b) ∧ f.base = want := by
  unfold lks at h
  split at h
  · cases h
  · rename_i f' b' ho
    split at h
    · rename_i hw; cases h; exact ⟨_, ho, hw⟩
    · cases h
theorem lks_pos {s : ByteArray} {frame plain : Int} {k : Nat} {want : Int} {e : Nat} (h : lks s frame plain k want = .error e) : e ≠ 0 := by
  unfold lks at h
  split at h
  · rename_i e' ho; cases h; exact opn_pos ho
  · split at h
    · cases h
    · cases h; decide
/-- What a walk through a run is handed: a frame and its place, or why the run ends. -/
inductive Yd where
  | fr (f : Fs) (k : Nat)
  | no (e : Nat)
/-- The walk, from a place on. -/
def trc (lk : Nat → Int → Except Nat Fs) (N : Nat) : Nat → Nat → Int → List Yd
  | 0, _, _ => []
  | m + 1, k, b => if k < N then (match lk k b with
    | .error e => [.no e]
    | .ok f => .fr f k :: trc lk N m (k + (12 + f.len)) (f.base + f.cnt)) else []
theorem trc_end {lk : Nat → Int → Except Nat Fs} {N m k : Nat} {b : Int} (h : ¬ k < N) : trc lk N m k b = [] := by
  cases m with
  | zero => rfl
  | succ m => show (if k < N then _ else _) = _; rw [if_neg h]
theorem trc_no {lk : Nat → Int → Except Nat Fs} {N m k : Nat} {b : Int} {e : Nat} (h : k < N) (h2 : lk k b = .error e) : trc lk N (m + 1) k b = [.no e] := by
  show (if k < N then _ else _) = _
  rw [if_pos h, h2]
theorem trc_fr {lk : Nat → Int → Except Nat Fs} {N m k : Nat} {b : Int} {f : Fs} (h : k < N) (h2 : lk k b = .ok f) : trc lk N (m + 1) k b = .fr f k :: trc lk N m (k + (12 + f.len)) (f.base + f.cnt) := by
  show (if k < N then _ else _) = _
  rw [if_pos h, h2]
/-- The frames, the end, and why. -/
def frs : List Yd → List (Fs × Nat)
  | [] => []
  | .fr f k :: t => (f, k) :: frs t
  | .no _ :: t => frs t
def enG (d : Nat) : List Yd → Nat
  | [] => d
  | .fr f k :: t => enG (k + (12 + f.len)) t
  | .no _ :: t => enG d t
def wyG (d : Nat) : List Yd → Nat
  | [] => d
  | .fr _ _ :: t => wyG d t
  | .no e :: t => wyG e t
theorem frs_app : ∀ a b, frs (a ++ b) = frs a ++ frs b
  | [], _ => rfl
  | .fr f k :: t, b => by show (f, k) :: frs (t ++ b) = _; rw [frs_app t b]; rfl
  | .no _ :: t, b => by show frs (t ++ b) = _; rw [frs_app t b]; rfl
theorem enG_app : ∀ d a b, enG d (a ++ b) = enG (enG d a) b
  | _, [], _ => rfl
  | _, .fr _ _ :: t, b => enG_app _ t b
  | _, .no _ :: t, b => enG_app _ t b
theorem wyG_app : ∀ d a b, wyG d (a ++ b) = wyG (wyG d a) b
  | _, [], _ => rfl
  | _, .fr _ _ :: t, b => wyG_app _ t b
  | _, .no _ :: t, b => wyG_app _ t b
theorem frs_fr (a : List Yd) (f : Fs) (k : Nat) : frs (a ++ [.fr f k]) = frs a ++ [(f, k)] := frs_app _ _
theorem frs_no (a : List Yd) (e : Nat) : frs (a ++ [.no e]) = frs a := by rw [frs_app]; exact List.append_nil _
theorem enG_fr (d : Nat) (a : List Yd) (f : Fs) (k : Nat) : enG d (a ++ [.fr f k]) = k + (12 + f.len) := enG_app _ _ _
theorem enG_no (d : Nat) (a : List Yd) (e : Nat) : enG d (a ++ [.no e]) = enG d a := enG_app _ _ _
theorem wyG_no (d : Nat) (a : List Yd) (e : Nat) : wyG d (a ++ [.no e]) = e := wyG_app _ _ _
/-- Only the last may be no frame. -/
theorem trc_last {lk : Nat → Int → Except Nat Fs} {N : Nat} : ∀ (m k : Nat) (b : Int) (a : List Yd) (e : Nat), (a ++ [.no e]) <+: trc lk N m k b → a ++ [.no e] = trc lk N m k b
  | 0, k, b, a, e, h => by
    have h1 := List.prefix_nil.1 h
    simp at h1
  | m + 1, k, b, a, e, h => by
    by_cases hk : k < N
    · cases hl : lk k b with
      | error x =>
        rw [trc_no hk hl] at h ⊢
        cases a with
        | nil => simpa using h
        | cons y a =>
          have := h.length_le
          simp at this
      | ok f =>
        rw [trc_fr hk hl] at h ⊢
        cases a with
        | nil => have := (List.cons_prefix_cons.1 h).1; cases this
        | cons y a =>
          obtain ⟨h1, h2⟩ := List.cons_prefix_cons.1 h
          rw [List.cons_append, h1, trc_last m _ _ a e h2]
    · rw [trc_end hk] at h
      have h1 := List.prefix_nil.1 h
      simp at h1
/-- The run of some bytes. -/
def tr (s : ByteArray) (base frame plain : Int) : List Yd := trc (lks s frame plain) s.size (s.size + 1) 0 base
end Go.Proofs.YtihokphamgkkcaaGreat
namespace Go.Proofs.YtihokphamgkkcaaGreat
open Go.RowKit
theorem set8_at {x : World} {G : Nat} {T : TypeId} {u0 u1 u2 u3 u4 u5 u6 u7 : Value} (h : x.heap[G]? = some (.cells #[u0, u1, u2, u3, u4, u5, u6, u7] T (0, 0))) (v0 v1 v2 v3 v4 v5 v6 v7 : Value) :
    ((((((((x.setCell ⟨G, 0, none⟩ v0).setCell ⟨G, 1, none⟩ v1).setCell ⟨G, 2, none⟩ v2).setCell ⟨G, 3, none⟩ v3).setCell ⟨G, 4, none⟩ v4).setCell ⟨G, 5, none⟩ v5).setCell ⟨G, 6, none⟩ v6).setCell ⟨G, 7, none⟩ v7).heap[G]? = some (.cells #[v0, v1, v2, v3, v4, v5, v6, v7] T (0, 0)) := by
  have h0 : (x.setCell ⟨G, 0, none⟩ v0).heap[G]? = some (.cells #[v0, u1, u2, u3, u4, u5, u6, u7] T (0, 0)) := heap_set h
  have h1 : ((x.setCell ⟨G, 0, none⟩ v0).setCell ⟨G, 1, none⟩ v1).heap[G]? = some (.cells #[v0, v1, u2, u3, u4, u5, u6, u7] T (0, 0)) := heap_set h0
  have h2 : (((x.setCell ⟨G, 0, none⟩ v0).setCell ⟨G, 1, none⟩ v1).setCell ⟨G, 2, none⟩ v2).heap[G]? = some (.cells #[v0, v1, v2, u3, u4, u5, u6, u7] T (0, 0)) := heap_set h1
  have h3 := heap_set (i := 3) (v := v3) h2
  have h4 := heap_set (i := 4) (v := v4) h3
  have h5 := heap_set (i := 5) (v := v5) h4
  have h6 := heap_set (i := 6) (v := v6) h5
  exact heap_set (i := 7) (v := v7) h6
end Go.Proofs.YtihokphamgkkcaaGreat
namespace Go.Proofs.YtihokphamgkkcaaGreat
open Go.RowKit
theorem bel_drewN (w : World) (k : Nat) : Below w.heap.size w (w.drewN k) := ⟨rfl, rfl, rfl, Nat.le_refl _, fun _ _ => rfl⟩
end Go.Proofs.YtihokphamgkkcaaGreat
