/- DiskSafe: what a disk with one file answers. -/
import Derived.Test.YtnopamkoegalpaaDfx
namespace Go.Proofs.Ytnopamkoegalpaa
open Go.RowKit
def nf : ByteArray := ⟨#[102]⟩
def fV (X : List UInt8) (s : Nat) : Vw := [(nf, X, s)]
theorem vl_f (X : List UInt8) (s : Nat) : vl nf (fV X s) = some (X, s) := by simp [vl, fV]
theorem vset_f (X Y : List UInt8) (s t : Nat) : vset nf (Y, t) (fV X s) = fV Y t := by simp [vset, fV]
theorem vt_f (X : List UInt8) (s : Nat) : vt (fV X s) = X.length := by simp [vt, fV]
def G : Nat := 1099511627776
theorem f_new (w0 w : World) (h : Below w0.heap.size w0 w) : Calls Try.prog 10 #[.int .i64 1099511627776] w fun e w' => ∃ d, e = .returned (.pointer (some ⟨d, 0, none⟩)) ∧ One w0 w0.heap.size w' d G 0 0 [] := o_new w0 w _ _ h h.size
section
variable (w0 : World) (H : Nat) (d : Nat) (cl cb : Int) (X : List UInt8) (s : Nat) (w : World)
theorem f_create (h : One w0 H w d G cl cb []) : Calls Try.prog 16 #[.pointer (some ⟨d, 0, none⟩), .string ⟨#[102]⟩] w fun e w' => e = .returned (.int .i64 0) ∧ One w0 H w' d G cl cb (fV [] 0) :=
  o_create w0 H d G cl cb [] nf w h (by decide)
theorem f_append (t : ByteArray) (ht : X.length + t.size ≤ 1073741824) (h : One w0 H w d G cl cb (fV X s)) : Calls Try.prog 20 #[.pointer (some ⟨d, 0, none⟩), .string ⟨#[102]⟩, .string t] w fun e w' => e = .returned (.tuple #[.int .i64 t.size, .int .i64 0]) ∧ One w0 H w' d G cl cb (fV (X ++ t.data.toList) s) := by
  have := o_append w0 H d G cl cb (fV X s) nf w h t (by decide)
  have e : apN (some (X, s)) G X.length t = t.size := by unfold apN G; simp only; omega
  have e2 : apE (some (X, s)) G X.length t = 0 := by show (if apN (some (X, s)) G X.length t < t.size then 2 else 0) = 0; rw [e, if_neg (by omega)]
  have e3 : apV nf G t (fV X s) = fV (X ++ t.data.toList) s := by
    unfold apV
    rw [vl_f, vt_f]
    show vset nf (X ++ t.data.toList.take (apN (some (X, s)) G X.length t), s) (fV X s) = _
    rw [e, vset_f, ← ext_all t t.size (Nat.le_refl _)]
  rw [vl_f, vt_f, e, e2, e3] at this
  exact this
theorem f_sync (h : One w0 H w d G cl cb (fV X s)) : Calls Try.prog 22 #[.pointer (some ⟨d, 0, none⟩), .string ⟨#[102]⟩] w fun e w' => e = .returned (.int .i64 0) ∧ One w0 H w' d G cl cb (fV X X.length) := by
  have := o_sync w0 H d G cl cb (fV X s) nf w h (by decide)
  unfold synV at this
  rw [vl_f] at this
  simp only [vset_f] at this
  exact this
theorem f_size (h : One w0 H w d G cl cb (fV X s)) : Calls Try.prog 24 #[.pointer (some ⟨d, 0, none⟩), .string ⟨#[102]⟩] w fun e w' => e = .returned (.tuple #[.int .i64 X.length, .int .i64 0]) ∧ ∃ k, w' = w.drewN k := by
  have := o_size w0 H d G cl cb (fV X s) nf w h (by decide)
  rw [vl_f] at this
  exact this
theorem f_synced (h : One w0 H w d G cl cb (fV X s)) : Calls Try.prog 28 #[.pointer (some ⟨d, 0, none⟩), .string ⟨#[102]⟩] w fun e w' => e = .returned (.tuple #[.int .i64 s, .int .i64 0]) ∧ ∃ k, w' = w.drewN k := by
  have := o_synced w0 H d G cl cb (fV X s) nf w h (by decide)
  rw [vl_f] at this
  exact this
theorem f_over1 (a : Int) (t : ByteArray) (ha : a ≤ 9223372036854775807) (hh : has5 X.length a t.size = true) (h : One w0 H w d G cl cb (fV X s)) : Calls Try.prog 27 #[.pointer (some ⟨d, 0, none⟩), .string ⟨#[102]⟩, .int .i64 a, .string t] w fun e w' => e = .returned (.int .i64 0) ∧ One w0 H w' d G cl cb (fV (ovr X a.toNat t.data.toList) s) := by
  have := o_over w0 H d G cl cb (fV X s) nf w h a t (by decide) ha
  unfold ovV ovE at this
  rw [vl_f] at this
  simp only [vset_f, hh, if_true] at this
  exact this
theorem f_over0 (a : Int) (t : ByteArray) (ha : a ≤ 9223372036854775807) (hh : has5 X.length a t.size = false) (h : One w0 H w d G cl cb (fV X s)) : Calls Try.prog 27 #[.pointer (some ⟨d, 0, none⟩), .string ⟨#[102]⟩, .int .i64 a, .string t] w fun e w' => e = .returned (.int .i64 1) ∧ One w0 H w' d G cl cb (fV X s) := by
  have := o_over w0 H d G cl cb (fV X s) nf w h a t (by decide) ha
  unfold ovV ovE at this
  rw [vl_f] at this
  simp only [hh, Bool.false_eq_true, if_false] at this
  exact this
theorem f_cut1 (a : Int) (hh : has5 X.length 0 a = true) (h : One w0 H w d G cl cb (fV X s)) : Calls Try.prog 21 #[.pointer (some ⟨d, 0, none⟩), .string ⟨#[102]⟩, .int .i64 a] w fun e w' => e = .returned (.int .i64 0) ∧ One w0 H w' d G cl cb (fV (X.take a.toNat) (min s a.toNat)) := by
  have := o_cut w0 H d G cl cb (fV X s) nf w h a (by decide)
  unfold cuV cuE at this
  rw [vl_f] at this
  simp only [vset_f, hh, if_true] at this
  exact this
theorem f_cut0 (a : Int) (hh : has5 X.length 0 a = false) (h : One w0 H w d G cl cb (fV X s)) : Calls Try.prog 21 #[.pointer (some ⟨d, 0, none⟩), .string ⟨#[102]⟩, .int .i64 a] w fun e w' => e = .returned (.int .i64 1) ∧ One w0 H w' d G cl cb (fV X s) := by
  have := o_cut w0 H d G cl cb (fV X s) nf w h a (by decide)
  unfold cuV cuE at this
  rw [vl_f] at this
  simp only [hh, Bool.false_eq_true, if_false] at this
  exact this
theorem f_read (n : Nat) (hn : n = X.length) (h : One w0 H w d G cl cb (fV X s)) : Calls Try.prog 23 #[.pointer (some ⟨d, 0, none⟩), .string ⟨#[102]⟩, .int .i64 0, .int .i64 n] w fun e w' => e = .returned (.tuple #[.string (ba X), .int .i64 0]) ∧ ∃ cl' cb', One w0 H w' d G cl' cb' (fV X s) := by
  subst hn
  have := o_read w0 H d G cl cb (fV X s) nf w h 0 X.length (by decide) (by omega)
  have hh : has5 X.length 0 X.length = true := by unfold has5; simp
  unfold rdS at this
  have eE : rdE (some (X, s)) 0 X.length = 0 := by unfold rdE; simp only [hh, if_true]
  rw [vl_f, eE] at this
  simp only [hh, if_true] at this
  refine this.mono ?_
  rintro e w' ⟨he, hw⟩
  refine ⟨?_, _, _, hw⟩
  rw [he]
  simp
theorem f_remove (h : One w0 H w d G cl cb (fV X s)) : Calls Try.prog 18 #[.pointer (some ⟨d, 0, none⟩), .string ⟨#[102]⟩] w fun e w' => e = .returned (.int .i64 0) ∧ One w0 H w' d G cl cb [] := by
  have := o_remove w0 H d G cl cb (fV X s) nf w h (by decide)
  have e : vdel nf (fV X s) = [] := by simp [vdel, fV]
  rw [vl_f, e] at this
  exact this
theorem f_used (h : One w0 H w d G cl cb []) : Calls Try.prog 26 #[.pointer (some ⟨d, 0, none⟩)] w fun e w' => e = .returned (.int .i64 0) ∧ ∃ k, w' = w.drewN k := o_used w0 H d G cl cb [] w h
theorem f_read' (n : Int) (W : ByteArray) (hn : n = X.length) (hW : ba X = W) (h : One w0 H w d G cl cb (fV X s)) : Calls Try.prog 23 #[.pointer (some ⟨d, 0, none⟩), .string ⟨#[102]⟩, .int .i64 0, .int .i64 n] w fun e w' => e = .returned (.tuple #[.string W, .int .i64 0]) ∧ ∃ cl' cb', One w0 H w' d G cl' cb' (fV X s) := by
  subst hn; subst hW
  exact f_read w0 H d cl cb X s w _ rfl h
theorem f_size' (n : Int) (hn : (X.length : Int) = n) (h : One w0 H w d G cl cb (fV X s)) : Calls Try.prog 24 #[.pointer (some ⟨d, 0, none⟩), .string ⟨#[102]⟩] w fun e w' => e = .returned (.tuple #[.int .i64 n, .int .i64 0]) ∧ ∃ k, w' = w.drewN k := by
  subst hn
  exact f_size w0 H d cl cb X s w h
theorem f_synced' (n : Int) (hn : (s : Int) = n) (h : One w0 H w d G cl cb (fV X s)) : Calls Try.prog 28 #[.pointer (some ⟨d, 0, none⟩), .string ⟨#[102]⟩] w fun e w' => e = .returned (.tuple #[.int .i64 n, .int .i64 0]) ∧ ∃ k, w' = w.drewN k := by
  subst hn
  exact f_synced w0 H d cl cb X s w h
end
end Go.Proofs.Ytnopamkoegalpaa
