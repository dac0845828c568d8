/- 'fixed': the chapter's example. -/
import Derived.Test.YthjbhfhdepepmaaDnw
namespace Go.Proofs.Ythjbhfhdepepmaa
open Go.RowKit
/-- One disk, all of whose blocks lie from H on, behind the world w0. -/
def One (w0 : World) (H : Nat) (w : World) (d : Nat) (rm : Nat) (cl cb : Int) (V : Vw) : Prop := ∃ ft, Ds w d ft rm cl cb V ∧ (∀ i, ft i → H ≤ i) ∧ H ≤ w.heap.size ∧ Below H w0 w
theorem One.aft {w0 : World} {H : Nat} {w w' : World} {d : Nat} {rm : Nat} {cl' cb' : Int} {V' : Vw} {ft : Nat → Prop} (h2 : ∀ i, ft i → H ≤ i) (h3 : H ≤ w.heap.size) (h4 : Below H w0 w) (ha : Aft w ft d rm cl' cb' V' w') : One w0 H w' d rm cl' cb' V' := by
  obtain ⟨ft', k1, k2, k3⟩ := ha
  refine ⟨ft', k1, fun i hi => ?_, Nat.le_trans h3 k2.size, h4.trans (k2.below h3 (fun i hi hf => by have := h2 i hf; omega))⟩
  rcases k3 i hi with k | k
  · exact h2 i k
  · omega
theorem One.drewN {w0 : World} {H : Nat} {w : World} {d : Nat} {rm : Nat} {cl cb : Int} {V : Vw} (h : One w0 H w d rm cl cb V) (k : Nat) : One w0 H (w.drewN k) d rm cl cb V := by
  obtain ⟨ft, h1, h2, h3, h4⟩ := h
  exact ⟨ft, h1.drewN k, h2, h3, h4.trans (((Ch.refl (fun _ => False) w).drewN k).below h3 (fun _ _ e => e))⟩
theorem One.new (w0 w : World) (H : Nat) (r : Int) (h : Below H w0 w) (hs : H ≤ w.heap.size) : One w0 H (w.alloc (.cells #[.int .i64 (clamp r), .int .i64 0, .map none, .int .i64 0, .int .i64 0] 107)) w.heap.size (clamp r) 0 0 [] :=
  ⟨_, Ds.new w r, fun i hi => by omega, by simp; omega, h.alloc hs _⟩
theorem o_new (w0 w : World) (H : Nat) (r : Int) (h : Below H w0 w) (hs : H ≤ w.heap.size) : Calls Try.prog 43 #[.int .i64 r] w fun e w' => ∃ d, e = .returned (.pointer (some ⟨d, 0, none⟩)) ∧ One w0 H w' d (clamp r) 0 0 [] :=
  (new_any r w).mono fun _ _ k => ⟨w.heap.size, k.1, k.2 ▸ One.new w0 w H r h hs⟩
section
variable (w0 : World) (H : Nat) (d : Nat) (rm : Nat) (cl cb : Int) (V : Vw) (nm : ByteArray) (w : World) (h : One w0 H w d rm cl cb V)
include h
theorem o_room : Calls Try.prog 60 #[.pointer (some ⟨d, 0, none⟩)] w fun e w' => e = .returned (.int .i64 rm) ∧ ∃ k, w' = w.drewN k := by
  obtain ⟨ft, h1, _⟩ := h
  exact s_room d ft rm cl cb V w h1
theorem o_used : Calls Try.prog 38 #[.pointer (some ⟨d, 0, none⟩)] w fun e w' => e = .returned (.int .i64 (vt V)) ∧ ∃ k, w' = w.drewN k := by
  obtain ⟨ft, h1, _⟩ := h
  exact s_used d ft rm cl cb V w h1
theorem o_size (hn : nm.size ≤ maxLen) : Calls Try.prog 36 #[.pointer (some ⟨d, 0, none⟩), .string nm] w fun e w' => e = .returned (.tuple #[.int .i64 (szN (vl nm V)), .int .i64 (noE (vl nm V))]) ∧ ∃ k, w' = w.drewN k := by
  obtain ⟨ft, h1, _⟩ := h
  exact s_size d ft rm cl cb V nm w h1 hn
theorem o_synced (hn : nm.size ≤ maxLen) : Calls Try.prog 35 #[.pointer (some ⟨d, 0, none⟩), .string nm] w fun e w' => e = .returned (.tuple #[.int .i64 (syN (vl nm V)), .int .i64 (noE (vl nm V))]) ∧ ∃ k, w' = w.drewN k := by
  obtain ⟨ft, h1, _⟩ := h
  exact s_synced d ft rm cl cb V nm w h1 hn
theorem o_create (hn : nm.size ≤ maxLen) : Calls Try.prog 28 #[.pointer (some ⟨d, 0, none⟩), .string nm] w fun e w' => e = .returned (.int .i64 (crE nm V)) ∧ One w0 H w' d rm cl cb (crV nm V) := by
  obtain ⟨ft, h1, h2, h3, h4⟩ := h
  exact (s_create d ft rm cl cb V nm w h1 hn).mono fun _ _ k => ⟨k.1, One.aft h2 h3 h4 k.2⟩
theorem o_sync (hn : nm.size ≤ maxLen) : Calls Try.prog 45 #[.pointer (some ⟨d, 0, none⟩), .string nm] w fun e w' => e = .returned (.int .i64 (noE (vl nm V))) ∧ One w0 H w' d rm cl cb (synV nm V) := by
  obtain ⟨ft, h1, h2, h3, h4⟩ := h
  exact (s_sync d ft rm cl cb V nm w h1 hn).mono fun _ _ k => ⟨k.1, One.aft h2 h3 h4 k.2⟩
theorem o_remove (hn : nm.size ≤ maxLen) : Calls Try.prog 77 #[.pointer (some ⟨d, 0, none⟩), .string nm] w fun e w' => e = .returned (.int .i64 (noE (vl nm V))) ∧ One w0 H w' d rm cl cb (vdel nm V) := by
  obtain ⟨ft, h1, h2, h3, h4⟩ := h
  exact (s_remove d ft rm cl cb V nm w h1 hn).mono fun _ _ k => ⟨k.1, One.aft h2 h3 h4 k.2⟩
theorem o_append (s : ByteArray) (hn : nm.size ≤ maxLen) : Calls Try.prog 30 #[.pointer (some ⟨d, 0, none⟩), .string nm, .string s] w fun e w' => e = .returned (.tuple #[.int .i64 (apN (vl nm V) rm (vt V) s), .int .i64 (apE (vl nm V) rm (vt V) s)]) ∧ One w0 H w' d rm cl cb (apV nm rm s V) := by
  obtain ⟨ft, h1, h2, h3, h4⟩ := h
  exact (s_append d ft rm cl cb V nm w h1 s hn).mono fun _ _ k => ⟨k.1, One.aft h2 h3 h4 k.2⟩
theorem o_cut (a : Int) (hn : nm.size ≤ maxLen) : Calls Try.prog 78 #[.pointer (some ⟨d, 0, none⟩), .string nm, .int .i64 a] w fun e w' => e = .returned (.int .i64 (cuE (vl nm V) a)) ∧ One w0 H w' d rm cl cb (cuV nm a V) := by
  obtain ⟨ft, h1, h2, h3, h4⟩ := h
  exact (s_cut d ft rm cl cb V nm w h1 a hn).mono fun _ _ k => ⟨k.1, One.aft h2 h3 h4 k.2⟩
theorem o_over (a : Int) (s : ByteArray) (hn : nm.size ≤ maxLen) (ha : a ≤ 9223372036854775807) : Calls Try.prog 81 #[.pointer (some ⟨d, 0, none⟩), .string nm, .int .i64 a, .string s] w fun e w' => e = .returned (.int .i64 (ovE (vl nm V) a s)) ∧ One w0 H w' d rm cl cb (ovV nm a s V) := by
  obtain ⟨ft, h1, h2, h3, h4⟩ := h
  exact (s_over d ft rm cl cb V nm w h1 a s hn ha).mono fun _ _ k => ⟨k.1, One.aft h2 h3 h4 k.2⟩
theorem o_read (a n : Int) (hn : nm.size ≤ maxLen) (ha : a ≤ 9223372036854775807) : Calls Try.prog 37 #[.pointer (some ⟨d, 0, none⟩), .string nm, .int .i64 a, .int .i64 n] w fun e w' => e = .returned (.tuple #[.string (rdS (vl nm V) a n), .int .i64 (rdE (vl nm V) a n)]) ∧ One w0 H w' d rm (rdC (vl nm V) a n cl) (rdB (vl nm V) a n cb) V := by
  obtain ⟨ft, h1, h2, h3, h4⟩ := h
  exact (s_read d ft rm cl cb V nm w h1 a n hn ha).mono fun _ _ k => ⟨k.1, One.aft h2 h3 h4 k.2⟩
end
def na : ByteArray := ⟨#[97]⟩
def l8 : List UInt8 := [49, 50, 51, 52, 53, 54, 55, 56]
def l10 : List UInt8 := [49, 50, 51, 52, 53, 54, 55, 56, 97, 98]
section
variable (w0 : World) (H : Nat) (d : Nat) (cl cb : Int) (w : World)
theorem fx1 (h : One w0 H w d 10 cl cb []) : Calls Try.prog 28 #[.pointer (some ⟨d, 0, none⟩), .string ⟨#[97]⟩] w fun e w' => e = .returned (.int .i64 0) ∧ One w0 H w' d 10 cl cb [(na, [], 0)] :=
  o_create w0 H d 10 cl cb [] na w h (by decide)
theorem fx2 (h : One w0 H w d 10 cl cb [(na, [], 0)]) : Calls Try.prog 28 #[.pointer (some ⟨d, 0, none⟩), .string ⟨#[97]⟩] w fun e w' => e = .returned (.int .i64 3) ∧ One w0 H w' d 10 cl cb [(na, [], 0)] :=
  o_create w0 H d 10 cl cb [(na, [], 0)] na w h (by decide)
theorem fx3 (h : One w0 H w d 10 cl cb [(na, [], 0)]) : Calls Try.prog 30 #[.pointer (some ⟨d, 0, none⟩), .string ⟨#[97]⟩, .string ⟨#[49, 50, 51, 52, 53, 54, 55, 56]⟩] w fun e w' => e = .returned (.tuple #[.int .i64 8, .int .i64 0]) ∧ One w0 H w' d 10 cl cb [(na, l8, 0)] :=
  o_append w0 H d 10 cl cb [(na, [], 0)] na w h ⟨#[49, 50, 51, 52, 53, 54, 55, 56]⟩ (by decide)
theorem fx4 (h : One w0 H w d 10 cl cb [(na, l8, 0)]) : Calls Try.prog 30 #[.pointer (some ⟨d, 0, none⟩), .string ⟨#[97]⟩, .string ⟨#[97, 98, 99, 100, 101]⟩] w fun e w' => e = .returned (.tuple #[.int .i64 2, .int .i64 2]) ∧ One w0 H w' d 10 cl cb [(na, l10, 0)] :=
  o_append w0 H d 10 cl cb [(na, l8, 0)] na w h ⟨#[97, 98, 99, 100, 101]⟩ (by decide)
theorem fx5 (h : One w0 H w d 10 cl cb [(na, l10, 0)]) : Calls Try.prog 37 #[.pointer (some ⟨d, 0, none⟩), .string ⟨#[97]⟩, .int .i64 6, .int .i64 4] w fun e w' => e = .returned (.tuple #[.string ⟨#[55, 56, 97, 98]⟩, .int .i64 0]) ∧ One w0 H w' d 10 (wrap64 (cl + 1)) (wrap64 (cb + 4)) [(na, l10, 0)] :=
  o_read w0 H d 10 cl cb [(na, l10, 0)] na w h 6 4 (by decide) (by decide)
theorem fx6 (h : One w0 H w d 10 cl cb [(na, l10, 0)]) : Calls Try.prog 38 #[.pointer (some ⟨d, 0, none⟩)] w fun e w' => e = .returned (.int .i64 10) ∧ ∃ k, w' = w.drewN k :=
  o_used w0 H d 10 cl cb [(na, l10, 0)] w h
end
end Go.Proofs.Ythjbhfhdepepmaa
