/- New; one disk's calls, one behind the other. -/
import Derived.Test.YthjbhfhdepepmaaDop2
import Derived.Test.YthjbhfhdepepmaaDop3
import Derived.Test.YthjbhfhdepepmaaDop4
import Derived.Test.YthjbhfhdepepmaaDop8
namespace Go.Proofs.Ythjbhfhdepepmaa
open Go.RowKit
def clamp (r : Int) : Nat := (min (max r 0) 1099511627776).toNat
theorem new_any (r : Int) (w : World) : Calls Try.prog 43 #[.int .i64 r] w fun e w' => e = .returned (.pointer (some ⟨w.heap.size, 0, none⟩)) ∧ w' = w.alloc (.cells #[.int .i64 (clamp r), .int .i64 0, .map none, .int .i64 0, .int .i64 0] 107) := by
  unfold clamp
  have e : ((min (max r 0) 1099511627776).toNat : Int) = min (max r 0) 1099511627776 := by omega
  rw [e]
  clear e
  go_enter Try.func43, Try.ntmps43
  go_wp2
  go_ret
  exact ⟨rfl, rfl⟩
/-- A disk as it is seen, and its own blocks. -/
def Ds (w : World) (d : Nat) (ft : Nat → Prop) (rm : Nat) (cl cb : Int) (V : Vw) : Prop := ∃ m fs, Dk w d m rm cl cb fs ∧ vw fs = V ∧ ft = Ft d m fs
/-- Behind a call. -/
def Aft (w : World) (ft : Nat → Prop) (d : Nat) (rm : Nat) (cl cb : Int) (V : Vw) (w' : World) : Prop := ∃ ft', Ds w' d ft' rm cl cb V ∧ Ch ft w w' ∧ ∀ i, ft' i → ft i ∨ w.heap.size ≤ i
theorem Beh.aft {w w' : World} {d : Nat} {m : Option Nat} {rm : Nat} {cl cb : Int} {fs : List Fl} {V : Vw} (h : Beh w d m fs rm cl cb V w') : Aft w (Ft d m fs) d rm cl cb V w' := by
  obtain ⟨m', fs', h1, h2, h3, h4⟩ := h
  exact ⟨_, ⟨m', fs', h1, h2, rfl⟩, h3, h4⟩
theorem Ds.lt {w : World} {d : Nat} {ft : Nat → Prop} {rm : Nat} {cl cb : Int} {V : Vw} (h : Ds w d ft rm cl cb V) {i : Nat} (hi : ft i) : i < w.heap.size := by
  obtain ⟨m, fs, h1, _, rfl⟩ := h
  exact Ft.lt h1 hi
theorem Ds.ch {S : Nat → Prop} {w w' : World} {d : Nat} {ft : Nat → Prop} {rm : Nat} {cl cb : Int} {V : Vw} (h : Ds w d ft rm cl cb V) (hc : Ch S w w') (hS : ∀ i, ft i → ¬ S i) : Ds w' d ft rm cl cb V := by
  obtain ⟨m, fs, h1, h2, rfl⟩ := h
  exact ⟨m, fs, h1.ch hc hS, h2, rfl⟩
theorem Ds.drewN {w : World} {d : Nat} {ft : Nat → Prop} {rm : Nat} {cl cb : Int} {V : Vw} (h : Ds w d ft rm cl cb V) (k : Nat) : Ds (w.drewN k) d ft rm cl cb V := h.ch ((Ch.refl (fun _ => False) w).drewN k) (fun _ _ hi => hi)
theorem Ds.new (w : World) (r : Int) : Ds (w.alloc (.cells #[.int .i64 (clamp r), .int .i64 0, .map none, .int .i64 0, .int .i64 0] 107)) w.heap.size (fun i => i = w.heap.size) (clamp r) 0 0 [] := by
  refine ⟨none, [], ⟨heap_new _ _, rfl, (fun f hf => by cases hf), List.Pairwise.nil, List.Pairwise.nil, (fun f hf => by cases hf), ⟨Nat.zero_le _, by unfold clamp; omega⟩⟩, rfl, ?_⟩
  funext i
  apply propext
  constructor
  · intro hi; exact Or.inl hi
  · rintro (hi | hi | ⟨f, hf, _⟩)
    · exact hi
    · cases hi
    · cases hf
section
variable (d : Nat) (ft : Nat → Prop) (rm : Nat) (cl cb : Int) (V : Vw) (nm : ByteArray) (w : World) (h : Ds w d ft rm cl cb V)
include h
theorem s_room : Calls Try.prog 60 #[.pointer (some ⟨d, 0, none⟩)] w fun e w' => e = .returned (.int .i64 rm) ∧ ∃ k, w' = w.drewN k := by
  obtain ⟨m, fs, h1, rfl, rfl⟩ := h
  exact room_any d m rm cl cb fs w h1
theorem s_used : Calls Try.prog 38 #[.pointer (some ⟨d, 0, none⟩)] w fun e w' => e = .returned (.int .i64 (vt V)) ∧ ∃ k, w' = w.drewN k := by
  obtain ⟨m, fs, h1, rfl, rfl⟩ := h
  rw [vt_vw]
  exact used_any d m rm cl cb fs w h1
theorem s_reads : Calls Try.prog 63 #[.pointer (some ⟨d, 0, none⟩)] w fun e w' => e = .returned (.tuple #[.int .i64 cl, .int .i64 cb]) ∧ ∃ k, w' = w.drewN k := by
  obtain ⟨m, fs, h1, rfl, rfl⟩ := h
  exact reads_any d m rm cl cb fs w h1
theorem s_size (hn : nm.size ≤ maxLen) : Calls Try.prog 36 #[.pointer (some ⟨d, 0, none⟩), .string nm] w fun e w' => e = .returned (.tuple #[.int .i64 (szN (vl nm V)), .int .i64 (noE (vl nm V))]) ∧ ∃ k, w' = w.drewN k := by
  obtain ⟨m, fs, h1, rfl, rfl⟩ := h
  exact size_any d m rm cl cb fs nm hn w h1
theorem s_synced (hn : nm.size ≤ maxLen) : Calls Try.prog 35 #[.pointer (some ⟨d, 0, none⟩), .string nm] w fun e w' => e = .returned (.tuple #[.int .i64 (syN (vl nm V)), .int .i64 (noE (vl nm V))]) ∧ ∃ k, w' = w.drewN k := by
  obtain ⟨m, fs, h1, rfl, rfl⟩ := h
  exact synced_any d m rm cl cb fs nm hn w h1
theorem s_create (hn : nm.size ≤ maxLen) : Calls Try.prog 28 #[.pointer (some ⟨d, 0, none⟩), .string nm] w fun e w' => e = .returned (.int .i64 (crE nm V)) ∧ Aft w ft d rm cl cb (crV nm V) w' := by
  obtain ⟨m, fs, h1, rfl, rfl⟩ := h
  exact (create_any d m rm cl cb fs nm hn w h1).mono fun _ _ k => ⟨k.1, k.2.aft⟩
theorem s_sync (hn : nm.size ≤ maxLen) : Calls Try.prog 45 #[.pointer (some ⟨d, 0, none⟩), .string nm] w fun e w' => e = .returned (.int .i64 (noE (vl nm V))) ∧ Aft w ft d rm cl cb (synV nm V) w' := by
  obtain ⟨m, fs, h1, rfl, rfl⟩ := h
  exact (sync_any d m rm cl cb fs nm hn w h1).mono fun _ _ k => ⟨k.1, k.2.aft⟩
theorem s_remove (hn : nm.size ≤ maxLen) : Calls Try.prog 77 #[.pointer (some ⟨d, 0, none⟩), .string nm] w fun e w' => e = .returned (.int .i64 (noE (vl nm V))) ∧ Aft w ft d rm cl cb (vdel nm V) w' := by
  obtain ⟨m, fs, h1, rfl, rfl⟩ := h
  exact (remove_any d m rm cl cb fs nm hn w h1).mono fun _ _ k => ⟨k.1, k.2.aft⟩
theorem s_append (s : ByteArray) (hn : nm.size ≤ maxLen) : Calls Try.prog 30 #[.pointer (some ⟨d, 0, none⟩), .string nm, .string s] w fun e w' => e = .returned (.tuple #[.int .i64 (apN (vl nm V) rm (vt V) s), .int .i64 (apE (vl nm V) rm (vt V) s)]) ∧ Aft w ft d rm cl cb (apV nm rm s V) w' := by
  obtain ⟨m, fs, h1, rfl, rfl⟩ := h
  rw [vt_vw]
  exact (append_any d m rm cl cb fs nm s hn w h1).mono fun _ _ k => ⟨k.1, k.2.aft⟩
theorem s_cut (a : Int) (hn : nm.size ≤ maxLen) : Calls Try.prog 78 #[.pointer (some ⟨d, 0, none⟩), .string nm, .int .i64 a] w fun e w' => e = .returned (.int .i64 (cuE (vl nm V) a)) ∧ Aft w ft d rm cl cb (cuV nm a V) w' := by
  obtain ⟨m, fs, h1, rfl, rfl⟩ := h
  exact (dcut_any d m rm cl cb fs nm a hn w h1).mono fun _ _ k => ⟨k.1, k.2.aft⟩
theorem s_over (a : Int) (s : ByteArray) (hn : nm.size ≤ maxLen) (ha : a ≤ 9223372036854775807) : Calls Try.prog 81 #[.pointer (some ⟨d, 0, none⟩), .string nm, .int .i64 a, .string s] w fun e w' => e = .returned (.int .i64 (ovE (vl nm V) a s)) ∧ Aft w ft d rm cl cb (ovV nm a s V) w' := by
  obtain ⟨m, fs, h1, rfl, rfl⟩ := h
  exact (over_any d m rm cl cb fs nm a s hn ha w h1).mono fun _ _ k => ⟨k.1, k.2.aft⟩
theorem s_read (a n : Int) (hn : nm.size ≤ maxLen) (ha : a ≤ 9223372036854775807) : Calls Try.prog 37 #[.pointer (some ⟨d, 0, none⟩), .string nm, .int .i64 a, .int .i64 n] w fun e w' => e = .returned (.tuple #[.string (rdS (vl nm V) a n), .int .i64 (rdE (vl nm V) a n)]) ∧ Aft w ft d rm (rdC (vl nm V) a n cl) (rdB (vl nm V) a n cb) V w' := by
  obtain ⟨m, fs, h1, rfl, rfl⟩ := h
  exact (dread_any d m rm cl cb fs nm a n hn ha w h1).mono fun _ _ k => ⟨k.1, k.2.aft⟩
end
end Go.Proofs.Ythjbhfhdepepmaa
