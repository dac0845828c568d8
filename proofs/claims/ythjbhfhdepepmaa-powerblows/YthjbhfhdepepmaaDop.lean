/- What a disk's looks answer; Sync. -/
import Derived.Test.YthjbhfhdepepmaaDvw
import Derived.Test.YthjbhfhdepepmaaDfj
import Derived.Deep.RegionHeld3
import Derived.Deep.RegionWith
namespace Go.Proofs.Ythjbhfhdepepmaa
open Go.RowKit
def szN : Option (List UInt8 × Nat) → Nat | none => 0 | some x => x.1.length
def syN : Option (List UInt8 × Nat) → Nat | none => 0 | some x => x.2
def noE : Option (List UInt8 × Nat) → Nat | none => 4 | some _ => 0
section
variable {w : World} {d : Nat} {m : Option Nat} {rm : Nat} {cl cb : Int} {fs : List Fl}
theorem Dk.c0 (h : Dk w d m rm cl cb fs) : w.cell? ⟨d, 0, none⟩ = some (.int .i64 rm) := (cell_of h.blk).trans rfl
theorem Dk.c1 (h : Dk w d m rm cl cb fs) : w.cell? ⟨d, 1, none⟩ = some (.int .i64 (tot fs)) := (cell_of h.blk).trans rfl
theorem Dk.c2 (h : Dk w d m rm cl cb fs) : w.cell? ⟨d, 2, none⟩ = some (.map m) := (cell_of h.blk).trans rfl
theorem Dk.c3 (h : Dk w d m rm cl cb fs) : w.cell? ⟨d, 3, none⟩ = some (.int .i64 cl) := (cell_of h.blk).trans rfl
theorem Dk.c4 (h : Dk w d m rm cl cb fs) : w.cell? ⟨d, 4, none⟩ = some (.int .i64 cb) := (cell_of h.blk).trans rfl
theorem Dk.fz (h : Dk w d m rm cl cb fs) (i : Nat) : w.frozen? ⟨d, i, none⟩ = false := froz_of h.blk
end
theorem room_any (d : Nat) (m : Option Nat) (rm : Nat) (cl cb : Int) (fs : List Fl) (w : World) (h : Dk w d m rm cl cb fs) :
    Calls Try.prog 60 #[.pointer (some ⟨d, 0, none⟩)] w fun e w' => e = .returned (.int .i64 rm) ∧ ∃ k, w' = w.drewN k := by
  have c := h.c0
  clear h
  go_enter Try.func60, Try.ntmps60
  go_wp2
  go_ret
  exact ⟨rfl, 0, rfl⟩
theorem used_any (d : Nat) (m : Option Nat) (rm : Nat) (cl cb : Int) (fs : List Fl) (w : World) (h : Dk w d m rm cl cb fs) :
    Calls Try.prog 38 #[.pointer (some ⟨d, 0, none⟩)] w fun e w' => e = .returned (.int .i64 (tot fs)) ∧ ∃ k, w' = w.drewN k := by
  have c := h.c1
  clear h
  go_enter Try.func38, Try.ntmps38
  go_wp2
  go_ret
  exact ⟨rfl, 0, rfl⟩
theorem reads_any (d : Nat) (m : Option Nat) (rm : Nat) (cl cb : Int) (fs : List Fl) (w : World) (h : Dk w d m rm cl cb fs) :
    Calls Try.prog 63 #[.pointer (some ⟨d, 0, none⟩)] w fun e w' => e = .returned (.tuple #[.int .i64 cl, .int .i64 cb]) ∧ ∃ k, w' = w.drewN k := by
  have c := h.c3
  have c' := h.c4
  clear h
  go_enter Try.func63, Try.ntmps63
  go_wp2
  go_quiet (fail)
  go_wp2
  go_ret2
  exact ⟨rfl, _, rfl⟩
set_option maxHeartbeats 1000000 in
theorem size_any (d : Nat) (m : Option Nat) (rm : Nat) (cl cb : Int) (fs : List Fl) (nm : ByteArray) (hn : nm.size ≤ maxLen) (w : World) (h : Dk w d m rm cl cb fs) :
    Calls Try.prog 36 #[.pointer (some ⟨d, 0, none⟩), .string nm] w fun e w' => e = .returned (.tuple #[.int .i64 (szN (vl nm (vw fs))), .int .i64 (noE (vl nm (vw fs)))]) ∧ ∃ k, w' = w.drewN k := by
  have HF := Hid.mk (file_any d m rm cl cb fs nm hn w h)
  rw [vl_vw]
  cases hl : look nm fs with
  | none =>
    rw [hl] at HF
    simp only [bkOf] at HF
    clear h hl
    go_enter Try.func36, Try.ntmps36
    go_wp2_with (go_at_call 66; refine HF.out.mono ?_; rintro e w' ⟨rfl, rfl⟩)
    go_ret2
    exact ⟨rfl, 0, rfl⟩
  | some f =>
    rw [hl] at HF
    simp only [bkOf] at HF
    have hF := h.fil f (look_mem hl).1
    have HS := Hid.mk (fsize_any f w hF)
    clear h hl hF
    go_enter Try.func36, Try.ntmps36
    go_wp2_with (first | (go_at_call 66; refine HF.out.mono ?_; rintro e w' ⟨rfl, rfl⟩) | (go_at_call 70; refine HS.out.mono ?_; rintro e w' ⟨rfl, rfl⟩))
    go_ret2
    exact ⟨rfl, 0, rfl⟩
set_option maxHeartbeats 1000000 in
theorem synced_any (d : Nat) (m : Option Nat) (rm : Nat) (cl cb : Int) (fs : List Fl) (nm : ByteArray) (hn : nm.size ≤ maxLen) (w : World) (h : Dk w d m rm cl cb fs) :
    Calls Try.prog 35 #[.pointer (some ⟨d, 0, none⟩), .string nm] w fun e w' => e = .returned (.tuple #[.int .i64 (syN (vl nm (vw fs))), .int .i64 (noE (vl nm (vw fs)))]) ∧ ∃ k, w' = w.drewN k := by
  have HF := Hid.mk (file_any d m rm cl cb fs nm hn w h)
  rw [vl_vw]
  cases hl : look nm fs with
  | none =>
    rw [hl] at HF
    simp only [bkOf] at HF
    clear h hl
    go_enter Try.func35, Try.ntmps35
    go_wp2_with (go_at_call 66; refine HF.out.mono ?_; rintro e w' ⟨rfl, rfl⟩)
    go_ret2
    exact ⟨rfl, 0, rfl⟩
  | some f =>
    rw [hl] at HF
    simp only [bkOf] at HF
    have hF := h.fil f (look_mem hl).1
    have c1 : w.cell? ⟨f.bk, 1, none⟩ = some (.int .i64 f.sy) := (cell_of hF.1).trans rfl
    clear h hl hF
    go_enter Try.func35, Try.ntmps35
    go_wp2_with (go_at_call 66; refine HF.out.mono ?_; rintro e w' ⟨rfl, rfl⟩)
    go_ret2
    exact ⟨rfl, 0, rfl⟩
theorem Dk.drewN {w : World} {d : Nat} {m : Option Nat} {rm : Nat} {cl cb : Int} {fs : List Fl} (h : Dk w d m rm cl cb fs) (k : Nat) : Dk (w.drewN k) d m rm cl cb fs := h.ch ((Ch.refl (fun _ => False) w).drewN k) (fun _ _ hi => hi)
theorem Dk.drew {w : World} {d : Nat} {m : Option Nat} {rm : Nat} {cl cb : Int} {fs : List Fl} (h : Dk w d m rm cl cb fs) : Dk w.drew d m rm cl cb fs := h.ch ((Ch.refl (fun _ => False) w).drew) (fun _ _ hi => hi)
theorem Beh.drewN {w w' : World} {d : Nat} {m : Option Nat} {rm : Nat} {cl cb : Int} {fs : List Fl} {V : Vw} (h : Beh w d m fs rm cl cb V w') (k : Nat) : Beh w d m fs rm cl cb V (w'.drewN k) := by
  obtain ⟨m', fs', h1, h2, h3, h4⟩ := h
  exact ⟨m', fs', h1.drewN k, h2, h3.drewN k, h4⟩
theorem Beh.drew {w w' : World} {d : Nat} {m : Option Nat} {rm : Nat} {cl cb : Int} {fs : List Fl} {V : Vw} (h : Beh w d m fs rm cl cb V w') : Beh w d m fs rm cl cb V w'.drew := by
  obtain ⟨m', fs', h1, h2, h3, h4⟩ := h
  exact ⟨m', fs', h1.drew, h2, h3.drew, h4⟩
/-- Nothing has turned. -/
theorem Beh.same {w : World} {d : Nat} {m : Option Nat} {rm : Nat} {cl cb : Int} {fs : List Fl} (h : Dk w d m rm cl cb fs) : Beh w d m fs rm cl cb (vw fs) w := ⟨m, fs, h, rfl, Ch.refl _ _, fun _ hi => Or.inl hi⟩
def synV (nm : ByteArray) (V : Vw) : Vw := match vl nm V with | none => V | some x => vset nm (x.1, x.1.length) V
set_option maxHeartbeats 1000000 in
theorem sync_any (d : Nat) (m : Option Nat) (rm : Nat) (cl cb : Int) (fs : List Fl) (nm : ByteArray) (hn : nm.size ≤ maxLen) (w : World) (h : Dk w d m rm cl cb fs) :
    Calls Try.prog 45 #[.pointer (some ⟨d, 0, none⟩), .string nm] w fun e w' => e = .returned (.int .i64 (noE (vl nm (vw fs)))) ∧ Beh w d m fs rm cl cb (synV nm (vw fs)) w' := by
  have HF := Hid.mk (file_any d m rm cl cb fs nm hn w h)
  unfold synV
  rw [vl_vw]
  have HB := Hid.mk (Beh.same h)
  cases hl : look nm fs with
  | none =>
    rw [hl] at HF
    simp only [bkOf] at HF
    clear h hl
    go_enter Try.func45, Try.ntmps45
    go_wp2_with (go_at_call 66; refine HF.out.mono ?_; rintro e w' ⟨rfl, rfl⟩)
    go_ret
    exact ⟨rfl, HB.out⟩
  | some f =>
    simp only [Option.map_some]
    rw [hl] at HF
    simp only [bkOf] at HF
    have hfm := (look_mem hl).1
    have hF := h.fil f hfm
    have c1 : w.cell? ⟨f.bk, 1, none⟩ = some (.int .i64 f.sy) := (cell_of hF.1).trans rfl
    have e1 := froz_of (i := 1) hF.1
    have hB : Beh w d m fs rm cl cb (vset nm (f.da, f.da.length) (vw fs)) (w.setCell ⟨f.bk, 1, none⟩ (.int .i64 f.da.length)) := by
      refine h.put (g := { f with sy := f.da.length }) hl rfl rfl ⟨heap_set hF.1, own_setCell hF.2 hF.row⟩ ((Ch.refl _ _).setCell _ _ (fun _ => Or.inr (Or.inl rfl))) (Or.inl rfl) ?_ ⟨(h.lng f hfm).2.1, Nat.le_refl _⟩ ?_
      · have e : (tot fs : Int) + (f.da.length : Int) - f.da.length = tot fs := by omega
        show (w.setCell _ _).heap[d]? = some (.cells #[.int .i64 rm, .int .i64 ((tot fs : Int) + (f.da.length : Int) - f.da.length), .map m, .int .i64 cl, .int .i64 cb] 107 (0, 0))
        rw [e]
        exact heap_set_far h.blk (fun e => h.d_bk hfm e.symm)
      · have := h.rom
        show tot fs + f.da.length ≤ rm + f.da.length
        omega
    have HB2 := Hid.mk hB
    have HF2 := Hid.mk hF
    clear h hl hF hB hfm HB
    go_enter Try.func45, Try.ntmps45
    go_wp2_with (first | (go_at_call 66; refine HF.out.mono ?_; rintro e w' ⟨rfl, rfl⟩) | (go_at_call 70; refine (fsize_any f _ HF2.out).mono ?_; rintro e w' ⟨rfl, rfl⟩))
    go_ret
    exact ⟨rfl, HB2.out⟩
end Go.Proofs.Ythjbhfhdepepmaa
