/- What a file's put leaves. -/
import Derived.Test.YthjbhfhdepepmaaDfr
namespace Go.Proofs.Ythjbhfhdepepmaa
open Go.RowKit
def ovr (l : List UInt8) (a : Nat) (s : List UInt8) : List UInt8 := l.take a ++ s ++ l.drop (a + s.length)
theorem ovr_len (l : List UInt8) (a : Nat) (s : List UInt8) (h : a + s.length ≤ l.length) : (ovr l a s).length = l.length := by unfold ovr; simp; omega
theorem bc_ovr (l : List UInt8) (a : Nat) (s : List UInt8) : Lib.byteCells (ovr l a s) = (Lib.byteCells l).take a ++ Lib.byteCells s ++ (Lib.byteCells l).drop (a + s.length) := by
  unfold ovr
  simp [Lib.byteCells, List.map_take, List.map_drop]
theorem ovr_take {α : Type} (cur s : List α) (a L : Nat) (h : a + s.length ≤ L) (hL : L ≤ cur.length) : (cur.take a ++ s ++ cur.drop (a + s.length)).take L = (cur.take L).take a ++ s ++ (cur.take L).drop (a + s.length) := by
  apply List.ext_getElem?
  intro i
  simp only [List.getElem?_append, List.getElem?_take, List.getElem?_drop, List.length_append, List.length_take]
  by_cases h1 : i < a
  · have e1 : i < min a cur.length := by omega
    have e2 : i < min a (min L cur.length) := by omega
    have e3 : i < min a cur.length + s.length := by omega
    have e4 : i < min a (min L cur.length) + s.length := by omega
    have e5 : i < L := by omega
    simp [e1, e2, e3, e4, e5, h1]
  · have m1 : min a cur.length = a := by omega
    have m2 : min a (min L cur.length) = a := by omega
    rw [m1, m2]
    by_cases h2 : i < a + s.length
    · have e5 : i < L := by omega
      simp [h1, h2, e5]
    · by_cases h3 : i < L
      · have e6 : a + s.length + (i - (a + s.length)) < L := by omega
        simp [h2, h3, e6]
      · have e6 : ¬ a + s.length + (i - (a + s.length)) < L := by omega
        simp [h2, h3, e6]
/-- Bytes written over in a row. -/
theorem own_put {w : World} {v : Value} {l : List UInt8} (h : w.ownsRow 0 5 1 v l.length (Lib.byteCells l)) (a : Nat) (s : ByteArray) (hn : a + s.size ≤ l.length) :
    ∃ v2 r w', (∀ w' : World, (Instr.slice 81 v (some (.int .i64 (a : Int))) none none).run Try.prog w' = .ok v2 w') ∧ (Builtin.copy_ #[81, 9] 3 #[v2, .string s]).run Try.prog w = .ok (.int .i64 r) w' ∧
      w'.ownsRow 0 5 1 v l.length (Lib.byteCells (ovr l a s.data.toList)) ∧ Ch (fun i => v.ownBlock = some i) w w' ∧ ∃ d n c, v2 = .slice d n c := by
  obtain ⟨i0, hi, hz0, hz1, hz2⟩ := info_parts Try.info5
  have hsz : s.data.toList.length = s.size := by rw [← Lib.size_eq]
  have hinfo : (Try.prog.info? 5).map (·.size) = some 1 := by rw [hi]; simp [hz1]
  have hsl : ∀ (ad : Option Addr) (cap : Nat) (w' : World), (Instr.slice 81 (.slice ad l.length cap) (some (.int .i64 (a : Int))) none none).run Try.prog w' = .ok (sliced ad a l.length cap 1) w' := fun ad cap w' => by
    have := run_slice_l (P := Try.prog) (w := w') 81 ad l.length cap underB .i64 (a : Int) (by omega) (by omega)
    rw [this]
    simp [sizeOf, typeInfo, elemB, hi, hz1]
  have hsl' : ∀ (ad : Option Addr) (cap : Nat), ∃ d n c, sliced ad a l.length cap 1 = .slice d n c := fun ad cap => ⟨_, _, _, rfl⟩
  by_cases h0 : s.size = 0
  · obtain ⟨ad, cap, rfl⟩ := own_form h
    have hs0 : s.data.toList = [] := List.eq_nil_of_length_eq_zero (by omega)
    obtain ⟨d, n, c, e⟩ := hsl' ad cap
    refine ⟨_, _, w, hsl ad cap, by rw [e]; exact Lib.run_copy_empty_string w 81 9 3 5 d n c s Try.underBytes (by rw [hinfo]; rfl) h0, ?_, Ch.refl _ _, hsl' ad cap⟩
    rw [bc_ovr, hs0]
    simp [Lib.byteCells]
    exact h
  · rcases h.2 with ⟨rfl, h2⟩ | ⟨g, cap, cur, rfl, hg, hh, hnc, hcm, hcs, htk⟩
    · omega
    · have hcs' : cur.size = cap := by simpa using hcs
      have e1 : sliced (some ⟨g, 0, none⟩) a l.length cap 1 = .slice (some ⟨g, a, none⟩) (l.length - a) (cap - a) := by
        unfold sliced
        rw [if_neg (by omega), Option.map_some, add_lit, Nat.mul_one]
      have hcp := Lib.run_copy_row_string (P := Try.prog) w 81 9 3 5 g a (l.length - a) (cap - a) s cur 5 Try.underBytes hinfo hh (by omega) (by omega)
      refine ⟨_, _, _, hsl _ _, by rw [e1]; exact hcp, ⟨?_, Or.inr ⟨g, cap, _, rfl, hg, setRow_heap w g cur _ 5 _ hh, hnc, hcm, ?_, ?_⟩⟩, ?_, hsl' _ _⟩
      · rw [Lib.byteCells_length, ovr_len _ _ _ (by omega), Nat.mul_one]
      · simp [Lib.byteCells]; omega
      · rw [bc_ovr, ← htk, hsz]
        simp only [Nat.mul_one]
        rw [List.toList_toArray, ← hsz]
        have := ovr_take cur.toList (Lib.byteCells s.data.toList) a l.length (by rw [Lib.byteCells_length]; omega) (by have : cur.toList.length = cur.size := Array.length_toList; omega)
        rw [Lib.byteCells_length] at this
        exact this
      · exact ⟨rfl, rfl, rfl, by simp [World.setRow], fun k _ hk => setRow_other w g k _ (fun e => hk (by rw [e]; rfl))⟩
set_option maxHeartbeats 1000000 in
set_option maxRecDepth 20000 in
theorem put_any (f : Fl) (a : Nat) (s : ByteArray) (w : World) (h : FA w f) (hn : a + s.size ≤ f.da.length) :
    Calls Try.prog 88 #[.pointer (some ⟨f.bk, 0, none⟩), .int .i64 a, .string s] w fun e w' => e = .returned (.tuple #[]) ∧ FA w' { f with da := ovr f.da a s.data.toList } ∧ Ch (fun i => f.sl.ownBlock = some i) w w' := by
  have hrw := h.row
  have hsz : s.data.toList.length = s.size := by rw [← Lib.size_eq]
  obtain ⟨v2, r, w1, h1, h2, h3, h4, d, n2, c2, rfl⟩ := own_put h.2 a s hn
  obtain ⟨g, ho⟩ := h
  have hFA : FA w1 { f with da := ovr f.da a s.data.toList } := ⟨(h4.block f.bk (lt_of_heap g) hrw).trans g, by show World.ownsRow _ _ _ _ _ (ovr f.da a s.data.toList).length _; rw [ovr_len _ _ _ (by omega)]; exact h3⟩
  have c0 : w.cell? ⟨f.bk, 0, none⟩ = some f.sl := (cell_of g).trans rfl
  obtain ⟨ad, cap, e⟩ := own_form ho
  rw [e] at c0 h1
  have h1' := h1 w
  have HF := Hid.mk hFA
  have HC := Hid.mk h4
  generalize f.da.length = N at *
  clear h1 h3 h4 hFA g e ho hn
  go_enter Try.func88, Try.ntmps88
  go_wp2
  go_end0
  exact ⟨rfl, HF.out, HC.out⟩
end Go.Proofs.Ythjbhfhdepepmaa
