/- DiskFaces: the walk. -/
import Derived.Test.YthjbhfhdepepmaaSmt
namespace Go.Proofs.Ythjbhfhdepepmaa
open Go.RowKit
theorem vins_len (nm : ByteArray) : ∀ V, (vins nm V).length = V.length + 1
  | [] => rfl
  | y :: r => by
    unfold vins
    split
    · rfl
    · rw [List.length_cons, vins_len nm r]; rfl
theorem vset_len (nm : ByteArray) (x : List UInt8 × Nat) (V : Vw) : (vset nm x V).length = V.length := by unfold vset; simp
theorem dnV_len (o : Op5) (rm : Nat) (V : Vw) (h : V.length ≤ 65536) : (dnV o rm V).length ≤ 65536 := by
  unfold dnV
  repeat' split
  · unfold crV
    split
    · rename_i hE
      rw [vins_len]
      unfold crE at hE
      split at hE
      · split at hE
        · cases hE
        · split at hE
          · cases hE
          · omega
      · cases hE
    · exact h
  · unfold apV; split
    · exact h
    · rw [vset_len]; exact h
  · unfold cuV; split
    · exact h
    · split
      · rw [vset_len]; exact h
      · exact h
  · unfold synV; split
    · exact h
    · rw [vset_len]; exact h
  · unfold vdel; exact Nat.le_trans (List.length_filter_le _ _) h
  · exact h
theorem s_list (d : Nat) (ft : Nat → Prop) (rm : Nat) (cl cb : Int) (V : Vw) (w : World) (h : Ds w d ft rm cl cb V) (hl : V.length ≤ 65536) :
    Calls Try.prog 39 #[.pointer (some ⟨d, 0, none⟩)] w fun e w' => ∃ v, e = .returned v ∧ Lsd w' w.heap.size v (V.map (fun x => x.1)) ∧ Below w.heap.size w w' := by
  obtain ⟨m, fs, h1, rfl, rfl⟩ := h
  have e : (vw fs).map (fun x => x.1) = fs.map Fl.nm := by unfold vw; rw [List.map_map]; rfl
  rw [e]
  exact list_any d m rm cl cb fs w h1 (by unfold vw at hl; rw [List.length_map] at hl; exact hl)
theorem Lsd.below {w w' : World} {B : Nat} {v : Value} {ns : List ByteArray} (h : Lsd w B v ns) (hb : Below w.heap.size w w') : Lsd w' B v ns :=
  ⟨own_ch h.1 (Ch.of_below (S := fun _ => False) hb) (fun _ _ e => e), h.2⟩
section
variable {w0 : World} {H : Nat} {w : World} {a b : Nat} {rm : Nat} {cla cba : Int} {Va : Vw} {clb cbb : Int} {Vb : Vw}
theorem t_list (h : Two w0 H w a b rm cla cba Va clb cbb Vb) (hl : Va.length ≤ 65536) : Calls Try.prog 39 #[.pointer (some ⟨a, 0, none⟩)] w fun e w' => ∃ v, e = .returned v ∧ Two w0 H w' a b rm cla cba Va clb cbb Vb ∧ Lsd w' w.heap.size v (Va.map (fun x => x.1)) ∧ Below w.heap.size w w' := by
  have h' := h
  obtain ⟨fa, fb, h1, _⟩ := h
  refine (s_list a fa rm cla cba Va w h1 hl).mono ?_
  rintro e w' ⟨v, he, k1, k2⟩
  exact ⟨v, he, h'.kept k2, k1, k2⟩
theorem t_used (h : Two w0 H w a b rm cla cba Va clb cbb Vb) : Calls Try.prog 38 #[.pointer (some ⟨a, 0, none⟩)] w fun e w' => e = .returned (.int .i64 (vt Va)) ∧ ∃ k, w' = w.drewN k := by
  obtain ⟨fa, fb, h1, _⟩ := h
  exact s_used a fa rm cla cba Va w h1
end
theorem s_size' (d : Nat) (ft : Nat → Prop) (rm : Nat) (cl cb : Int) (V : Vw) (nm : ByteArray) (w : World) (h : Ds w d ft rm cl cb V) (hn : nm.size ≤ maxLen) : Calls Try.prog 36 #[.pointer (some ⟨d, 0, none⟩), .string nm] w fun e w' => e = .returned (.tuple #[.int .i64 (szN (vl nm V)), .int .i64 (noE (vl nm V))]) ∧ Aft w ft d rm cl cb V w' := by
  refine (s_size d ft rm cl cb V nm w h hn).mono ?_
  rintro e w' ⟨he, k, rfl⟩
  exact ⟨he, Aft.same h k⟩
/-- The calls of a script, where they lie. -/
def o0 : Op5 := ⟨0, ByteArray.empty, 0, 0, ByteArray.empty⟩
def Scr (w : World) (a : Option Addr) (os : List Op5) : Prop := os = [] ∨ ∃ b off, a = some ⟨b, off, none⟩ ∧ b < w.heap.size ∧ ∀ j, j < os.length → w.cell? ⟨b, off + j * 5, none⟩ = some (.int .i64 (os.getD j o0).k) ∧ w.cell? ⟨b, off + j * 5 + 1, none⟩ = some (.string (os.getD j o0).nm) ∧ w.cell? ⟨b, off + j * 5 + 2, none⟩ = some (.int .i64 (os.getD j o0).a) ∧ w.cell? ⟨b, off + j * 5 + 3, none⟩ = some (.int .i64 (os.getD j o0).b) ∧ w.cell? ⟨b, off + j * 5 + 4, none⟩ = some (.string (os.getD j o0).s)
def OpOk (o : Op5) : Prop := o.nm.size ≤ maxLen ∧ o.a ≤ 9223372036854775807
theorem scr_mem {os : List Op5} {k : Nat} (h : k < os.length) : os.getD k o0 ∈ os := by
  simp [List.getD_eq_getElem?_getD, h]
end Go.Proofs.Ythjbhfhdepepmaa
