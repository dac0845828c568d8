/- What a row of bytes that came in is, and how long. -/
import Derived.Test.YtmhmohkeekmmgaaTEo
import Derived.Test.YtmhmohkeekmmgaaTbo2
import Derived.JoinedCond
namespace Go.Proofs.Ytmhmohkeekmmgaa
open Go.ChangeShapes Go.WideShapes Go.ChangeAt Go.RowKit Go.Deep
variable {H : Type} {enc : TypeId × Value → H} {W : World}
theorem bulk_pos (d : DataW H) : 1 ≤ Rows.uptoBulk d := by
  cases d with
  | lit x => cases x <;> simp [Rows.uptoBulk]
  | nil => simp [Rows.uptoBulk]
  | ptr d => simp [Rows.uptoBulk]
  | slice a b => simp [Rows.uptoBulk]
  | agg a => simp [Rows.uptoBulk]
  | iface a b => simp [Rows.uptoBulk]
  | map a => simp [Rows.uptoBulk]
  | held a => simp [Rows.uptoBulk]
theorem bulk_all : ∀ l : List (DataW H), l.length ≤ Rows.uptoBulkAll l
  | [] => Nat.zero_le _
  | d :: r => by
    have := bulk_all r
    have := bulk_pos d
    simp only [Rows.uptoBulkAll, List.length_cons]
    omega
theorem Try.cU8 : Try.prog.cellsOf 5 = 1 := by kernel_rfl
theorem open_byt {fuel : Nat} {cs : List Value} {x : DataW H × List MemPlace} (h : DataW.trod enc Try.prog W 0 (fun _ => true) true fuel 49 cs = some x) : ∃ (a : Option Addr) (cap : Nat) (l : List Nat), cs = [.slice a l.length cap] ∧ Byt W a l ∧ l.length ≤ Rows.uptoBulk x.1 := by
  rcases open_slice Try.underlying49 h with ⟨hcs', hx⟩ | ⟨x', l, c, m, n, D, Pl, hcs', _, hl', hm, hmm, hx, hel⟩
  · exact ⟨none, 0, [], by simpa using hcs', Or.inl rfl, by simp⟩
  · simp only [if_true] at hmm
    subst hx
    have each : ∀ i, i < l → ∃ o : Nat, W.cell? (x'.add i) = some (.int .u8 (o : Nat)) ∧ o < 256 := by
      intro i hi
      obtain ⟨cs', e1, e2⟩ := hel i (by omega)
      rw [Try.cU8] at e1
      obtain ⟨d, q1, r1, w1⟩ := DataW.trod_int Try.underlying5 e2
      have hb := bounds_u8 w1
      have g := (World.cells?_some e1)
      refine ⟨d.toNat, ?_, by omega⟩
      have h0 := g.2.2 0 (by omega)
      rw [q1] at h0
      rw [show ((d.toNat : Nat) : Int) = d from by omega]
      simpa [Addr.add] using h0
    obtain ⟨f, hf⟩ := choose_lt each
    refine ⟨some x', c, (List.range l).map f, by simpa using hcs', ?_, ?_⟩
    · by_cases h0 : l = 0
      · left; subst h0; rfl
      · right
        obtain ⟨b, off, spot⟩ := x'
        have h00 := (hf 0 (by omega)).1
        have hspot : spot = none := by simpa [Addr.add] using World.cell?_spot h00
        subst hspot
        have hlt := World.block_lt_of_cell? _ _ h00
        refine ⟨b, off, rfl, by simpa [Addr.add] using hlt, fun j hj => ?_⟩
        have hj' : j < l := by simpa using hj
        obtain ⟨k0, k1⟩ := hf j hj'
        rw [Go.WideShapes.add_plain] at k0
        have eg : ((List.range l).map f).getD j 0 = f j := by
          rw [List.getD_eq_getElem?_getD, List.getElem?_map, List.getElem?_range hj']
          rfl
        rw [eg]
        exact ⟨k0, k1⟩
    · simp only [List.length_map, List.length_range, Rows.uptoBulk]
      have := bulk_all ((List.range l).map D)
      rw [List.length_map, List.length_range] at this
      omega
end Go.Proofs.Ytmhmohkeekmmgaa
