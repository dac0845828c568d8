/- A row of texts that came in; NamesParses. -/
import Derived.Test.YtgffipkbbenddaaDoorAwk
import Derived.Test.YtgffipkbbenddaaDoorRpb
import Derived.ProofKit
import Derived.OpenShut
import Derived.ShutString
import Derived.ChangeOld
import Derived.ChangeSame
import Derived.SizedLaws
import Derived.Deep.Slices
import Derived.Deep.Strs
namespace Go.Proofs.YtgffipkbbenddaaDoor
open Go.ChangeShapes Go.WideShapes Go.ChangeAt Go.RowKit Go.Deep Go.Lib
/-- A row of texts where it lies. -/
def Txs (w : World) (a : Option Addr) (l : List ByteArray) : Prop := l = [] ∨ ∃ b off, a = some ⟨b, off, none⟩ ∧ b < w.heap.size ∧ ∀ j, j < l.length → w.cell? ⟨b, off + j, none⟩ = some (.string (l.getD j ByteArray.empty))
theorem Txs.kept {w w' : World} {a : Option Addr} {l : List ByteArray} {H : Nat} (h : Txs w a l) (hb : Below H w w') (hH : w.heap.size ≤ H) : Txs w' a l := by
  rcases h with h | ⟨b, off, h1, h2, h3⟩
  · exact Or.inl h
  · exact Or.inr ⟨b, off, h1, Nat.lt_of_lt_of_le h2 hb.size, fun j hj => (hb.cell (p := ⟨b, off + j, none⟩) (Nat.lt_of_lt_of_le h2 hH)).trans (h3 j hj)⟩
theorem Tryd.cStr9 : Tryd.prog.cellsOf 9 = 1 := by kernel_rfl
theorem Tryd.bStr9 : Tryd.prog.bytesOf 9 = 16 := by kernel_rfl
theorem w_mem_all {H : Type} {P : Program} {e : TypeId} : ∀ {l : List (DataW H)} {d : DataW H}, d ∈ l → ∀ n ∈ d.weights P e, n ∈ DataW.weightsAll P e l
  | x :: l, d, h, n, hn => by
    simp only [DataW.weightsAll, List.mem_append]
    rcases List.mem_cons.1 h with rfl | h
    · exact Or.inl hn
    · exact Or.inr (w_mem_all h n hn)
theorem open_strs9 {H : Type} {enc : TypeId × Value → H} {W : World} {fuel : Nat} {cs : List Value} {x : DataW H × List MemPlace} (h : DataW.trod enc Tryd.prog W 0 (fun _ => true) true fuel 29 cs = some x) (hz : ∀ n ∈ x.1.weights Tryd.prog 29, n ≤ reachBytes) : ∃ (a : Option Addr) (cap : Nat) (l : List ByteArray), cs = [.slice a l.length cap] ∧ Txs W a l ∧ l.length ≤ 8796093022208 ∧ ∀ y ∈ l, y.size ≤ 140737488355328 := by
  rcases open_slice Tryd.underlying29 h with ⟨hcs', hx⟩ | ⟨x', l, c, m, n, D, Pl, hcs', _, hl', hm, hmm, hx, hel⟩
  · exact ⟨none, 0, [], by simpa using hcs', Or.inl rfl, by simp, by simp⟩
  · simp only [if_true] at hmm
    subst hx
    simp only [DataW.weights, Tryd.underlying29, List.length_map, List.length_range, Tryd.bStr9, List.mem_cons, List.mem_append] at hz
    have hl0 := hz _ (Or.inl rfl)
    have each : ∀ i, i < l → ∃ o : ByteArray, W.cell? (x'.add i) = some (.string o) ∧ o.size ≤ 140737488355328 := by
      intro i hi
      obtain ⟨cs', e1, e2⟩ := hel i (by omega)
      rw [Tryd.cStr9] at e1
      obtain ⟨d, q1, r1, w1⟩ := DataW.trod_string Tryd.underlying9 e2
      have g := (World.cells?_some e1)
      have hb' := hz _ (Or.inr (Or.inl (w_mem_all (List.mem_map_of_mem (List.mem_range.2 hi)) d.size (by have r1' : D i = .lit (.string d.data.toList) := congrArg Prod.fst r1; rw [r1']; simp [DataW.weights]))))
      refine ⟨d, ?_, by unfold reachBytes at hb'; omega⟩
      have := g.2.2 0 (by omega)
      rw [q1] at this
      simpa [Nat.mul_one, Addr.add] using this
    obtain ⟨f, hf⟩ := choose_lt each
    refine ⟨some x', c, (List.range l).map f, by simpa using hcs', ?_, ?_, ?_⟩
    · by_cases h0 : l = 0
      · left; subst h0; rfl
      · right
        obtain ⟨b, off, spot⟩ := x'
        have h00 := (hf 0 (by omega)).1
        have hspot : spot = none := by simpa [Addr.add] using World.cell?_spot h00
        subst hspot
        have hlt := World.block_lt_of_cell? _ _ h00
        refine ⟨b, off, rfl, by simpa [Addr.add] using hlt, fun j hj => ?_⟩
        have hj' : j < l := by simpa using hj
        obtain ⟨k0, _⟩ := hf j hj'
        rw [Go.WideShapes.add_plain] at k0
        have eg : ((List.range l).map f).getD j ByteArray.empty = f j := by
          rw [List.getD_eq_getElem?_getD, List.getElem?_map, List.getElem?_range hj']
          rfl
        rw [eg]
        exact k0
    · simp only [List.length_map, List.length_range]
      unfold reachBytes at hl0
      omega
    · intro y hy
      simp only [List.mem_map, List.mem_range] at hy
      obtain ⟨i, hi, rfl⟩ := hy
      exact (hf i hi).2
theorem getD_mem {l : List ByteArray} {j : Nat} (h : j < l.length) : l.getD j ByteArray.empty ∈ l := by
  rw [List.getD_eq_getElem?_getD, List.getElem?_eq_getElem h]
  exact List.getElem_mem _
set_option maxRecDepth 20000 in
theorem parses_walk (l : List ByteArray) (a : Option Addr) (cap : Nat) (w : World) (G : Gd w) (hv : Txs w a l) (hn : l.length ≤ 8796093022208) (hz : ∀ y ∈ l, y.size ≤ 140737488355328) :
    Calls Tryd.prog 4 #[.slice a l.length cap] w fun e w' => e = .returned (.bool true) ∧ Below w.heap.size w w' := by
  have HA := hid (awake_any w G)
  have HP : Hid (∀ (t : ByteArray) (wx : World), t.size ≤ 140737488355328 → Below w.heap.size w wx → Calls Tryd.prog 12 #[.string t] wx fun e w' => e = .returned (prV (prs t.data.toList)) ∧ Below w.heap.size w w') := fun t wx ht hx => by
    refine (parse_any t wx ht (G.kept hx (Nat.le_refl _))).mono ?_
    rintro e w' ⟨rfl, hb⟩
    exact ⟨rfl, hx.trans (hb.mono hx.size)⟩
  have HQ : Hid (∀ (t : ByteArray) (wx : World), t.size ≤ 140737488355328 → Below w.heap.size w wx → Calls Tryd.prog 13 #[.string t] wx fun e w' => e = .returned (prV (prs t.data.toList)) ∧ Below w.heap.size w w') := fun t wx ht hx => by
    refine (rparse_any t wx ht).mono ?_
    rintro e w' ⟨rfl, rfl⟩
    exact ⟨rfl, hx⟩
  have HV := hid hv
  have HZ := hid hz
  obtain ⟨N, hN⟩ : ∃ N, N = l.length := ⟨_, rfl⟩
  have HN := hid hN
  rw [← hN] at hn ⊢
  clear hv hz hN G
  go_enter Tryd.func4, Tryd.ntmps4
  go_wp2_with (go_at_call 9; refine HA.out.mono ?_; rintro e w1 ⟨rfl, hb1⟩)
  go_loopg [3] N (fun k i wr => ∃ j : Nat, j + k = N ∧ i = .int .i64 j ∧ Hid (Below w.heap.size w wr))
  case atStart => exact ⟨0, by omega, rfl, hb1⟩
  case round =>
    clear HA hb1
    obtain ⟨j, hj, rfl, HB⟩ := hrel
    by_cases hlt : j < N
    · obtain ⟨k', rfl⟩ : ∃ k', gk = k' + 1 := ⟨gk - 1, by omega⟩
      have hltI : (j : Int) < N := by omega
      rcases HV.out with e | ⟨bk, off, rfl, hbk, hc⟩
      · exact absurd hlt (by rw [HN.out, e]; simp)
      have c0 := hc j (by rw [← HN.out]; exact hlt)
      have ht := HZ.out _ (getD_mem (by rw [← HN.out]; exact hlt))
      generalize l.getD j ByteArray.empty = t at *
      have H1 := hid (fun wx hx => HP.out t wx ht hx)
      have H2 := hid (fun wx hx => HQ.out t wx ht hx)
      have HC : Hid (∀ wx, Below w.heap.size w wx → wx.cell? ⟨bk, off + j, none⟩ = some (.string t)) := fun wx hx => (hx.cell (p := ⟨bk, off + j, none⟩) hbk).trans c0
      have hb0 := HB.out
      have x0 := HC.out _ hb0
      have HJ := hid (And.intro hj hn)
      clear hc c0 HP HQ ht HB hj
      generalize prs t.data.toList = P at *
      obtain ⟨p, q, o, hP⟩ : ∃ (p q : Nat) (o : Bool), prV P = .tuple #[.int .i64 p, .int .i64 q, .bool o] := by
        rcases P with _ | ⟨b', k''⟩
        · exact ⟨0, 0, false, rfl⟩
        · exact ⟨b', k'', true, rfl⟩
      rw [hP] at H1 H2
      clear hP
      go_wp2_with (first | (go_at_call 12; refine (H1.out _ hb0).mono ?_; rintro e w2 ⟨rfl, hb2⟩; have x2 := HC.out _ hb2) | (go_at_call 13; refine (H2.out _ hb2).mono ?_; rintro e w3 ⟨rfl, hb3⟩))
      go_roundg k'
      case measure => omega
      case rel => exact ⟨j + 1, by have := HJ.out.1; omega, congrArg (Value.int .i64) (by omega), hb3⟩
    · have hltI : ¬ (j : Int) < N := by omega
      have HB' := HB
      clear HB
      go_wp2_with fail
      go_ret
      exact ⟨rfl, HB'.out⟩
end Go.Proofs.YtgffipkbbenddaaDoor
